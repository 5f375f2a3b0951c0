/-
  Copies of a range, of what two spans share.
-/
import Derived.Test.YtninjoepdchmiaaRngs
import Derived.Test.YtninjoepdchmiaaGRow
import Derived.Deep.RegionLaw
import Derived.Deep.CutBlock
set_option linter.unusedVariables false
namespace Go.Proofs.Ytninjoepdchmiaa
open Go.RowKit

/-- a text in new memory -/
def NewT (w : World) (b : Nat) (A : Option Addr) (n c : Nat) (l : List UInt8) : Prop := Own w b (.slice A n c) l ∧ n = l.length ∧ (A = none → c = 0)
theorem NewT.keep {w w' : World} {b n c : Nat} {A : Option Addr} {l : List UInt8} (h : NewT w b A n c l) (hb : Below w.heap.size w w') : NewT w' b A n c l := ⟨h.1.belowFar hb, h.2⟩
theorem NewT.turn {M : Nat → Prop} {w w' : World} {b n c : Nat} {A : Option Addr} {l : List UInt8} (h : NewT w b A n c l) (hb : Turn M w w') (hM : ∀ k, b ≤ k → k < w.heap.size → ¬ M k) : NewT w' b A n c l :=
  ⟨row_block h.1 (fun k hk => hb.block k (World.ownsRow.lt h.1 k hk).2 (hM k (World.ownsRow.lt h.1 k hk).1 (World.ownsRow.lt h.1 k hk).2)), h.2⟩
theorem NewT.lower {w : World} {b b' n c : Nat} {A : Option Addr} {l : List UInt8} (h : NewT w b A n c l) (hb : b' ≤ b) : NewT w b' A n c l := ⟨h.1.mono hb, h.2⟩
theorem NewT.cast {w : World} {b n c : Nat} {A : Option Addr} {l : List UInt8} (h : NewT w b A n c l) : NewT w b A l.length c l := by
  have hn := h.2.1
  subst hn
  exact h
theorem sclone_new (A : Option Addr) (n c : Nat) (l : List UInt8) (w : World) (hn : n = l.length) (hr : Rd w w.heap.size A l) (hl : l.length ≤ 140737488351232) (hA : A = none → c = 0) :
    Calls Try.prog 58 #[.slice A n c] w fun e w' => ∃ A' c', e = .returned (.slice A' n c') ∧ NewT w' w.heap.size A' n c' l ∧ Below w.heap.size w w' :=
  (sclone_any A n c l w hn hr hl hA).mono fun e w' ⟨v, he, ho, hb⟩ => by
    obtain ⟨A', c', rfl, _, hc⟩ := ho.formN hn.symm
    exact ⟨A', c', he, ⟨ho, hn, hc⟩, hb⟩
/-- a range in new memory -/
def NewR (w : World) (b : Nat) (x : RV) : Prop := NewT w b x.F x.d.fr.length x.fc x.d.fr ∧ NewT w b x.T x.d.to.length x.tc x.d.to

set_option maxHeartbeats 1600000 in
set_option maxRecDepth 100000 in
theorem clone_any (x : RV) (w : World) (hx : RTx w w.heap.size x) :
    Calls Try.prog 61 #[rval x] w fun e w' => ∃ y : RV, e = .returned (rval y) ∧ y.d = x.d ∧ NewR w' w.heap.size y ∧ Below w.heap.size w w' := by
  obtain ⟨⟨id, gen, fr, en⟩, F, fc, T, tc⟩ := x
  unfold NewR
  simp only [rval]
  obtain ⟨nf, hnf⟩ : ∃ n, n = fr.length := ⟨_, rfl⟩
  obtain ⟨nt, hnt⟩ : ∃ n, n = en.length := ⟨_, rfl⟩
  obtain ⟨W, hW⟩ : ∃ x, x = (w.alloc (.cells #[.int .i64 id, .slice F nf fc, .slice T nt tc, .int .i64 gen] 46)).alloc (.cells #[.int .i64 0, .slice none 0 0, .slice none 0 0, .int .i64 0] 46) := ⟨_, rfl⟩
  have hz : Hid (W.heap.size = w.heap.size + 1 + 1) := by show _ = _; rw [hW]; simp
  have hb0 : Hid (Below w.heap.size w W) := by show Below _ _ _; rw [hW]; exact (below1' w _).alloc (by simp) _
  have B0 : Hid (∀ j v, (#[Value.int .i64 id, .slice F nf fc, .slice T nt tc, .int .i64 gen] : Array Value)[j]? = some v → Cell W w.heap.size j v) := fun j v h => by
    rw [hW]
    exact (Cell.new w _ 46 j v h).alloc _
  have R0 : Hid (∀ j v, (#[Value.int .i64 0, .slice none 0 0, .slice none 0 0, .int .i64 0] : Array Value)[j]? = some v → Cell W (w.heap.size + 1) j v) := fun j v h => by
    rw [hW]
    have h2 := Cell.new (w.alloc (.cells #[.int .i64 id, .slice F nf fc, .slice T nt tc, .int .i64 gen] 46)) _ 46 j v h
    rw [show (w.alloc (.cells #[.int .i64 id, .slice F nf fc, .slice T nt tc, .int .i64 gen] 46)).heap.size = w.heap.size + 1 by simp] at h2
    exact h2
  have CF := Lib.hid (fun (W' : World) (h : Below W.heap.size W W') => sclone_new F nf fc fr W' hnf ((hx.f.keep' hb0.out).keep' h) hx.lf hx.nf)
  have CT := Lib.hid (fun (W' : World) (h : Below W.heap.size W W') => sclone_new T nt tc en W' hnt ((hx.t.keep' hb0.out).keep' h) hx.lt hx.nt)
  have HNF := Lib.hid (And.intro hnf hnt)
  rw [← hnf, ← hnt]
  clear hx hnf hnt
  obtain ⟨u, hu⟩ : ∃ u, u = w.heap.size := ⟨_, rfl⟩
  have HU := Lib.hid hu
  rw [← hu] at B0 R0
  have x1 := (B0.out 1 _ rfl).1
  have x2 := (B0.out 2 _ rfl).1
  go_enter Try.func61, Try.ntmps61
  go_upto_region 1 with fail
  rw [← hu, ← hW]
  clear hW hu
  go_region_law (first
    | (go_simp; go_at_call 58; refine (CT.out w3 h3.out).mono ?_; rintro e wz ⟨A5, c5, rfl, nz', hz'⟩; have HZ := Lib.hid (h3.out.trans (hz'.mono h3.out.size)); have N5 := Lib.hid (NewT.lower nz' h3.out.size); have N3 := Lib.hid (NewT.keep n3.out hz'); have X3 := (B0.out 1 _ rfl).keep HZ.out; have f3 := X3.2; have x3 := X3.1; have X4 := (B0.out 2 _ rfl).keep HZ.out; have f4 := X4.2; have x4 := X4.1; clear nz' hz' X3 X4 n3)
    | (go_simp; go_at_call 58; refine (CF.out w5 h5.out).mono ?_; rintro e wz ⟨A3, c3, rfl, nz', hz'⟩; have HZ := Lib.hid (h5.out.trans (hz'.mono h5.out.size)); have N3 := Lib.hid (NewT.lower nz' h5.out.size); have N5 := Lib.hid (NewT.keep n5.out hz'); have X3 := (B0.out 1 _ rfl).keep HZ.out; have f3 := X3.2; have x3 := X3.1; have X4 := (B0.out 2 _ rfl).keep HZ.out; have f4 := X4.2; have x4 := X4.1; clear nz' hz' X3 X4 n5)
    | (go_simp; go_at_call_of 58 (Value.slice F nf fc); refine (CF.out W.drew (below_drew (Below.refl _ _))).mono ?_; rintro e w3 ⟨A3, c3, rfl, n3', h3'⟩; have n3 := Lib.hid n3'; have h3 := Lib.hid (below_of_drew h3'); have y2 := ((B0.out 2 _ rfl).keep h3.out).1; clear n3' h3')
    | (go_simp; go_at_call_of 58 (Value.slice T nt tc); refine (CT.out W.drew (below_drew (Below.refl _ _))).mono ?_; rintro e w5 ⟨A5, c5, rfl, n5', h5'⟩; have n5 := Lib.hid n5'; have h5 := Lib.hid (below_of_drew h5'); have y1 := ((B0.out 1 _ rfl).keep h5.out).1; clear n5' h5'))
  all_goals
    clear x1 x2 x3 x4 f3 f4
    have Z0 := (((B0.out 0 _ rfl).keep HZ.out).far (p := ⟨u, 1, none⟩) (by simp) (.slice A3 nf c3)).far (p := ⟨u, 2, none⟩) (by simp) (.slice A5 nt c5)
    have Z1 := (((B0.out 1 _ rfl).keep HZ.out).set (.slice A3 nf c3)).far (p := ⟨u, 2, none⟩) (by simp) (.slice A5 nt c5)
    have Z2 := (((B0.out 2 _ rfl).keep HZ.out).far (p := ⟨u, 1, none⟩) (by simp) (.slice A3 nf c3)).set (.slice A5 nt c5)
    have Z3 := (((B0.out 3 _ rfl).keep HZ.out).far (p := ⟨u, 1, none⟩) (by simp) (.slice A3 nf c3)).far (p := ⟨u, 2, none⟩) (by simp) (.slice A5 nt c5)
    have TZ := Lib.hid (((Turn.refl (fun k => k = u) wz).set (p := ⟨u, 1, none⟩) (fun _ => rfl) (.slice A3 nf c3)).set (p := ⟨u, 2, none⟩) (fun _ => rfl) (.slice A5 nt c5))
    have Y := Lib.hid (fun j v h => (((R0.out j v h).keep HZ.out).far (p := ⟨u, 1, none⟩) (by simp) (.slice A3 nf c3)).far (p := ⟨u, 2, none⟩) (by simp) (.slice A5 nt c5))
    obtain ⟨WF, hWF⟩ : ∃ x, x = ((wz.setCell ⟨u, 1, none⟩ (.slice A3 nf c3)).setCell ⟨u, 2, none⟩ (.slice A5 nt c5)) := ⟨_, rfl⟩
    rw [← hWF] at Z0 Z1 Z2 Z3 TZ Y
    rw [← hWF]
    clear hWF
    obtain ⟨z0, _⟩ := Z0
    obtain ⟨z1, _⟩ := Z1
    obtain ⟨z2, _⟩ := Z2
    obtain ⟨z3, _⟩ := Z3
    obtain ⟨y0, fy0⟩ := Y.out 0 _ rfl
    obtain ⟨y1, fy1⟩ := Y.out 1 _ rfl
    obtain ⟨y2', fy2⟩ := Y.out 2 _ rfl
    obtain ⟨y3, fy3⟩ := Y.out 3 _ rfl
    go_wp2
    have TE0 := Turn.mono (M' := fun k => k = u ∨ k = u + 1) TZ.out (fun k _ h => .inl h)
    have TE := ((((TE0.set (p := ⟨u + 1, 0, none⟩) (fun _ => .inr rfl) (.int .i64 id)).set (p := ⟨u + 1, 1, none⟩) (fun _ => .inr rfl) (.slice A3 nf c3)).set (p := ⟨u + 1, 2, none⟩) (fun _ => .inr rfl) (.slice A5 nt c5)).set (p := ⟨u + 1, 3, none⟩) (fun _ => .inr rfl) (.int .i64 gen))
    have hM : ∀ k, W.heap.size ≤ k → k < wz.heap.size → ¬ (k = u ∨ k = u + 1) := fun k h1 _ h2 => by have := hz.out; have := HU.out; omega
    refine bodyPost_ret (v := .agg #[.int .i64 id, .slice A3 nf c3, .slice A5 nt c5, .int .i64 gen]) (by rw [results_cell1 rfl]; go_simp) rfl ⟨⟨⟨id, gen, fr, en⟩, A3, c3, A5, c5⟩, by rw [HNF.out.1, HNF.out.2], rfl, ⟨?_, ?_⟩, ?_⟩
    · exact ((N3.out.turn TE hM).lower hb0.out.size).cast
    · exact ((N5.out.turn TE hM).lower hb0.out.size).cast
    · exact (hb0.out.trans (HZ.out.mono hb0.out.size)).trans (TE.below (fun k _ h => by have := HU.out; omega) (by have := HZ.out.size; have := hz.out; omega))
end Go.Proofs.Ytninjoepdchmiaa
