/-
  The reference's line in memory; the contract of its Send.
-/
import Derived.Test.YtekgmgiokmbliaaOnce
set_option linter.unusedVariables false
namespace Go.Proofs.Ytekgmgiokmbliaa
open Go.RowKit

/-- the reference's line: the row, the last number -/
structure RNet (w : World) (g base : Nat) (last : Int) (fv : Value) (es : List Ev) : Prop where
  c0 : Cell w g 1 (.int .i64 last)
  c1 : Cell w g 0 fv
  own : OwnF w base fv es
  gb : base ≤ g
  apart : fv.ownBlock ≠ some g

theorem Two.drew {g : Nat} {row : Option Nat} {w v : World} (h : Two g row w v) : Two g row w v.drew := ⟨h.os, h.tape, h.output, h.size, h.block⟩
theorem Cell.keepAt {w w' : World} {k i B : Nat} {x : Value} (h : Cell w k i x) (hb : Below B w w') (hk : k < B) : Cell w' k i x := cell_block h (hb.block k hk)
theorem OwnF.keepAt {w w' : World} {base B : Nat} {v : Value} {l : List Ev} (h : OwnF w base v l) (hb : Below B w w') (hk : ∀ b, v.ownBlock = some b → b < B) : OwnF w' base v l := row_block h (fun b hv => hb.block b (hk b hv))

set_option maxRecDepth 100000 in
theorem rnode_any (n : Int) (w : World) : Calls Try.prog 33 #[.int .i64 n] w fun e w' => e = .returned (.bool (isNodeB n)) ∧ w = w' := by
  unfold isNodeB
  by_cases h0 : 1 ≤ n
  · go_enter Try.func33, Try.ntmps33
    go_wp2
    go_ret
    simp [h0]
  · rw [decide_eq_false (by omega)]
    go_enter Try.func33, Try.ntmps33
    go_wp2
    go_ret
    simp

set_option maxHeartbeats 1600000 in
set_option maxRecDepth 100000 in
theorem rsend_full (g base : Nat) (last : Int) (fv : Value) (es : List Ev) (i f t k : Int) (A : Option Addr) (n c : Nat) (w : World) (hN : RNet w g base last fv es) (hf : isNodeB f = true) (ht : isNodeB t = true) (hk1 : 1 ≤ k) (hk2 : k ≤ 255) (hn : n ≤ 1048576) (hes : 1000 ≤ es.length) :
    Calls Try.prog 12 #[.pointer (some ⟨g, 0, none⟩), .agg #[.int .i64 i, .int .i64 f, .int .i64 t, .int .i64 k, .slice A n c]] w fun e w' => e = .returned (.tuple #[.int .i64 0, .int .i64 90]) ∧ Below w.heap.size w w' := by
  have hb := below1' w (.cells #[.int .i64 i, .int .i64 f, .int .i64 t, .int .i64 k, .slice A n c] 32)
  obtain ⟨fA, fc, rfl⟩ := hN.own.form
  have k1 := (hN.c1.keep hb).1
  have NF := Lib.hid (rnode_any f)
  have NT := Lib.hid (rnode_any t)
  rw [hf] at NF
  rw [ht] at NT
  obtain ⟨m, hm⟩ : ∃ m, m = es.length := ⟨_, rfl⟩
  rw [← hm] at k1 hes
  have hg := hN.c0.lt
  clear hf ht hm hN
  go_enter Try.func12, Try.ntmps12
  go_wp2_with fail
  refine (NF.out _).mono ?_
  rintro e w1 ⟨rfl, rfl⟩
  go_wp2_with fail
  refine (NT.out _).mono ?_
  rintro e w1 ⟨rfl, rfl⟩
  go_wp2
  go_ret2
  exact ⟨rfl, hb⟩

set_option maxHeartbeats 3200000 in
set_option maxRecDepth 100000 in
theorem rsend_ok (g base : Nat) (last : Int) (fv : Value) (es : List Ev) (i f t k : Int) (A : Option Addr) (n c : Nat) (l : List UInt8) (w : World) (hN : RNet w g base last fv es) (hf : isNodeB f = true) (ht : isNodeB t = true) (hk1 : 1 ≤ k) (hk2 : k ≤ 255) (hn : n = l.length) (hn2 : n ≤ 1048576) (hr : Rd w w.heap.size A l) (hAg : ∀ q o, A = some ⟨q, o, none⟩ → l ≠ [] → q ≠ g ∧ some q ≠ fv.ownBlock) (hes : es.length < 1000) (hl1 : 0 ≤ last) (hl2 : last < 4611686018427387904) :
    Calls Try.prog 12 #[.pointer (some ⟨g, 0, none⟩), .agg #[.int .i64 i, .int .i64 f, .int .i64 t, .int .i64 k, .slice A n c]] w fun e w' => ∃ v fv', e = .returned (.tuple #[.int .i64 (last + 1), .int .i64 0]) ∧ RNet w' g base (last + 1) fv' (es ++ [(last + 1, f, t, k, v)]) ∧ Own w' w.heap.size v l ∧ (∀ b, v.ownBlock = some b → fv'.ownBlock ≠ some b) ∧ Two g fv.ownBlock w w' ∧ (fv'.ownBlock = fv.ownBlock ∨ ∀ r, fv'.ownBlock = some r → w.heap.size ≤ r) := by
  have hb := below1' w (.cells #[.int .i64 i, .int .i64 f, .int .i64 t, .int .i64 k, .slice A n c] 32)
  have B := fun (j : Nat) (x : Value) (h : (#[.int .i64 i, .int .i64 f, .int .i64 t, .int .i64 k, .slice A n c] : Array Value)[j]? = some x) => Cell.new w #[.int .i64 i, .int .i64 f, .int .i64 t, .int .i64 k, .slice A n c] 32 j x h
  have B0 := B 0 (.int .i64 i) rfl
  have B1 := B 1 (.int .i64 f) rfl
  have B2 := B 2 (.int .i64 t) rfl
  have B3 := B 3 (.int .i64 k) rfl
  have B4 := B 4 (.slice A n c) rfl
  have hgw := hN.c0.lt
  have K0 := hN.c0.keep hb
  have K1 := hN.c1.keep hb
  have OF := hN.own.below hb
  have NF := Lib.hid (rnode_any f)
  have NT := Lib.hid (rnode_any t)
  rw [hf] at NF
  rw [ht] at NT
  obtain ⟨fA, fc, rfl⟩ := hN.own.form
  have hap := hN.apart
  have hgb := hN.gb
  have hrow : ∀ r, (Value.slice fA es.length fc).ownBlock = some r → base ≤ r ∧ r < w.heap.size := fun r hr => World.ownsRow.lt hN.own r hr
  have hsum : IntKind.i64.wrap (last + 1) = last + 1 := IntWalk.i64_in _ (by omega)
  have HK0 := Lib.hid K0
  have HK1 := Lib.hid K1
  have HB0 := Lib.hid B0
  have HB1 := Lib.hid B1
  have HB2 := Lib.hid B2
  have HB3 := Lib.hid B3
  have HB4 := Lib.hid B4
  obtain ⟨k0, g0⟩ := K0
  obtain ⟨k1, g1⟩ := K1
  obtain ⟨b0, f0⟩ := B0
  obtain ⟨b1, f1⟩ := B1
  obtain ⟨b2, f2⟩ := B2
  obtain ⟨b3, f3⟩ := B3
  obtain ⟨b4, f4⟩ := B4
  obtain ⟨m, hm⟩ : ∃ m, m = es.length := ⟨_, rfl⟩
  rw [← hm] at k1 hes
  replace HK1 := HK1.out
  rw [← hm] at HK1
  replace HK1 := Lib.hid HK1
  rw [← hm] at OF hap hrow hAg
  rw [← hm]
  have hmh := Lib.hid hm
  have hrh := Lib.hid hr
  have hnh := Lib.hid hn
  have OFh := Lib.hid OF
  clear hf ht hm hN B hr hn OF
  go_enter Try.func12, Try.ntmps12
  go_wp2_with fail
  refine (NF.out _).mono ?_
  rintro e w1 ⟨rfl, rfl⟩
  obtain ⟨W, hW⟩ : ∃ W, W = w.alloc (.cells #[.int .i64 i, .int .i64 f, .int .i64 t, .int .i64 k, .slice A n c] 32) := ⟨_, rfl⟩
  have hWs : W.heap.size = w.heap.size + 1 := by rw [hW]; simp
  rw [← hW] at HK0 HK1 HB0 HB1 HB2 HB3 HB4 k0 k1 b0 b1 b2 b3 b4 f0 f1 f2 f3 f4 g0 g1 hb OFh
  rw [← hW]
  clear hW
  go_wp2_with fail
  refine (NT.out _).mono ?_
  rintro e w1 ⟨rfl, rfl⟩
  have X0 := (HK0.out.set (.int .i64 (last + 1))).far (p := ⟨w.heap.size, 0, none⟩) (by intro h; injection h with h; omega) (.int .i64 (last + 1))
  have X1 := (HK1.out.far (p := ⟨g, 1, none⟩) (by simp) (.int .i64 (last + 1))).far (p := ⟨w.heap.size, 0, none⟩) (by intro h; injection h with h; omega) (.int .i64 (last + 1))
  have Y0 := (HB0.out.far (p := ⟨g, 1, none⟩) (by intro h; injection h with h; omega) (.int .i64 (last + 1))).set (.int .i64 (last + 1))
  have Y1 := (HB1.out.far (p := ⟨g, 1, none⟩) (by intro h; injection h with h; omega) (.int .i64 (last + 1))).far (p := ⟨w.heap.size, 0, none⟩) (by simp) (.int .i64 (last + 1))
  have Y2 := (HB2.out.far (p := ⟨g, 1, none⟩) (by intro h; injection h with h; omega) (.int .i64 (last + 1))).far (p := ⟨w.heap.size, 0, none⟩) (by simp) (.int .i64 (last + 1))
  have Y3 := (HB3.out.far (p := ⟨g, 1, none⟩) (by intro h; injection h with h; omega) (.int .i64 (last + 1))).far (p := ⟨w.heap.size, 0, none⟩) (by simp) (.int .i64 (last + 1))
  have Y4 := (HB4.out.far (p := ⟨g, 1, none⟩) (by intro h; injection h with h; omega) (.int .i64 (last + 1))).far (p := ⟨w.heap.size, 0, none⟩) (by simp) (.int .i64 (last + 1))
  have OX := (OFh.out.far (p := ⟨g, 1, none⟩) hap (.int .i64 (last + 1))).far (p := ⟨w.heap.size, 0, none⟩) (fun h => Nat.lt_irrefl _ (hrow _ h).2) (.int .i64 (last + 1))
  have T0 : Two g (Value.slice fA m fc).ownBlock w ((W.setCell ⟨g, 1, none⟩ (.int .i64 (last + 1))).setCell ⟨w.heap.size, 0, none⟩ (.int .i64 (last + 1))) := ((Two.of_below hb).setg 1 _).setn w.heap.size 0 (Nat.le_refl _) _
  have hXs : ((W.setCell ⟨g, 1, none⟩ (.int .i64 (last + 1))).setCell ⟨w.heap.size, 0, none⟩ (.int .i64 (last + 1))).heap.size = w.heap.size + 1 := by simp [World.setCell]; exact hWs
  have RX : Rd ((W.setCell ⟨g, 1, none⟩ (.int .i64 (last + 1))).setCell ⟨w.heap.size, 0, none⟩ (.int .i64 (last + 1))) ((W.setCell ⟨g, 1, none⟩ (.int .i64 (last + 1))).setCell ⟨w.heap.size, 0, none⟩ (.int .i64 (last + 1))).heap.size A l := (hrh.out.two (Nat.le_refl _) T0 hAg).more (by omega)
  have hE := below1' ((W.setCell ⟨g, 1, none⟩ (.int .i64 (last + 1))).setCell ⟨w.heap.size, 0, none⟩ (.int .i64 (last + 1))) (.cells #[] 5)
  have RE := Lib.hid ((RX.below hE).more hE.size)
  have OM := own_made ((W.setCell ⟨g, 1, none⟩ (.int .i64 (last + 1))).setCell ⟨w.heap.size, 0, none⟩ (.int .i64 (last + 1)))
  rw [hXs] at OM hE
  replace X0 := Lib.hid (X0.keepAt hE (by omega))
  replace X1 := Lib.hid (X1.keepAt hE (by omega))
  replace Y0 := Lib.hid (Y0.keepAt hE (by omega))
  replace Y1 := Lib.hid (Y1.keepAt hE (by omega))
  replace Y2 := Lib.hid (Y2.keepAt hE (by omega))
  replace Y3 := Lib.hid (Y3.keepAt hE (by omega))
  replace Y4 := Lib.hid (Y4.keepAt hE (by omega))
  replace OX := Lib.hid (OX.keepAt hE (fun b hb => by have := (hrow b hb).2; omega))
  replace T0 := Lib.hid (T0.then (hE.mono (by omega)))
  have OMh := Lib.hid OM
  have hbE : w.heap.size + 1 ≤ (((W.setCell ⟨g, 1, none⟩ (.int .i64 (last + 1))).setCell ⟨w.heap.size, 0, none⟩ (.int .i64 (last + 1))).alloc (.cells #[] 5)).heap.size := by have := hE.size; omega
  have HbE := Lib.hid hbE
  have hl5 : Hid (([] : List UInt8).length + l.length ≤ 225179981368000) := by have := hnh.out; show _ ≤ _; simp; omega
  clear RX hE OM hXs hbE
  have hgr : g ≠ w.heap.size := by omega
  go_wp2_with (at_builtin; refine app_bytes _ (w.heap.size + 1) (.slice (some ⟨w.heap.size + 1, 0, none⟩) 0 0) [] l A c rfl (.tmp 54) (.tmp 56) rfl (by simp [Act.eval]) (by rw [← hnh.out]; rfl) OMh.out RE.out hl5.out HbE.out ?_)
  intro v2 w2 o2 hb2 _
  obtain ⟨vA, vc, hv, _⟩ := o2.rd
  rw [← hnh.out] at hv
  subst hv
  have wb := hb2.size
  have T2 := (T0.out.then (hb2.mono (by omega))).setn w.heap.size 4 (Nat.le_refl _) (.slice vA n vc)
  have Z0 := (X0.out.keepAt hb2 (by omega)).far (p := ⟨w.heap.size, 4, none⟩) (by intro h; injection h with h; omega) (.slice vA n vc)
  have Z1 := (X1.out.keepAt hb2 (by omega)).far (p := ⟨w.heap.size, 4, none⟩) (by intro h; injection h with h; omega) (.slice vA n vc)
  have Q0 := (Y0.out.keepAt hb2 (by omega)).far (p := ⟨w.heap.size, 4, none⟩) (by simp) (.slice vA n vc)
  have Q1 := (Y1.out.keepAt hb2 (by omega)).far (p := ⟨w.heap.size, 4, none⟩) (by simp) (.slice vA n vc)
  have Q2 := (Y2.out.keepAt hb2 (by omega)).far (p := ⟨w.heap.size, 4, none⟩) (by simp) (.slice vA n vc)
  have Q3 := (Y3.out.keepAt hb2 (by omega)).far (p := ⟨w.heap.size, 4, none⟩) (by simp) (.slice vA n vc)
  have Q4' := Y4.out.keepAt hb2 (by omega)
  have Q4 := Q4'.set (.slice vA n vc)
  have OZ := (OX.out.keepAt hb2 (fun b hb => by have := (hrow b hb).2; omega)).far (p := ⟨w.heap.size, 4, none⟩) (fun h => Nat.lt_irrefl _ (hrow _ h).2) (.slice vA n vc)
  have ov := o2.setFar (p := ⟨w.heap.size, 4, none⟩) (by show w.heap.size < _; omega) (.slice vA n vc)
  obtain ⟨q4, p4⟩ := Q4'
  have hZs : (w2.setCell ⟨w.heap.size, 4, none⟩ (.slice vA n vc)).heap.size = w2.heap.size := by simp [World.setCell]
  have HZ := Lib.hid (And.intro T2 (And.intro Z0 (And.intro Z1 (And.intro Q0 (And.intro Q1 (And.intro Q2 (And.intro Q3 (And.intro Q4 (And.intro OZ ov)))))))))
  replace HbE := HbE.out
  have hw2 : w.heap.size + 1 ≤ w2.heap.size := Nat.le_trans HbE wb
  clear T2 Z0 Z1 Q0 Q1 Q2 Q3 Q4 OZ ov T0 X0 X1 Y0 Y1 Y2 Y3 Y4 OX hb2 o2 HK0 HK1 HB0 HB1 HB2 HB3 HB4 OFh OMh RE hl5 HbE k0 k1 b0 b1 b2 b3 b4 f0 f1 f2 f3 f4 g0 g1 hb NF NT hWs wb
  go_wp2_with fail
  obtain ⟨Z, hZ⟩ : ∃ Z, Z = w2.setCell ⟨w.heap.size, 4, none⟩ (.slice vA n vc) := ⟨_, rfl⟩
  rw [← hZ] at HZ hZs
  rw [← hZ]
  clear hZ
  obtain ⟨T2, Z0, Z1, Q0, Q1, Q2, Q3, Q4, OZ, ov⟩ := HZ.out
  have z1 := Z1.1
  have zf1 := Z1.2
  have v0 := Q0.1
  have v1 := Q1.1
  have v2 := Q2.1
  have v3 := Q3.1
  have v4 := Q4.1
  replace Z0 := Lib.hid Z0
  replace Z1 := Lib.hid Z1
  replace Q0 := Lib.hid Q0
  replace OZ := Lib.hid OZ
  have hesl : es.length < 1000 := by have := hmh.out; omega
  have hbZ : base ≤ Z.heap.size := by omega
  have hZw : w.heap.size + 1 ≤ Z.heap.size := by omega
  clear hZs hw2
  have zA := (Z1.alloc (.cells #[.int .i64 (last + 1), .int .i64 f, .int .i64 t, .int .i64 k, .slice vA n vc] 32)).1
  go_region_law (first
    | (refine step_app_ev Z.drew base (.slice fA m fc) es (last + 1, f, t, k, .slice vA n vc) rfl (.tmp 63) (.tmp 65) rfl rfl rfl OZ.out rfl hesl hbZ ?_; intro gq cap w3 of3 hg3 hl3 hlt3; have X0 := (Z0.out.drew.alloc (.cells #[.int .i64 (last + 1), .int .i64 f, .int .i64 t, .int .i64 k, .slice vA n vc] 32)).grown hg3 (Ne.symm hap); have X1 := (Z1.drew.alloc (.cells #[.int .i64 (last + 1), .int .i64 f, .int .i64 t, .int .i64 k, .slice vA n vc] 32)).grown hg3 (Ne.symm hap); have x1 := X1.1; have xf1 := X1.2; have Y0 := (Q0.out.drew.alloc (.cells #[.int .i64 (last + 1), .int .i64 f, .int .i64 t, .int .i64 k, .slice vA n vc] 32)).grown hg3 (fun e => Nat.lt_irrefl _ (hrow _ e.symm).2)))
  all_goals
    have zf := X0.far (p := ⟨g, 0, none⟩) (by simp) (.slice (some ⟨gq, 0, none⟩) (es.length + 1) cap)
    have zs := X1.set (.slice (some ⟨gq, 0, none⟩) (es.length + 1) cap)
    have y0 := Y0.far (p := ⟨g, 0, none⟩) (by intro h; injection h with h; exact hgr h) (.slice (some ⟨gq, 0, none⟩) (es.length + 1) cap)
    have hgq : gq ≠ g := by
      rcases hl3 with h | h
      · intro e
        rw [e] at h
        exact hap h
      · have := Z1.lt
        have h : gq = Z.heap.size + 1 := h
        omega
    have of4 := of3.far (p := ⟨g, 0, none⟩) (by intro h; injection h with h; exact hgq h) (.slice (some ⟨gq, 0, none⟩) (es.length + 1) cap)
    have hbt := below1' Z.drew (.cells #[.int .i64 (last + 1), .int .i64 f, .int .i64 t, .int .i64 k, .slice vA n vc] 32)
    have ovd : Own Z.drew (w.heap.size + 1) (.slice vA n vc) l := World.ownsRow.drew ov
    have ov2 := (((ovd.belowFar hbt).grownFar hg3 (fun r hr => by have := (hrow r hr).2; show r < w.heap.size + 1; omega)).setFar (p := ⟨g, 0, none⟩) (by show g < w.heap.size + 1; omega) (.slice (some ⟨gq, 0, none⟩) (es.length + 1) cap)).mono (b' := w.heap.size) (by omega)
    have hva : ∀ b, (Value.slice vA n vc).ownBlock = some b → (Value.slice (some ⟨gq, 0, none⟩) (es.length + 1) cap).ownBlock ≠ some b := by
      intro b hb' he
      injection he with he
      have he : gq = b := he
      obtain ⟨hv1, hv2⟩ := World.ownsRow.lt ov b hb'
      rcases hl3 with h | h
      · have := (hrow gq h).2
        omega
      · have h : gq = Z.heap.size + 1 := h
        omega
    have T4 := ((T2.drew.then (hbt.mono T2.size)).grown hg3).setg 0 (.slice (some ⟨gq, 0, none⟩) (es.length + 1) cap)
    have hlies : (Value.slice (some ⟨gq, 0, none⟩) (es.length + 1) cap).ownBlock = (Value.slice fA m fc).ownBlock ∨ ∀ r, (Value.slice (some ⟨gq, 0, none⟩) (es.length + 1) cap).ownBlock = some r → w.heap.size ≤ r := by
      rcases hl3 with h | h
      · exact .inl h.symm
      · refine .inr (fun r hr => ?_)
        injection hr with hr
        have hr : gq = r := hr
        have h : gq = Z.heap.size + 1 := h
        omega
    replace hlies := Lib.hid hlies
    replace zs := Lib.hid zs
    have y := y0.1
    replace zf := Lib.hid zf
    go_wp2
    go_ret2
    exact ⟨rfl, .slice vA n vc, .slice (some ⟨gq, 0, none⟩) (es.length + 1) cap, ⟨zf.out, zs.out, of4, hgb, by intro h; injection h with h; exact hgq h⟩, ov2, hva, T4, hlies.out⟩
end Go.Proofs.Ytekgmgiokmbliaa
