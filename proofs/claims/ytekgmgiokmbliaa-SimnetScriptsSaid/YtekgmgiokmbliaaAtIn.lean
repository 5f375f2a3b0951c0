/-
  At, of a place that is there.
-/
import Derived.Test.YtekgmgiokmbliaaAt
set_option linter.unusedVariables false
namespace Go.Proofs.Ytekgmgiokmbliaa
open Go.RowKit

set_option maxHeartbeats 3200000 in
set_option maxRecDepth 100000 in
theorem at_in (M : Nat → Prop) (g base : Nat) (row : Option Nat) (last : Int) (C : List Cn) (k : Nat) (w : World) (hL : Line w M g base row last C) (hk : k < C.length) (hlen : C.length ≤ 1000) :
    Calls Try.prog 39 #[.pointer (some ⟨g, 0, none⟩), .int .i64 k] w fun e w' => ∃ A c, e = .returned (.tuple #[cnV C[k] (.slice A C[k].2.2.2.2.length c), .bool true]) ∧ Rd w' w'.heap.size A C[k].2.2.2.2 ∧ Below w.heap.size w w' := by
  obtain ⟨fv, P, hN, rfl, rfl, hB, hMg, hMr, hM⟩ := hL
  obtain ⟨fA, fc, rfl⟩ := hN.own.form
  have hb := below1' w (.cells #[.int .i64 0, .int .i64 0, .int .i64 0, .int .i64 0, .slice none 0 0] 32)
  have B := fun (j : Nat) (x : Value) (h : (#[.int .i64 0, .int .i64 0, .int .i64 0, .int .i64 0, .slice none 0 0] : Array Value)[j]? = some x) => Cell.new w #[.int .i64 0, .int .i64 0, .int .i64 0, .int .i64 0, .slice none 0 0] 32 j x h
  have B0 := Lib.hid (B 0 _ rfl)
  have B1 := Lib.hid (B 1 _ rfl)
  have B2 := Lib.hid (B 2 _ rfl)
  have B3 := Lib.hid (B 3 _ rfl)
  have B4 := Lib.hid (B 4 _ rfl)
  have N1 := hN.below hb
  have k1 := N1.c1.1
  have k0 := hN.c1.1
  have hkP : k < P.length := by simpa using hk
  have hBk := (hB _ (List.getElem_mem hkP)).move (Below.fr hb) (fun _ h => .inl h)
  have hCk : (P.map cn)[k] = cn P[k] := by simp
  rw [hCk]
  rcases N1.own.evs with h0 | ⟨q, rfl, hq, hc⟩
  · have := congrArg List.length h0; simp at this; rw [this] at hkP; simp at hkP
  obtain ⟨c0, c1, c2, c3, c4⟩ := hc k (by simpa using hkP)
  rw [evAt_map hkP] at c0 c1 c2 c3 c4
  obtain ⟨p, hp⟩ : ∃ p, p = P[k] := ⟨_, rfl⟩
  rw [← hp] at c0 c1 c2 c3 c4 hBk
  rw [← hp]
  obtain ⟨⟨qi, qf, qt, qn, qv⟩, l⟩ := p
  simp only at c0 c1 c2 c3 c4 hBk
  simp only [cn, cnV]
  obtain ⟨sA, sc, rfl, hl, hrd, hA, _⟩ := hBk
  rw [List.length_map] at k1 k0 hlen
  obtain ⟨n, hn⟩ : ∃ n, n = P.length := ⟨_, rfl⟩
  rw [← hn] at k1 k0 hlen hkP
  have CL := Lib.hid (clone_any qi qf qt qn sA l.length sc l _ rfl hrd (by omega) hA)
  clear hN hB hMg hMr hM hc hp hCk N1 hn B hk hl hrd hA
  have hr0 : Hid (w.heap.size + 1 ≤ (w.alloc (.cells #[.int .i64 0, .int .i64 0, .int .i64 0, .int .i64 0, .slice none 0 0] 32)).heap.size) := by show _ ≤ _; simp
  go_enter Try.func39, Try.ntmps39
  go_wp2_with fail
  refine CL.out.mono ?_
  rintro e w2 ⟨v, rfl, ov, h2⟩
  obtain ⟨vA, vc, rfl, hrd⟩ := ov.rd
  have B0 := B0.out.keep h2
  have B1 := B1.out.keep h2
  have B2 := B2.out.keep h2
  have B3 := B3.out.keep h2
  have B4 := B4.out.keep h2
  have h3 := hb.trans (h2.mono hb.size)
  have hO : Hid (∀ a b c d e, Rd (put5 w2 w.heap.size a b c d e) (put5 w2 w.heap.size a b c d e).heap.size vA l) := by
    intro a b c d e
    have o := ((((ov.setFar (p := ⟨w.heap.size, 0, none⟩) (by have := hr0.out; show w.heap.size < _; omega) a).setFar (p := ⟨w.heap.size, 1, none⟩) (by have := hr0.out; show w.heap.size < _; omega) b).setFar (p := ⟨w.heap.size, 2, none⟩) (by have := hr0.out; show w.heap.size < _; omega) c).setFar (p := ⟨w.heap.size, 3, none⟩) (by have := hr0.out; show w.heap.size < _; omega) d).setFar (p := ⟨w.heap.size, 4, none⟩) (by have := hr0.out; show w.heap.size < _; omega) e
    obtain ⟨A', c', hv, hr⟩ := o.rd
    injection hv with h1
    subst h1
    exact hr
  obtain ⟨r, hr⟩ : ∃ r, r = w.heap.size := ⟨_, rfl⟩
  rw [← hr] at B0 B1 B2 B3 B4 hO
  rw [← hr]
  replace hr := Lib.hid hr
  have HB3 := Lib.hid h3
  obtain ⟨b0, f0⟩ := B0
  obtain ⟨b1, f1⟩ := B1
  obtain ⟨b2, f2⟩ := B2
  obtain ⟨b3, f3⟩ := B3
  obtain ⟨b4, f4⟩ := B4
  clear ov h2 hrd k1 k0 CL c0 c1 c2 c3 c4 hb h3
  go_wp2
  refine bodyPost_ret (v := .tuple #[.agg #[.int .i64 qi, .int .i64 qf, .int .i64 qt, .int .i64 qn, .slice vA l.length vc], .bool true]) (by rw [results_cell_tmp rfl]; go_simp) rfl ⟨vA, vc, rfl, hO.out _ _ _ _ _, below5 HB3.out (by have := hr.out; omega) _ _ _ _ _⟩
end Go.Proofs.Ytekgmgiokmbliaa
