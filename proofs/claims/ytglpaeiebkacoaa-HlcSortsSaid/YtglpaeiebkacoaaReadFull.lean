/-
  The contract of hlc's Read of nine bytes.
-/
import Derived.Test.YtglpaeiebkacoaaRead
import Derived.Test.YtglpaeiebkacoaaCut
namespace Go.Proofs.Ytglpaeiebkacoaa
open Go.RowKit

def rdSt (b : List UInt8) : Nat × Nat × Nat := if stOk (numB 0 (b.take 7)) (numB 0 (b.drop 7)) = true then (numB 0 (b.take 7), numB 0 (b.drop 7), 0) else (0, 0, 80)

theorem number_at (g o c n : Nat) (l : List UInt8) (w : World) (hn : n = l.length) (hc : ∀ i (h : i < l.length), w.cell? ⟨g, o + i, none⟩ = some (bv l[i])) (hl : l.length ≤ 7) :
    Calls Try.prog 34 #[.slice (some ⟨g, o, none⟩) n c] w fun e w' => e = .returned (.int .i64 (numB 0 l)) ∧ w = w' := by
  subst hn
  exact number_full g o c l w hc hl

theorem below_of_drew {w v : World} {B : Nat} (h : Below B w.drew v) : Below B w v := ⟨h.os, h.tape, h.output, h.size, h.block⟩
theorem after_read {w w1 : World} {a b c d : Value} {t : TypeId} (h : Below ((w.alloc (.cells #[a, b] t)).alloc (.cells #[c, d] t)).heap.size ((w.alloc (.cells #[a, b] t)).alloc (.cells #[c, d] t)) w1) :
    w1.cell? ⟨w.heap.size, 0, none⟩ = some a ∧ w1.cell? ⟨w.heap.size, 1, none⟩ = some b ∧ w1.cell? ⟨w.heap.size + 1, 0, none⟩ = some c ∧ w1.cell? ⟨w.heap.size + 1, 1, none⟩ = some d ∧
    w1.frozen? ⟨w.heap.size, 0, none⟩ = false ∧ w1.frozen? ⟨w.heap.size, 1, none⟩ = false ∧ Below w.heap.size w w1 := by
  obtain ⟨z0, z1, y0, y1, _, _, hb⟩ := after_call h
  have s1 : (w.alloc (.cells #[a, b] t)).heap.size = w.heap.size + 1 := by simp
  refine ⟨z0, z1, y0, y1, ?_, ?_, hb⟩
  · rw [h.frozen (by simp; omega), (below1 (w.alloc (.cells #[a, b] t)) _).frozen (by simp), World.frozen?_alloc_at _ _ _ _ rfl]
  · rw [h.frozen (by simp; omega), (below1 (w.alloc (.cells #[a, b] t)) _).frozen (by simp), World.frozen?_alloc_at _ _ _ _ rfl]

set_option maxHeartbeats 800000 in
set_option maxRecDepth 100000 in
theorem read_full (g o c : Nat) (b : List UInt8) (w : World) (hg : g < w.heap.size) (hcell : ∀ i (h : i < b.length), w.cell? ⟨g, o + i, none⟩ = some (bv b[i])) (hl : b.length = 9) (hc : 9 ≤ c) :
    Calls Try.prog 20 #[.slice (some ⟨g, o, none⟩) 9 c] w fun e w' => e = .returned (.tuple #[.agg #[.int .i64 ((rdSt b).1 : Nat), .int .i64 ((rdSt b).2.1 : Nat)], .int .i64 ((rdSt b).2.2 : Nat)]) ∧ Below w.heap.size w w' := by
  obtain ⟨W, hW⟩ : ∃ W, W = numB 0 (b.take 7) := ⟨_, rfl⟩
  obtain ⟨L, hL⟩ : ∃ L, L = numB 0 (b.drop 7) := ⟨_, rfl⟩
  have hrd : rdSt b = if stOk W L = true then (W, L, 0) else (0, 0, 80) := by rw [hW, hL]; rfl
  have C1 : ∀ w' : World, (∀ i (h : i < b.length), w'.cell? ⟨g, o + i, none⟩ = some (bv b[i])) → Calls Try.prog 34 #[.slice (some ⟨g, o, none⟩) 7 c] w' fun e w'' => e = .returned (.int .i64 (W : Int)) ∧ w' = w'' := fun w' h => by
    rw [hW]
    refine number_at g o c 7 (b.take 7) w' (by simp; omega) (fun i hi => ?_) (by simp; omega)
    rw [List.getElem_take]
    exact h i (by simp at hi; omega)
  have hc0 : ∀ W' : World, (Instr.slice 31 (.slice (some ⟨g, o, none⟩) 9 c) none (some (.int .i64 7)) none).run Try.prog W' = .ok (.slice (some ⟨g, o, none⟩) 7 c) W' := cut0_run (e := 7) (by omega)
  obtain ⟨A', hc1, r2⟩ := cut1_run (k := 7) (n := 9) (c := c) hl.symm (Rd.keep (w := w) (B := w.heap.size) (A := some ⟨g, o, none⟩) (.inr ⟨g, o, rfl, hg, hcell⟩) fun _ _ => rfl) (by omega) (by omega)
  rcases r2 with h0 | ⟨g', o', rfl, hg', hcell'⟩
  · have := congrArg List.length h0
    simp at this
    omega
  replace hc1 : ∀ W' : World, (Instr.slice 31 (.slice (some ⟨g, o, none⟩) 9 c) (some (.int .i64 7)) none none).run Try.prog W' = .ok (.slice (some ⟨g', o', none⟩) 2 (c - 7)) W' := hc1
  have C2 : ∀ w' : World, (∀ i (h : i < (b.drop 7).length), w'.cell? ⟨g', o' + i, none⟩ = some (bv (b.drop 7)[i])) → Calls Try.prog 34 #[.slice (some ⟨g', o', none⟩) 2 (c - 7)] w' fun e w'' => e = .returned (.int .i64 (L : Int)) ∧ w' = w'' := fun w' h => by
    rw [hL]
    exact number_at g' o' (c - 7) 2 (b.drop 7) w' (by simp; omega) h (by simp; omega)
  have hb9 : ((9 : Int) != 9) = false := rfl
  have C1 := Lib.hid C1
  have C2 := Lib.hid C2
  have K1 := Lib.hid (show ∀ (w' : World), Below w.heap.size w w' → ∀ i (h : i < b.length), w'.cell? ⟨g, o + i, none⟩ = some (bv b[i]) from fun w' hb i h => (hb.cell hg).trans (hcell i h))
  have K2 := Lib.hid (show ∀ (w' : World), Below w.heap.size w w' → ∀ i (h : i < (b.drop 7).length), w'.cell? ⟨g', o' + i, none⟩ = some (bv (b.drop 7)[i]) from fun w' hb i h => (hb.cell hg').trans (hcell' i h))
  have hr9 := Lib.hid hrd
  clear hW hL hrd hcell hcell' hl
  by_cases hk : stOk W L = true
  · rw [hr9.out, if_pos hk]
    clear hr9
    replace hk := Lib.hid hk
    go_enter Try.func20, Try.ntmps20
    go_wp2_with fail
    go_region_held3 (fun w' => Below w.heap.size w w') (first | exact below_drew (below1 _ _) | exact below_drew (below2 _ _ _) | assumption | exact below_allocD (by assumption) (Nat.le_refl _) _ | (trace_state; go_keep))
      (first
        | (go_at_call_of 34 (Value.slice (some ⟨g, o, none⟩) 7 c); refine (C1.out _ (K1.out _ ?hA)).mono ?_; (case hA => assumption); rintro e w2 ⟨rfl, rfl⟩)
        | (go_at_call 34; refine (C2.out _ (K2.out _ ?hB)).mono ?_; (case hB => assumption); rintro e w3 ⟨rfl, rfl⟩))
    go_wp2_with (go_at_call 10; refine (right_any _ _ _).mono ?_; rintro e w1 ⟨rfl, hb1⟩; rw [hk.out]; obtain ⟨z0, z1, y0, y1, f0, f1, hb⟩ := after_read (below_of_drew hb1); clear hb1; have hs := hb.size)
    all_goals refine bodyPost_ret (v := .tuple #[.agg #[.int .i64 W, .int .i64 L], .int .i64 0]) (by rw [results_cell_tmp rfl]; go_simp) rfl ?_
    all_goals exact ⟨rfl, (hb.setCell (by simp) _).setCell (by simp) _⟩
  · rw [hr9.out, if_neg hk]
    clear hr9
    rw [Bool.not_eq_true] at hk
    replace hk := Lib.hid hk
    go_enter Try.func20, Try.ntmps20
    go_wp2_with fail
    go_region_held3 (fun w' => Below w.heap.size w w') (first | exact below_drew (below1 _ _) | exact below_drew (below2 _ _ _) | assumption | exact below_allocD (by assumption) (Nat.le_refl _) _ | (trace_state; go_keep))
      (first
        | (go_at_call_of 34 (Value.slice (some ⟨g, o, none⟩) 7 c); refine (C1.out _ (K1.out _ ?hA)).mono ?_; (case hA => assumption); rintro e w2 ⟨rfl, rfl⟩)
        | (go_at_call 34; refine (C2.out _ (K2.out _ ?hB)).mono ?_; (case hB => assumption); rintro e w3 ⟨rfl, rfl⟩))
    go_wp2_with (go_at_call 10; refine (right_any _ _ _).mono ?_; rintro e w1 ⟨rfl, hb1⟩; rw [hk.out]; obtain ⟨z0, z1, y0, y1, f0, f1, hb⟩ := after_read (below_of_drew hb1); clear hb1; have hs := hb.size)
    all_goals refine bodyPost_ret (v := .tuple #[.agg #[.int .i64 0, .int .i64 0], .int .i64 80]) (by rw [results_cell_tmp rfl]; go_simp) rfl ?_
    all_goals exact ⟨rfl, (hb.setCell (by simp) _).setCell (by simp) _⟩
end Go.Proofs.Ytglpaeiebkacoaa
