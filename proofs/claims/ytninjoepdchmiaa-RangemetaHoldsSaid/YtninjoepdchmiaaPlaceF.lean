/-
  place: the first of ranges for which one closure holds.
-/
import Derived.Test.YtninjoepdchmiaaRngs
import Derived.StillTailTactics
import Derived.Deep.RegionLaw
set_option linter.unusedVariables false
namespace Go.Proofs.Ytninjoepdchmiaa
open Go.RowKit

set_option maxHeartbeats 1600000 in
set_option maxRecDepth 100000 in
theorem place1F (cap : Value) (L : List RV) (A : Option Addr) (n c g3 g2 k : Nat) (b : Bool) (w : World) (hn : n = L.length) (hr : RsRd w w.heap.size A L) (hk : k < n)
    (h3 : w.cell? ⟨g3, 0, none⟩ = some (.func (.func 79) #[] #[cap])) (h2 : w.cell? ⟨g2, 0, none⟩ = some (.slice A n c))
    (hc : ∀ x, L[k]? = some x → Calls Try.prog 79 #[rval x, cap] w.drew fun e w' => e = .returned (.bool b) ∧ Below w.heap.size w.drew w') :
    Calls Try.prog 83 #[.int .i64 k, .pointer (some ⟨g3, 0, none⟩), .pointer (some ⟨g2, 0, none⟩)] w fun e w' => e = .returned (.bool b) ∧ Below w.heap.size w w' := by
  have hkl : k < L.length := by omega
  rcases hr with h0 | ⟨q, o, rfl, hq, hcell⟩
  · rw [h0] at hkl; simp at hkl
  obtain ⟨c0, c1, c2, c3, _⟩ := hcell k hkl
  have C := hc _ (List.getElem?_eq_getElem hkl)
  obtain ⟨x, hx⟩ : ∃ x, x = L[k] := ⟨_, rfl⟩
  rw [← hx] at c0 c1 c2 c3 C
  obtain ⟨⟨id, gen, fr, to⟩, F, fc, T, tc⟩ := x
  simp only [rval] at c0 c1 c2 c3 C
  have HC := Lib.hid C
  have hk' : (k : Int) < (n : Int) := by omega
  clear hc hcell hx C hn
  go_enter Try.func83, Try.ntmps83
  go_wp2
  go_region_law (go_simp; go_at_call 79; refine HC.out.mono ?_; rintro e w2 ⟨rfl, h2⟩; have hb2 := Lib.hid (below_of_drew h2); clear h2)
  all_goals
    go_wp2
    go_ret
    exact ⟨rfl, hb2.out⟩

set_option maxHeartbeats 1600000 in
set_option maxRecDepth 100000 in
theorem placeF (cap : Value) (L : List RV) (A : Option Addr) (n c : Nat) (Pd : Nat → Bool) (w : World) (hn : n = L.length) (hr : RsRd w w.heap.size A L) (hl : n ≤ 140737488351232)
    (hc : ∀ w' k x, Below w.heap.size w w' → L[k]? = some x → Calls Try.prog 79 #[rval x, cap] w' fun e w'' => e = .returned (.bool (Pd k)) ∧ Below w'.heap.size w' w'')
    (hm : ∀ i j, i ≤ j → j < n → Pd i = true → Pd j = true) :
    Calls Try.prog 68 #[.slice A n c, .func (.func 79) #[] #[cap]] w fun e w' => (∃ k : Nat, e = .returned (.int .i64 k) ∧ k ≤ n ∧ (∀ j, j < k → Pd j = false) ∧ (∀ j, k ≤ j → j < n → Pd j = true)) ∧ Below w.heap.size w w' := by
  have hb : Below w.heap.size w ((w.alloc (.cells #[.slice A n c] 22)).alloc (.cells #[.func (.func 79) #[] #[cap]] 65)) := (below1' w _).alloc (by simp) _
  have B2 := (Cell.new w #[.slice A n c] 22 0 _ rfl).keep (below1' _ (.cells #[.func (.func 79) #[] #[cap]] 65))
  have B3 := Cell.new (w.alloc (.cells #[.slice A n c] 22)) #[.func (.func 79) #[] #[cap]] 65 0 _ rfl
  rw [show (w.alloc (.cells #[.slice A n c] 22)).heap.size = w.heap.size + 1 by simp] at B3
  obtain ⟨W, hW⟩ : ∃ x, x = (w.alloc (.cells #[.slice A n c] 22)).alloc (.cells #[.func (.func 79) #[] #[cap]] 65) := ⟨_, rfl⟩
  rw [← hW] at hb B2 B3
  have S := Lib.hid (search_any n (.pointer (some ⟨w.heap.size + 1, 0, none⟩)) (.pointer (some ⟨w.heap.size, 0, none⟩)) Pd W hl (fun w' k h hk => place1F cap L A n c (w.heap.size + 1) w.heap.size k (Pd k) w' hn ((hr.keep hb).keep h) hk (B3.keep h).1 (B2.keep h).1 (fun x hx => hc w'.drew k x (below_drew (hb.trans (h.mono hb.size))) hx)) hm)
  have hB := Lib.hid hb
  clear hc hm hr B2 B3 hb hn
  go_enter Try.func68, Try.ntmps68
  go_wp2_with fail
  rw [← hW]
  clear hW
  refine S.out.mono ?_
  rintro e w2 ⟨⟨k, rfl, h1, h2, h3⟩, h4⟩
  have HF := Lib.hid (And.intro h1 (And.intro h2 h3))
  have HB := Lib.hid (hB.out.trans (h4.mono hB.out.size))
  clear h1 h2 h3 h4 S
  go_wp2
  go_ret
  exact ⟨⟨k, rfl, HF.out.1, HF.out.2.1, HF.out.2.2⟩, HB.out⟩
end Go.Proofs.Ytninjoepdchmiaa
