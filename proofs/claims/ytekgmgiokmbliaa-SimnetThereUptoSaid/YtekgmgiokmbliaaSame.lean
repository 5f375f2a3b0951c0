/-
  The contract of the reference's Same.
-/
import Derived.Test.YtekgmgiokmbliaaLine2
set_option linter.unusedVariables false
namespace Go.Proofs.Ytekgmgiokmbliaa
open Go.RowKit

set_option maxHeartbeats 1600000 in
set_option maxRecDepth 100000 in
theorem same_any (a b : Cn) (A1 : Option Addr) (c1 : Nat) (A2 : Option Addr) (c2 : Nat) (w : World) (h1 : Rd w w.heap.size A1 a.2.2.2.2) (h2 : Rd w w.heap.size A2 b.2.2.2.2) :
    Calls Try.prog 15 #[cnV a (.slice A1 a.2.2.2.2.length c1), cnV b (.slice A2 b.2.2.2.2.length c2)] w fun e w' => e = .returned (.bool (decide (a = b))) ∧ Below w.heap.size w w' := by
  obtain ⟨a1, a2, a3, a4, l1⟩ := a
  obtain ⟨b1, b2, b3, b4, l2⟩ := b
  simp only at h1 h2
  unfold cnV
  simp only
  have hb := ((Below.refl w.heap.size w).alloc (Nat.le_refl _) (.cells #[.int .i64 a1, .int .i64 a2, .int .i64 a3, .int .i64 a4, .slice A1 l1.length c1] 32)).alloc (by simp) (.cells #[.int .i64 b1, .int .i64 b2, .int .i64 b3, .int .i64 b4, .slice A2 l2.length c2] 32)
  have s1 := str_of (h1.below hb) c1
  have s2 := str_of (h2.below hb) c2
  clear h1 h2
  by_cases e1 : a1 = b1
  rotate_left
  · have n1 : (a1 == b1) = false := by rw [beq_eq_false_iff_ne]; exact e1
    go_enter Try.func15, Try.ntmps15
    go_wp2
    go_ret
    exact ⟨by simp [e1], hb⟩
  subst e1
  by_cases e2 : a2 = b2
  rotate_left
  · have n2 : (a2 == b2) = false := by rw [beq_eq_false_iff_ne]; exact e2
    go_enter Try.func15, Try.ntmps15
    go_wp2
    go_ret
    exact ⟨by simp [e2], hb⟩
  subst e2
  by_cases e3 : a3 = b3
  rotate_left
  · have n3 : (a3 == b3) = false := by rw [beq_eq_false_iff_ne]; exact e3
    go_enter Try.func15, Try.ntmps15
    go_wp2
    go_ret
    exact ⟨by simp [e3], hb⟩
  subst e3
  by_cases e4 : a4 = b4
  rotate_left
  · have n4 : (a4 == b4) = false := by rw [beq_eq_false_iff_ne]; exact e4
    go_enter Try.func15, Try.ntmps15
    go_wp2
    go_ret
    exact ⟨by simp [e4], hb⟩
  subst e4
  by_cases e5 : l1 = l2
  · subst e5
    go_enter Try.func15, Try.ntmps15
    go_wp2
    go_ret
    exact ⟨by simp, hb⟩
  · skip
    go_enter Try.func15, Try.ntmps15
    go_wp2
    go_ret
    exact ⟨by simp [e5], hb⟩
end Go.Proofs.Ytekgmgiokmbliaa
