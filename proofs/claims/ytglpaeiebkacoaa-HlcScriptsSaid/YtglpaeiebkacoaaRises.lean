/-
  Plain words: a clock's last stamp rises.
-/
import Derived.Test.YtglpaeiebkacoaaNow
import Derived.Test.YtglpaeiebkacoaaLearn
namespace Go.Proofs.Ytglpaeiebkacoaa
open Go.RowKit

theorem stOk_iff (a b : Int) : stOk a b = true ↔ (0 ≤ a ∧ a ≤ 9007199254740991) ∧ 0 ≤ b ∧ b ≤ 65535 := by simp [stOk, wallOk]
theorem now_rises {x y wall : Int} (h : (nowR x y wall).2.2 = 0) (hs : stOk x y = true) :
    stCmp (nowR x y wall).1 (nowR x y wall).2.1 x y = 1 ∧ stOk (nowR x y wall).1 (nowR x y wall).2.1 = true ∧ wall ≤ (nowR x y wall).1 := by
  obtain ⟨⟨x0, x1⟩, y0, y1⟩ := (stOk_iff x y).1 hs
  unfold nowR at h ⊢
  by_cases hw : wallOk wall = false
  · rw [if_pos hw] at h; simp at h
  · rw [if_neg hw] at h ⊢
    have hw' : wallOk wall = true := by simpa using hw
    obtain ⟨l0, l1⟩ := wallOk_le hw'
    by_cases hN : stCmp wall 0 x y ≤ 0
    · rw [if_pos hN] at h ⊢
      have hle : wall ≤ x := by
        unfold stCmp at hN
        by_cases h1 : wall < x
        · omega
        · rw [if_neg h1] at hN
          by_cases h2 : x < wall
          · rw [if_pos h2] at hN; omega
          · omega
      by_cases hX : (stNext x y).2.2 = 0
      · rw [if_pos hX] at h ⊢
        unfold stNext at hX ⊢
        rw [if_neg (by rw [hs]; decide)] at hX ⊢
        by_cases h1 : y < 65535
        · rw [if_pos h1]
          refine ⟨?_, ?_, hle⟩
          · unfold stCmp; simp; omega
          · rw [stOk_iff]; simp; omega
        · rw [if_neg h1] at hX ⊢
          by_cases h2 : x = 9007199254740991
          · rw [if_pos h2] at hX; simp at hX
          · rw [if_neg h2]
            refine ⟨?_, ?_, ?_⟩
            · unfold stCmp; simp; omega
            · rw [stOk_iff]; simp; omega
            · simp; omega
      · rw [if_neg hX] at h; exact absurd h hX
    · rw [if_neg hN]
      refine ⟨?_, ?_, Int.le_refl _⟩
      · have hN' := hN
        unfold stCmp at hN' ⊢
        simp only
        split at hN'
        · omega
        · split at hN'
          · simp_all
          · omega
      · rw [stOk_iff]; simp; omega
theorem learn_right {o a b wall : Int} (h : learnE o a b wall = 0) : stOk a b = true := by
  unfold learnE at h
  by_cases hw : wallOk wall = false
  · rw [if_pos hw] at h; simp at h
  · rw [if_neg hw] at h
    by_cases hs : stOk a b = false
    · rw [if_pos hs] at h; simp at h
    · simpa using hs
end Go.Proofs.Ytglpaeiebkacoaa
