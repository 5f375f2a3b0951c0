/-
  The order of bytes: cmp is one; the model's order of strings is this.
-/
import Derived.Test.YtninjoepdchmiaaBase
set_option linter.unusedVariables false
namespace Go.Proofs.Ytninjoepdchmiaa
open Go.RowKit

theorem cmp_refl : ∀ s, cmp s s = 0
  | [] => rfl
  | a :: s => by unfold cmp; rw [if_neg (Nat.lt_irrefl _), if_neg (Nat.lt_irrefl _)]; exact cmp_refl s
theorem cmp_eq0 : ∀ {s t}, cmp s t = 0 → s = t
  | [], [], _ => rfl
  | [], _ :: _, h => by unfold cmp at h; omega
  | _ :: _, [], h => by unfold cmp at h; omega
  | a :: s, b :: t, h => by
    unfold cmp at h
    split at h
    · omega
    · split at h
      · omega
      · rw [cmp_eq0 h, show a = b from UInt8.toNat_inj.1 (by omega)]
theorem cmp_zero {s t : List UInt8} : cmp s t = 0 ↔ s = t := ⟨cmp_eq0, fun h => h ▸ cmp_refl s⟩
theorem cmp_le_trans : ∀ {a b c : List UInt8}, cmp a b ≤ 0 → cmp b c ≤ 0 → cmp a c ≤ 0
  | [], _, [], _, _ => Int.le_refl 0
  | [], _, _ :: _, _, _ => by show (-1 : Int) ≤ 0; omega
  | _ :: _, [], _, h, _ => by unfold cmp at h; omega
  | _ :: _, _ :: _, [], _, h => by unfold cmp at h; omega
  | x :: a, y :: b, z :: c, h1, h2 => by
    unfold cmp at h1 h2 ⊢
    split at h1
    · split at h2
      · rw [if_pos (by omega)]; omega
      · split at h2
        · omega
        · rw [if_pos (by omega)]; omega
    · split at h1
      · omega
      · split at h2
        · rw [if_pos (by omega)]; omega
        · split at h2
          · omega
          · rw [if_neg (by omega), if_neg (by omega)]
            exact cmp_le_trans h1 h2
theorem cmp_flip {s t : List UInt8} : cmp t s = -cmp s t := cmp_swap s t
theorem cmp_ge_iff {s t : List UInt8} : 0 ≤ cmp s t ↔ cmp t s ≤ 0 := by rw [cmp_flip (s := s) (t := t)]; omega
theorem cmp_gt_iff {s t : List UInt8} : 0 < cmp s t ↔ cmp t s < 0 := by rw [cmp_flip (s := s) (t := t)]; omega
theorem cmp_lt_le {a b c : List UInt8} (h1 : cmp a b < 0) (h2 : cmp b c ≤ 0) : cmp a c < 0 := by
  have h3 := cmp_le_trans (Int.le_of_lt h1) h2
  have h4 : cmp a c ≠ 0 := fun h0 => by
    have h5 := cmp_eq0 h0
    subst h5
    have := cmp_flip (s := a) (t := b)
    omega
  omega
theorem cmp_le_lt {a b c : List UInt8} (h1 : cmp a b ≤ 0) (h2 : cmp b c < 0) : cmp a c < 0 := by
  have h3 := cmp_le_trans h1 (Int.le_of_lt h2)
  have h4 : cmp a c ≠ 0 := fun h0 => by
    have h5 := cmp_eq0 h0
    subst h5
    have := cmp_flip (s := a) (t := b)
    omega
  omega
theorem cmp_nil_le (s : List UInt8) : cmp [] s ≤ 0 := by cases s <;> unfold cmp <;> omega
theorem cmp_nil_ge (s : List UInt8) : 0 ≤ cmp s [] := by cases s <;> unfold cmp <;> omega
theorem cmp_nil_lt {s : List UInt8} (h : s ≠ []) : cmp [] s < 0 := by
  cases s with
  | nil => exact absurd rfl h
  | cons a s => unfold cmp; omega
theorem less_cmp : ∀ (s t : List UInt8), Op.bytesLess s t = decide (cmp s t < 0)
  | [], [] => rfl
  | [], _ :: _ => rfl
  | _ :: _, [] => rfl
  | a :: s, b :: t => by
    unfold Op.bytesLess cmp
    rw [less_cmp s t]
    by_cases h : a.toNat < b.toNat
    · rw [if_pos h]
      have : a < b := h
      simp [this]
    · by_cases h2 : b.toNat < a.toNat
      · rw [if_neg h, if_pos h2]
        have h3 : ¬ a < b := h
        have h4 : (a == b) = false := by rw [beq_eq_false_iff_ne]; intro e; rw [e] at h2; omega
        simp [h3, h4]
      · rw [if_neg h, if_neg h2]
        have h3 : ¬ a < b := h
        have h4 : (a == b) = true := by rw [beq_iff_eq]; exact UInt8.toNat_inj.1 (by omega)
        simp [h3, h4]
end Go.Proofs.Ytninjoepdchmiaa
