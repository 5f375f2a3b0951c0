/-
  The contract of the reference's Number; a number's bytes are read again.
-/
import Derived.Test.YtfnifpgaieggbaaDoorNumber
import Derived.Test.YtfnifpgaieggbaaDoorTakeNumber
namespace Go.Proofs.YtfnifpgaieggbaaDoor
open Go.RowKit

set_option maxRecDepth 100000 in
theorem rnumber_any (n : Nat) (w : World) (hn : n ≤ 18446744073709551615) :
    Calls Tryd.prog 29 #[.int .u64 n] w fun e w' => ∃ v, e = .returned v ∧ Own w' w.heap.size v (num n) ∧ Below w.heap.size w w' := by
  have H0 := Lib.hid hn
  clear hn
  go_enter Tryd.func29, Tryd.ntmps29
  go_wp2
  go_loopw [0, 3] (fun i v wr => ∃ (m f : Nat) (l : List UInt8), i = .int .u64 m ∧ m ≤ 18446744073709551615 ∧ m < 128 ^ (f + 1) ∧ l.length + f = 9 ∧ num n = l ++ numF f m ∧ Own wr w.heap.size v l ∧ Below w.heap.size w wr) (fun i _ _ => (intOf i).toNat)
  case atStart => exact ⟨n, 9, [], rfl, H0.out, Nat.lt_of_le_of_lt H0.out (by decide), rfl, rfl, Own.nil_ _ _, Below.refl _ _⟩
  case round =>
    obtain ⟨m, f, l, rfl, h64, hm, hl, hc, hown, hbel⟩ := hrel
    have HM := Lib.hid hm
    have HC := Lib.hid hc
    have hl9 : l.length ≤ 9 := by omega
    have HL := Lib.hid hl
    clear hm hc hl
    by_cases h : m < 128
    · go_wp2_with (at_builtin; refine app_one _ w.heap.size _ l (by8 m) _ ?e1 rfl (.tmp 15) (.tmp 18) rfl rfl rfl hown ?e2 ?e3 ?_)
      case e1 => exact (by8_toNat (by omega)).symm
      case e2 => omega
      case e3 => exact hbel.size
      intro v' w' h1 h2
      go_wp2
      go_ret
      exact ⟨_, rfl, by rw [HC.out, numF_lt h]; exact h1, hbel.trans h2⟩
    · go_wp2_with (at_builtin; refine app_one _ w.heap.size _ l (by8 (128 + m % 128)) _ ?e1 rfl (.tmp 6) (.tmp 11) rfl rfl rfl hown ?e2 ?e3 ?_)
      case e1 => rw [by8_toNat (by omega)]; omega
      case e2 => omega
      case e3 => exact hbel.size
      intro v' w' h1 h2
      go_wp2
      go_roundw
      case rel => obtain ⟨m', f', l', a1, a2⟩ := step_rel HM.out HL.out HC.out h hbel h1 h2; exact ⟨m', f', l', a1, by simp at a1; omega, a2⟩
      case measure => simp [intOf]; omega

theorem tn_numF (rest : List UInt8) : ∀ (f i N m : Nat), i + f = 9 → (0 < m ∨ i = 0) → m * 2 ^ (7 * i) < 2 ^ 64 → tn i N (numF f m ++ rest) = (N + m * 2 ^ (7 * i), i + (numF f m).length, 0)
  | 0, i, N, m, hi, hm, hp => by
    obtain rfl : i = 9 := by omega
    have h1 : m ≤ 1 := by
      rcases Nat.lt_or_ge m 2 with h | h
      · omega
      · have : 2 * 2 ^ (7 * 9) ≤ m * 2 ^ (7 * 9) := Nat.mul_le_mul_right _ h
        omega
    have e : (by8 m).toNat = m := by rw [by8_nat]; omega
    simp only [numF, List.cons_append, List.nil_append, tn, e]
    rw [if_neg (by omega), if_pos (by omega), if_neg (by omega)]
    rfl
  | f + 1, i, N, m, hi, hm, hp => by
    by_cases h : m < 128
    · have e : (by8 m).toNat = m := by rw [by8_nat]; omega
      rw [numF_lt h]
      simp only [List.cons_append, List.nil_append, tn, e]
      rw [if_neg (by omega), if_pos h, if_neg (by omega)]
      rfl
    · have e : (by8 (128 + m % 128)).toNat = 128 + m % 128 := by rw [by8_nat]; omega
      rw [numF_ge h]
      simp only [List.cons_append, tn, e]
      rw [if_neg (by omega), if_neg (by omega)]
      have hpow : 2 ^ (7 * (i + 1)) = 128 * 2 ^ (7 * i) := by rw [Nat.mul_add, Nat.pow_add, Nat.mul_comm]
      have hle : m / 128 * 2 ^ (7 * (i + 1)) ≤ m * 2 ^ (7 * i) := by
        rw [hpow, ← Nat.mul_assoc]
        exact Nat.mul_le_mul_right _ (by omega)
      rw [tn_numF rest f (i + 1) _ (m / 128) (by omega) (.inl (by omega)) (by omega)]
      have hs : m = m / 128 * 128 + m % 128 := by omega
      have hv : N + (128 + m % 128 - 128) * 2 ^ (7 * i) + m / 128 * 2 ^ (7 * (i + 1)) = N + m * 2 ^ (7 * i) := by
        rw [hpow, show 128 + m % 128 - 128 = m % 128 by omega, ← Nat.mul_assoc, Nat.add_assoc, ← Nat.add_mul, Nat.add_comm (m % 128), ← hs]
      rw [hv]
      simp only [List.length_cons]
      congr 2
      omega
theorem tn_num {n : Nat} (h : n < 2 ^ 64) (rest : List UInt8) : tn 0 0 (num n ++ rest) = (n, (num n).length, 0) := by
  have := tn_numF rest 9 0 0 n rfl (.inr rfl) (by simpa using h)
  simpa [num] using this
theorem numF_len : ∀ f m, (numF f m).length ≤ f + 1
  | 0, m => by simp [numF]
  | f + 1, m => by
    unfold numF
    split
    · simp
    · simp only [List.length_cons]; have := numF_len f (m / 128); omega
theorem num_len (n : Nat) : (num n).length ≤ 10 := numF_len 9 n
end Go.Proofs.YtfnifpgaieggbaaDoor
