/-
  What was written is read again: the program's reader, as functions on bytes.
-/
import Derived.Test.YtekgmgiokmbliaaDMsg
import Derived.Test.YtekgmgiokmbliaaEnc
set_option linter.unusedVariables false
namespace Go.Proofs.Ytekgmgiokmbliaa
open Go.RowKit

theorem rbyte_cons (c : UInt8) (r : List UInt8) (b : Bool) : rbyte (c :: r, b) = (c.toNat, (r, b)) := rfl
theorem by8_of {n : Nat} (h : n < 256) : (by8 n).toNat = n := by rw [by8_nat]; omega
theorem rcF_vb (b : Bool) (r : List UInt8) : ∀ (f k N n : Nat), n < 128 ^ (f + 1) → rcF (f + 1) k N (vb n ++ r, b) = (N + n * 2 ^ (7 * k), (r, b))
  | 0, k, N, n, h => by
    have hn : n < 128 := by simpa using h
    rw [vb_lt hn, List.singleton_append, rcF, rbyte_cons, by8_of (by omega), if_pos hn]
  | f + 1, k, N, n, h => by
    by_cases hn : n < 128
    · rw [vb_lt hn, List.singleton_append, rcF, rbyte_cons, by8_of (by omega), if_pos hn]
    · have hm : n % 128 < 128 := Nat.mod_lt _ (by decide)
      rw [vb_ge hn, List.cons_append, rcF, rbyte_cons, by8_of (by omega), if_neg (by omega)]
      rw [rcF_vb b r f (k + 1) _ (n / 128) (by rw [Nat.pow_succ] at h; exact Nat.div_lt_of_lt_mul (by omega))]
      have e1 : 2 ^ (7 * (k + 1)) = 128 * 2 ^ (7 * k) := by rw [Nat.mul_add, Nat.pow_add, Nat.mul_comm]
      have e2 : 128 + n % 128 - 128 = n % 128 := by omega
      rw [e1, e2, Nat.add_assoc, ← Nat.mul_assoc, ← Nat.add_mul]
      have e3 : n % 128 + n / 128 * 128 = n := by omega
      rw [e3]
theorem rcount_vb {n : Nat} (h : n ≤ 9007199254740991) (r : List UInt8) (b : Bool) : rcount (vb n ++ r, b) = (n, (r, b)) := by
  unfold rcount
  rw [rcF_vb b r 7 0 0 n (by omega)]
  simp
theorem rbytes_vb {d : List UInt8} (h : d.length ≤ 9007199254740991) (r : List UInt8) (b : Bool) : rbytes (vb d.length ++ d ++ r, b) = (d, (r, b)) := by
  unfold rbytes
  rw [List.append_assoc, rcount_vb h, if_neg (by simp)]
  simp
end Go.Proofs.Ytekgmgiokmbliaa
