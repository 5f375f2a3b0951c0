/-
  The contract of codec.TakeNumber.
-/
import Derived.Test.YtfnifpgaieggbaaDoorBase
import Derived.Outline
namespace Go.Proofs.YtfnifpgaieggbaaDoor
open Go.RowKit

/-- a number read off the front of bytes, from place i on, with n gathered: the number, how many bytes, the error -/
def tn : Nat → Nat → List UInt8 → Nat × Nat × Nat
  | _, _, [] => (0, 0, 10)
  | i, n, c :: t =>
    if i = 9 ∧ 1 < c.toNat then (0, 0, 11)
    else if c.toNat < 128 then (if c.toNat = 0 ∧ 0 < i then (0, 0, 11) else (n + c.toNat * 2 ^ (7 * i), i + 1, 0))
    else tn (i + 1) (n + (c.toNat - 128) * 2 ^ (7 * i)) t

theorem andNot128 (b : UInt8) : bits .andNot .u8 (b.toNat : Int) 128 = ((b.toNat % 128 : Nat) : Int) := by
  have h : ∀ x : Fin 256, bits .andNot .u8 (x.val : Int) 128 = ((x.val % 128 : Nat) : Int) := by decide +kernel
  exact h ⟨b.toNat, b.toNat_lt⟩

theorem orAdd (N k x : Nat) (hk : k ≤ 9) (hN : N < 2 ^ (7 * k)) (hx : x < 128) (hx9 : k = 9 → x ≤ 1) :
    bits .or .u64 (N : Int) (IntKind.u64.wrap ((x : Int) % 128 * 2 ^ (7 * k))) = ((N + x * 2 ^ (7 * k) : Nat) : Int) := by
  have hp : x * 2 ^ (7 * k) < 18446744073709551616 := by
    by_cases h9 : k = 9
    · subst h9
      have := hx9 rfl
      have : x * 2 ^ (7 * 9) ≤ 1 * 2 ^ (7 * 9) := Nat.mul_le_mul_right _ this
      omega
    · have h1 : 2 ^ (7 * k) ≤ 2 ^ 56 := Nat.pow_le_pow_right (by decide) (by omega)
      have h2 : x * 2 ^ (7 * k) ≤ 127 * 2 ^ 56 := Nat.mul_le_mul (by omega) h1
      omega
  have hN' : N < 18446744073709551616 := by
    have h1 : 2 ^ (7 * k) ≤ 2 ^ 63 := Nat.pow_le_pow_right (by decide) (by omega)
    omega
  have e : ((x : Int) % 128 * 2 ^ (7 * k)) = ((x * 2 ^ (7 * k) : Nat) : Int) := by
    rw [show ((x : Int) % 128) = (x : Int) from by omega]
    simp
  rw [e, IntKind.wrap_u64, show (((x * 2 ^ (7 * k) : Nat) : Int) % 18446744073709551616) = ((x * 2 ^ (7 * k) : Nat) : Int) from by omega, bits_or_u64_nat _ _ hN' hp]
  have := Nat.two_pow_add_eq_or_of_lt hN x
  rw [Nat.or_comm, Nat.mul_comm x, ← this, Nat.add_comm]

theorem orAdd9 (N x : Nat) (hN : N < 2 ^ (7 * 9)) (hx : x ≤ 1) : bits .or .u64 (N : Int) ((x : Int) % 128 * 9223372036854775808) = ((N + x * 2 ^ (7 * 9) : Nat) : Int) := by
  rw [← orAdd N 9 x (by decide) hN (by omega) (fun _ => hx)]
  congr 1
  rw [IntKind.wrap_u64, show ((x : Int) % 128 * 2 ^ (7 * 9)) = (x : Int) % 128 * 9223372036854775808 from rfl]
  omega

theorem grow {N k x : Nat} (hN : N < 2 ^ (7 * k)) (hx : x < 128) : N + x * 2 ^ (7 * k) < 2 ^ (7 * (k + 1)) := by
  have h1 : (x + 1) * 2 ^ (7 * k) ≤ 128 * 2 ^ (7 * k) := Nat.mul_le_mul_right _ (by omega)
  have h2 : 2 ^ (7 * (k + 1)) = 128 * 2 ^ (7 * k) := by rw [Nat.mul_add, Nat.pow_add, Nat.mul_comm]
  rw [h2]
  rw [Nat.add_mul] at h1
  omega

theorem tn_at {l : List UInt8} {k N : Nat} (h : k < l.length) : tn k N (l.drop k) = if k = 9 ∧ 1 < l[k].toNat then (0, 0, 11)
    else if l[k].toNat < 128 then (if l[k].toNat = 0 ∧ 0 < k then (0, 0, 11) else (N + l[k].toNat * 2 ^ (7 * k), k + 1, 0))
    else tn (k + 1) (N + (l[k].toNat - 128) * 2 ^ (7 * k)) (l.drop (k + 1)) := by
  rw [drop_cons h]
  rfl
theorem tn_over {l : List UInt8} {k N : Nat} (h : k < l.length) (h9 : (k : Int) = 9) (h1 : (1 : Int) < (l[k].toNat : Int)) : tn k N (l.drop k) = (0, 0, 11) := by
  rw [tn_at h, if_pos ⟨by omega, by omega⟩]
theorem tn_zero {l : List UInt8} {k N : Nat} (h : k < l.length) (h1 : l[k].toNat = 0) (h0 : 0 < k) : tn k N (l.drop k) = (0, 0, 11) := by
  rw [tn_at h, if_neg (by omega), if_pos (by omega), if_pos ⟨h1, h0⟩]
theorem tn_last {l : List UInt8} {k N : Nat} (h : k < l.length) (h9 : ¬ (k = 9 ∧ 1 < l[k].toNat)) (h1 : l[k].toNat < 128) (h0 : ¬ (l[k].toNat = 0 ∧ 0 < k)) : tn k N (l.drop k) = (N + l[k].toNat * 2 ^ (7 * k), k + 1, 0) := by
  rw [tn_at h, if_neg h9, if_pos h1, if_neg h0]
theorem tn_more {l : List UInt8} {k N : Nat} (h : k < l.length) (h9 : k ≠ 9) (h1 : ¬ l[k].toNat < 128) : tn k N (l.drop k) = tn (k + 1) (N + (l[k].toNat - 128) * 2 ^ (7 * k)) (l.drop (k + 1)) := by
  rw [tn_at h, if_neg (by omega), if_neg h1]
theorem mod128 (x : Nat) (h : 128 ≤ x) (h' : x < 2 ^ 8) : ((x : Int) % 128) = (((x - 128 : Nat) : Int) % 128) := by omega

theorem or_zero {N k x : Nat} (hk : k = 0) (hN : N < 2 ^ (7 * k)) (hx : x = 0) : bits .or .u64 (N : Int) (IntKind.u64.wrap 0) = ((N + x * 2 ^ (7 * k) : Nat) : Int) := by
  subst hk hx
  obtain rfl : N = 0 := by simpa using hN
  decide
theorem tup3 {a a' b b' c c' : Int} (h1 : a = a') (h2 : b = b') (h3 : c = c') : Ending.returned (.tuple #[.int .u64 a, .int .i64 b, .int .i64 c]) = Ending.returned (.tuple #[.int .u64 a', .int .i64 b', .int .i64 c']) := by rw [h1, h2, h3]

set_option maxHeartbeats 400000 in
set_option maxRecDepth 100000 in
theorem taken_full (g o c : Nat) (l : List UInt8) (w : World) (hc : ∀ i (h : i < l.length), w.cell? ⟨g, o + i, none⟩ = some (bv l[i])) (hl : l.length ≤ 9223372036854775807) :
    Calls Tryd.prog 37 #[.slice (some ⟨g, o, none⟩) l.length c] w fun e w' => e = .returned (.tuple #[.int .u64 (tn 0 0 l).1, .int .i64 (tn 0 0 l).2.1, .int .i64 (tn 0 0 l).2.2]) ∧ w = w' := by
  go_enter Tryd.func37, Tryd.ntmps37
  go_wp2
  go_loop [5, 10] (fun n i => ∃ k N : Nat, k ≤ l.length ∧ k ≤ 9 ∧ i = .int .i64 k ∧ n = .int .u64 N ∧ N < 2 ^ (7 * k) ∧ tn 0 0 l = tn k N (l.drop k)) (fun _ i => l.length - (intOf i).toNat)
  case atStart => exact ⟨0, 0, by omega, by omega, rfl, rfl, by decide, rfl⟩
  case round =>
    obtain ⟨k, N, hk, hk10, rfl, rfl, hN, ht⟩ := hrel
    have HN := Lib.hid hN
    have HT := Lib.hid ht
    clear hN ht
    by_cases hlt : k < l.length
    · have c1 : w.cell? ⟨g, o + k, none⟩ = some (.int .u8 (l[k].toNat : Int)) := hc k hlt
      have b1 := l[k].toNat_lt
      have han := andNot128 l[k]
      have s1 : (0 : Int) ≤ 7 * (k : Int) := by omega
      have s2 : (7 : Int) * (k : Int) ≤ 70 := by omega
      clear hc
      go_wp2
      · have a1 : (k : Int) = 9 := by assumption
        have a2 : (1 : Int) < (l[k].toNat : Int) := by assumption
        go_ret3
        exact ⟨by rw [HT.out, tn_over hlt a1 a2]; rfl, rfl⟩
      · have a1 : (k : Int) = 9 := by assumption
        have a2 : l[k].toNat = 0 := by assumption
        go_ret3
        exact ⟨by rw [HT.out, tn_zero hlt a2 (by omega)]; rfl, rfl⟩
      · have a1 : (k : Int) = 9 := by assumption
        have a2 : (l[k].toNat : Int) ≤ 1 := by assumption
        have a3 : ¬ l[k].toNat = 0 := by assumption
        obtain rfl : k = 9 := by omega
        go_ret3
        refine ⟨?_, rfl⟩
        rw [HT.out, tn_last hlt (by omega) (by omega) (by omega)]
        refine tup3 ?_ rfl rfl
        exact orAdd9 N l[9].toNat HN.out (by omega)
      · have a2 : l[k].toNat = 0 := by assumption
        have a3 : 0 < k := by assumption
        go_ret3
        exact ⟨by rw [HT.out, tn_zero hlt a2 a3]; rfl, rfl⟩
      · have a1 : ¬ (k : Int) = 9 := by assumption
        have a2 : (l[k].toNat : Int) < 128 := by assumption
        have a3 : ¬ 0 < k := by assumption
        have a0 : l[k].toNat = 0 := by assumption
        go_ret3
        refine ⟨?_, rfl⟩
        rw [HT.out, tn_last hlt (by omega) (by omega) (by omega)]
        refine tup3 ?_ rfl rfl
        exact or_zero (by omega) HN.out a0
      · have a1 : ¬ (k : Int) = 9 := by assumption
        have a2 : (l[k].toNat : Int) < 128 := by assumption
        have a3 : ¬ l[k].toNat = 0 := by assumption
        go_ret3
        refine ⟨?_, rfl⟩
        rw [HT.out, tn_last hlt (by omega) (by omega) (by omega)]
        refine tup3 ?_ rfl rfl
        exact orAdd N k l[k].toNat (by omega) HN.out (by omega) (by omega)
      · have a1 : ¬ (k : Int) = 9 := by assumption
        have a2 : 128 ≤ (l[k].toNat : Int) := by assumption
        go_round
        case rel => exact ⟨k + 1, _, by omega, by omega, by go_num, by rw [mod128 _ (by omega) b1, orAdd N k _ (by omega) HN.out (by omega) (by omega)], grow HN.out (by omega), by rw [HT.out, tn_more hlt (by omega) (by omega)]⟩
        case measure => simp [intOf]; omega
    · go_wp2
      go_ret3
      exact ⟨by rw [HT.out, drop_nil (by omega)]; rfl, rfl⟩

theorem taken_none (A : Option Addr) (c : Nat) (w : World) :
    Calls Tryd.prog 37 #[.slice A 0 c] w fun e w' => e = .returned (.tuple #[.int .u64 0, .int .i64 0, .int .i64 10]) ∧ w = w' := by
  go_enter Tryd.func37, Tryd.ntmps37
  go_wp2
  refine wp_loop_rounds 1 ?_
  rw [rounds_succ]
  go_wp2
  go_ret3
  exact ⟨rfl, rfl⟩

/-- codec.TakeNumber, whatever the bytes -/
theorem taken_any (A : Option Addr) (c B : Nat) (l : List UInt8) (w : World) (hr : Rd w B A l) (hl : l.length ≤ 9223372036854775807) :
    Calls Tryd.prog 37 #[.slice A l.length c] w fun e w' => e = .returned (.tuple #[.int .u64 (tn 0 0 l).1, .int .i64 (tn 0 0 l).2.1, .int .i64 (tn 0 0 l).2.2]) ∧ w = w' := by
  rcases hr with rfl | ⟨g, o, rfl, _, hc⟩
  · exact taken_none A c w
  · exact taken_full g o c l w hc hl
end Go.Proofs.YtfnifpgaieggbaaDoor
