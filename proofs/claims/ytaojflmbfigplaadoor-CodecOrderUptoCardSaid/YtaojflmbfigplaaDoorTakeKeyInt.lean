/-
  The contracts of codec.TakeKeyInt and of the reference's.
-/
import Derived.Test.YtaojflmbfigplaaDoorRefKeyInt
import Derived.Test.YtaojflmbfigplaaDoorTakeFrame
namespace Go.Proofs.YtaojflmbfigplaaDoor
open Go.RowKit

/-- eight bytes, the highest first, as a number -/
def be (l : List UInt8) : Nat := l.foldl (fun u b => 256 * u + b.toNat) 0
/-- a key's number read off the front of bytes -/
def tki (l : List UInt8) : Int × Nat × Nat := if l.length < 8 then (0, 0, 10) else ((be (l.take 8) : Int) - 9223372036854775808, 8, 0)

theorem be_snoc {l : List UInt8} {k : Nat} (h : k < l.length) : be (l.take (k + 1)) = 256 * be (l.take k) + l[k].toNat := by
  unfold be
  rw [List.take_succ_eq_append_getElem h, List.foldl_append]
  rfl
theorem be_lt {l : List UInt8} : ∀ k, k ≤ l.length → be (l.take k) < 2 ^ (8 * k)
  | 0, _ => by simp [be]
  | k + 1, h => by
    rw [be_snoc (by omega)]
    have ih := be_lt (l := l) k (by omega)
    have := l[k].toNat_lt
    have hp : 2 ^ (8 * (k + 1)) = 256 * 2 ^ (8 * k) := by rw [Nat.mul_add, Nat.pow_add, Nat.mul_comm]
    rw [hp]
    have : 256 * (be (l.take k) + 1) ≤ 256 * 2 ^ (8 * k) := Nat.mul_le_mul_left _ ih
    omega
theorem or256 {U c : Nat} (hU : U < 2 ^ 56) (hc : c < 256) : bits .or .u64 (IntKind.u64.wrap ((U : Int) * 256)) (c : Int) = ((256 * U + c : Nat) : Int) := by
  rw [IntKind.wrap_u64, show ((U : Int) * 256 % 18446744073709551616) = ((256 * U : Nat) : Int) by omega, bits_or_u64_nat _ _ (by omega) (by omega)]
  have := Nat.two_pow_add_eq_or_of_lt (i := 8) (b := c) hc U
  rw [show 256 * U = 2 ^ 8 * U from rfl, ← this]
theorem top_back {m : Nat} (h : m < 18446744073709551616) : IntKind.i64.wrap (bits .xor .u64 (m : Int) 9223372036854775808) = (m : Int) - 9223372036854775808 := by
  have hb : bits .xor .u64 (m : Int) 9223372036854775808 = ((m ^^^ 9223372036854775808 : Nat) : Int) := bits_xor_u64_nat m 9223372036854775808 h (by decide)
  have h1 : m < 9223372036854775808 ∨ 9223372036854775808 ≤ m := by omega
  have hoff : (off63 ((m : Int) - 9223372036854775808)) = m := by unfold off63; omega
  have hx := xor63 (n := (m : Int) - 9223372036854775808) (by omega) (by omega)
  rw [hoff] at hx
  have hw : IntKind.u64.wrap ((m : Int) - 9223372036854775808) = (((m + 9223372036854775808) % 18446744073709551616 : Nat) : Int) := by rw [IntKind.wrap_u64]; omega
  rw [hw] at hx
  have hb2 : bits .xor .u64 (((m + 9223372036854775808) % 18446744073709551616 : Nat) : Int) 9223372036854775808 = (((m + 9223372036854775808) % 18446744073709551616 ^^^ 9223372036854775808 : Nat) : Int) := bits_xor_u64_nat _ 9223372036854775808 (Nat.mod_lt _ (by decide)) (by decide)
  rw [hb2] at hx
  have hx' : (m + 9223372036854775808) % 18446744073709551616 ^^^ 9223372036854775808 = m := by omega
  have hm : m ^^^ 9223372036854775808 = (m + 9223372036854775808) % 18446744073709551616 := by
    calc m ^^^ 9223372036854775808 = ((m + 9223372036854775808) % 18446744073709551616 ^^^ 9223372036854775808) ^^^ 9223372036854775808 := by rw [hx']
      _ = (m + 9223372036854775808) % 18446744073709551616 := by rw [Nat.xor_assoc, Nat.xor_self, Nat.xor_zero]
  rw [hb, hm, IntKind.wrap_i64]
  omega

theorem tup3i {a a' : Int} {b b' c c' : Int} (h1 : a = a') (h2 : b = b') (h3 : c = c') : Ending.returned (.tuple #[.int .i64 a, .int .i64 b, .int .i64 c]) = Ending.returned (.tuple #[.int .i64 a', .int .i64 b', .int .i64 c']) := by rw [h1, h2, h3]

theorem takenKeyInt_short (A : Option Addr) (n c : Nat) (w : World) (hn : n < 8) :
    Calls Tryd.prog 24 #[.slice A n c] w fun e w' => e = .returned (.tuple #[.int .i64 0, .int .i64 0, .int .i64 10]) ∧ w = w' := by
  go_enter Tryd.func24, Tryd.ntmps24
  go_wp2
  go_ret3
  exact ⟨rfl, rfl⟩

set_option maxHeartbeats 800000 in
set_option maxRecDepth 100000 in
theorem takenKeyInt_full (g o c : Nat) (l : List UInt8) (w : World) (hc : ∀ i (h : i < l.length), w.cell? ⟨g, o + i, none⟩ = some (bv l[i])) (hcap : l.length ≤ c) (h8 : 8 ≤ l.length) :
    Calls Tryd.prog 24 #[.slice (some ⟨g, o, none⟩) l.length c] w fun e w' => e = .returned (.tuple #[.int .i64 ((be (l.take 8) : Int) - 9223372036854775808), .int .i64 8, .int .i64 0]) ∧ w = w' := by
  have hcut : ∀ W' : World, (Instr.slice 23 (.slice (some ⟨g, o, none⟩) l.length c) none (some (.int .i64 8)) none).run Tryd.prog W' = .ok (.slice (some ⟨g, o, none⟩) 8 c) W' := cut0_run (e := 8) (by omega)
  have HC := Lib.hid hc
  clear hc
  go_enter Tryd.func24, Tryd.ntmps24
  go_wp2
  go_loop [5, 14] (fun n i => ∃ k : Nat, k ≤ 8 ∧ i = .int .i64 k ∧ n = .int .u64 (be (l.take k))) (fun _ i => 8 - (intOf i).toNat)
  case atStart => exact ⟨0, by omega, rfl, rfl⟩
  case round =>
    obtain ⟨k, hk, rfl, rfl⟩ := hrel
    by_cases hlt : k < 8
    · have c1 : w.cell? ⟨g, o + k, none⟩ = some (.int .u8 (l[k].toNat : Int)) := HC.out k (by omega)
      have hU := be_lt (l := l) k (by omega)
      have hp : 2 ^ (8 * k) ≤ 2 ^ 56 := Nat.pow_le_pow_right (by decide) (by omega)
      have e1 := or256 (U := be (l.take k)) (c := l[k].toNat) (by omega) l[k].toNat_lt
      rw [← be_snoc (by omega)] at e1
      have b1 := l[k].toNat_lt
      clear hU hp
      go_wp2
      go_round
      case rel => exact ⟨k + 1, by omega, by go_num, rfl⟩
      case measure => simp [intOf]; omega
    · obtain rfl : k = 8 := by omega
      have hU := be_lt (l := l) 8 (by omega)
      have e1 := Lib.hid (top_back (m := be (l.take 8)) (by omega))
      clear hU
      go_wp2
      go_ret3
      refine ⟨?_, rfl⟩
      refine tup3i ?_ rfl rfl
      exact (IntWalk.i64_left _).symm.trans e1.out

theorem takenKeyInt_any (A : Option Addr) (c B : Nat) (l : List UInt8) (w : World) (hr : Rd w B A l) (hcap : l.length ≤ c) :
    Calls Tryd.prog 24 #[.slice A l.length c] w fun e w' => e = .returned (.tuple #[.int .i64 (tki l).1, .int .i64 (tki l).2.1, .int .i64 (tki l).2.2]) ∧ w = w' := by
  unfold tki
  by_cases h : l.length < 8
  · rw [if_pos h]
    exact takenKeyInt_short A l.length c w h
  · rw [if_neg h]
    rcases hr with rfl | ⟨g, o, rfl, _, hc⟩
    · simp at h
    · exact takenKeyInt_full g o c l w hc hcap (by omega)
end Go.Proofs.YtaojflmbfigplaaDoor
