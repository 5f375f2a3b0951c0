/-
  The contract of the reference's KeyInt.
-/
import Derived.Test.YtaojflmbfigplaaDoorKeyInt
namespace Go.Proofs.YtaojflmbfigplaaDoor
open Go.RowKit

theorem rkeyVal (U q : Nat) (hq : q < 8) : Value.int .u8 (((U / 2 ^ (64 - 8 * (q + 1)) : Nat) : Int) % 256) = bv (keyAt U q) := by
  unfold bv keyAt
  rw [by8_nat, show 64 - 8 * (q + 1) = 56 - 8 * q by omega]
  simp
theorem rkey_step (U : Nat) {q : Nat} (h : q < 8) : (List.replicate (q + 1) 0 ++ (key8 U).drop (q + 1)).set q (keyAt U q) = List.replicate q 0 ++ (key8 U).drop q := by
  have : q = 0 ∨ q = 1 ∨ q = 2 ∨ q = 3 ∨ q = 4 ∨ q = 5 ∨ q = 6 ∨ q = 7 := by omega
  rcases this with rfl | rfl | rfl | rfl | rfl | rfl | rfl | rfl <;> rfl
theorem rkey_div (U q : Nat) (hq : q < 8) : ((U / 2 ^ (64 - 8 * (q + 1)) : Nat) : Int) / 256 = ((U / 2 ^ (64 - 8 * q) : Nat) : Int) := by
  have e : U / 2 ^ (64 - 8 * (q + 1)) / 256 = U / 2 ^ (64 - 8 * q) := by
    rw [Nat.div_div_eq_div_mul, show (256 : Nat) = 2 ^ 8 from rfl, ← Nat.pow_add, show 64 - 8 * (q + 1) + 8 = 64 - 8 * q by omega]
  omega

set_option maxHeartbeats 800000 in
set_option maxRecDepth 100000 in
theorem rkeyInt_any (n : Int) (w : World) (h0 : -9223372036854775808 ≤ n) (h1 : n < 9223372036854775808) :
    Calls Tryd.prog 37 #[.int .i64 n] w fun e w' => ∃ v, e = .returned v ∧ Own w' w.heap.size v (key8 (off63 n)) ∧ Below w.heap.size w w' := by
  have hx := xor63 h0 h1
  have hU : off63 n ≤ 18446744073709551615 := by unfold off63; omega
  obtain ⟨U, hU'⟩ : ∃ U, U = off63 n := ⟨_, rfl⟩
  rw [← hU'] at hx hU
  rw [← hU']
  clear hU' h0 h1
  go_enter Tryd.func37, Tryd.ntmps37
  go_wp2_with (at_make; refine make_zeros _ 8 _ _ rfl rfl rfl _ _ rfl rfl rfl (by omega) ?_)
  intro w1 hown hbel hlt
  go_wp2
  go_loopw [3, 5] (fun u i wr => ∃ r : Nat, r ≤ 8 ∧ i = .int .i64 ((r : Int) - 1) ∧ u = .int .u64 ((U / 2 ^ (64 - 8 * r) : Nat) : Int) ∧ Own wr w.heap.size (.slice (some ⟨w.heap.size, 0, none⟩) 8 8) (List.replicate r 0 ++ (key8 U).drop r) ∧ Below w.heap.size w wr) (fun _ i _ => (intOf i + 1).toNat)
  case atStart => exact ⟨8, by omega, rfl, by simp, by simpa [key8] using hown, hbel⟩
  case round =>
    obtain ⟨r, hr, rfl, rfl, hown, hbel⟩ := hrel
    by_cases h : 0 < r
    · obtain ⟨q, rfl⟩ : ∃ q, r = q + 1 := ⟨r - 1, by omega⟩
      have hl : q < (List.replicate (q + 1) (0 : UInt8) ++ (key8 U).drop (q + 1)).length := by simp [key8]; omega
      obtain ⟨X, c1⟩ : ∃ X, wr.cell? ⟨w.heap.size, q, none⟩ = some (.int .u8 X) := ⟨_, hown.cell q hl⟩
      have c2 := hown.free q
      have HV := Lib.hid (rkeyVal U q (by omega))
      have HD := Lib.hid (rkey_div U q (by omega))
      have HU : U / 2 ^ (64 - 8 * (q + 1)) ≤ 18446744073709551615 := Nat.le_trans (Nat.div_le_self _ _) hU
      obtain ⟨Y, hY⟩ : ∃ Y, Y = U / 2 ^ (64 - 8 * (q + 1)) := ⟨_, rfl⟩
      rw [← hY] at HV HD HU
      rw [← hY]
      clear hY
      rw [show ((q + 1 : Nat) : Int) - 1 = (q : Int) by omega]
      go_wp2
      go_roundw
      case rel =>
        refine ⟨q, by omega, by go_num, by rw [← HD.out], ?_, hbel.setCell (Nat.le_refl _) _⟩
        rw [HV.out, ← rkey_step U (by omega)]
        exact hown.set q _
      case measure => simp [intOf]
    · obtain rfl : r = 0 := by omega
      go_wp2
      go_ret
      exact ⟨_, rfl, by simpa using hown, hbel⟩
end Go.Proofs.YtaojflmbfigplaaDoor
