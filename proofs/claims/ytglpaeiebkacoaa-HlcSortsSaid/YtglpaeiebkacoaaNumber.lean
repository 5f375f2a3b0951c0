/-
  The contract of hlc's number.
-/
import Derived.Test.YtglpaeiebkacoaaBig
namespace Go.Proofs.Ytglpaeiebkacoaa
open Go.RowKit

theorem numB_snoc : ∀ (l : List UInt8) (N : Nat) (c : UInt8), numB N (l ++ [c]) = numB N l * 256 + c.toNat
  | [], _, _ => rfl
  | d :: l, N, c => by simp only [List.cons_append, numB]; exact numB_snoc l _ c

theorem or_i64 (a b : Nat) (ha : a < 9223372036854775808) (hb : b < 9223372036854775808) : bits .or .i64 (a : Int) (b : Int) = ((a ||| b : Nat) : Int) := by
  have hx : a ||| b < 2 ^ 63 := Nat.or_lt_two_pow (by omega) (by omega)
  have h1 : (BitVec.ofInt 64 (a : Int)).toNat = a := by
    rw [BitVec.ofInt_natCast, BitVec.toNat_ofNat]; exact Nat.mod_eq_of_lt (by omega)
  have h2 : (BitVec.ofInt 64 (b : Int)).toNat = b := by
    rw [BitVec.ofInt_natCast, BitVec.toNat_ofNat]; exact Nat.mod_eq_of_lt (by omega)
  show IntKind.i64.wrap ((BitVec.ofInt 64 (a : Int) ||| BitVec.ofInt 64 (b : Int)).toNat : Int) = _
  rw [BitVec.toNat_or, h1, h2]
  exact IntWalk.i64_in _ (by omega)
theorem or_byte {N c : Nat} (hN : N < 281474976710656) (hc : c < 256) : bits .or .i64 (wrap64 ((N : Int) * 256)) (wrap64 (c : Int)) = ((N * 256 + c : Nat) : Int) := by
  rw [IntWalk.wrap64_in _ (by omega), IntWalk.wrap64_in _ (by omega), show ((N : Int) * 256) = ((N * 256 : Nat) : Int) by omega]
  rw [or_i64 _ _ (by omega) (by omega)]
  have := Nat.two_pow_add_eq_or_of_lt (i := 8) (b := c) hc N
  rw [show N * 256 = 2 ^ 8 * N by omega, ← this]

set_option maxHeartbeats 400000 in
set_option maxRecDepth 100000 in
theorem number_full (g o c : Nat) (l : List UInt8) (w : World) (hc : ∀ i (h : i < l.length), w.cell? ⟨g, o + i, none⟩ = some (.int .u8 (l[i].toNat : Int))) (hl : l.length ≤ 7) :
    Calls Try.prog 34 #[.slice (some ⟨g, o, none⟩) l.length c] w fun e w' => e = .returned (.int .i64 (numB 0 l)) ∧ w = w' := by
  go_enter Try.func34, Try.ntmps34
  go_wp2
  go_loopw [3, 8] (fun n i wr => ∃ k : Nat, k ≤ l.length ∧ i = .int .i64 k ∧ n = .int .i64 (numB 0 (l.take k)) ∧ wr = w) (fun _ i _ => l.length - (intOf i).toNat)
  case atStart => exact ⟨0, by omega, rfl, rfl, rfl⟩
  case round =>
    obtain ⟨k, hk, rfl, rfl, rfl⟩ := hrel
    by_cases hlt : k < l.length
    · have c1 := hc k hlt
      have hb := numB_lt (l.take k) 0 0 (by decide)
      rw [List.length_take] at hb
      have HS := Lib.hid (show numB 0 (l.take (k + 1)) = numB 0 (l.take k) * 256 + l[k].toNat by rw [List.take_succ_eq_append_getElem hlt, numB_snoc])
      obtain ⟨N, hN⟩ : ∃ N, N = numB 0 (l.take k) := ⟨_, rfl⟩
      rw [← hN] at HS hb
      rw [← hN]
      have hN6 : N < 281474976710656 := Nat.lt_of_lt_of_le hb (Nat.le_trans (Nat.pow_le_pow_right (by decide) (show 0 + min k l.length ≤ 6 by omega)) (by decide))
      have HE := Lib.hid (or_byte hN6 l[k].toNat_lt)
      have HN := Lib.hid hN
      clear hN
      go_wp2
      refine ⟨⟨k + 1, by omega, by go_num, ?_, trivial⟩, by simp [intOf]; omega⟩
      have he := HE.out
      rw [IntWalk.wrap64_in ((N : Int) * 256) (by omega)] at he
      rw [he, HS.out]
    · have : l.take k = l := List.take_of_length_le (by omega)
      have HT := Lib.hid this
      clear this
      go_wp2
      go_ret
      rw [HT.out]
      exact ⟨rfl, rfl⟩
end Go.Proofs.Ytglpaeiebkacoaa
