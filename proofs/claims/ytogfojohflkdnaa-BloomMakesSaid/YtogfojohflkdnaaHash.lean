/-
  The contracts of both Hash functions and of RotateLeft64 by -33.
-/
import Derived.Test.YtogfojohflkdnaaCut
namespace Go.Proofs.Ytogfojohflkdnaa
open Go.RowKit

theorem u64_in (n : Nat) (h : n < 18446744073709551616) : IntKind.u64.wrap (n : Int) = (n : Int) := by
  show ((n : Int) % 18446744073709551616) = n
  omega
theorem bv64 (a : Nat) (ha : a < 18446744073709551616) : (BitVec.ofInt 64 (a : Int)).toNat = a := by
  rw [BitVec.ofInt_natCast, BitVec.toNat_ofNat]; exact Nat.mod_eq_of_lt (by omega)
theorem xor_u64 (a b : Nat) (ha : a < 18446744073709551616) (hb : b < 18446744073709551616) : bits .xor .u64 (a : Int) (b : Int) = ((a ^^^ b : Nat) : Int) := by
  have hx : a ^^^ b < 2 ^ 64 := Nat.xor_lt_two_pow (by omega) (by omega)
  show IntKind.u64.wrap ((BitVec.ofInt 64 (a : Int) ^^^ BitVec.ofInt 64 (b : Int)).toNat : Int) = _
  rw [BitVec.toNat_xor, bv64 a ha, bv64 b hb]
  exact u64_in _ (by omega)
theorem or_u64 (a b : Nat) (ha : a < 18446744073709551616) (hb : b < 18446744073709551616) : bits .or .u64 (a : Int) (b : Int) = ((a ||| b : Nat) : Int) := by
  have hx : a ||| b < 2 ^ 64 := Nat.or_lt_two_pow (by omega) (by omega)
  show IntKind.u64.wrap ((BitVec.ofInt 64 (a : Int) ||| BitVec.ofInt 64 (b : Int)).toNat : Int) = _
  rw [BitVec.toNat_or, bv64 a ha, bv64 b hb]
  exact u64_in _ (by omega)

/-- the hash, from h on -/
def hs (h : Nat) : List UInt8 → Nat
  | [] => h
  | c :: l => hs ((h ^^^ c.toNat) * 1099511628211 % 18446744073709551616) l
theorem hs_lt : ∀ (l : List UInt8) (h : Nat), h < 18446744073709551616 → hs h l < 18446744073709551616
  | [], _, hh => hh
  | c :: l, h, _ => hs_lt l _ (Nat.mod_lt _ (by decide))
theorem hs_snoc : ∀ (l : List UInt8) (h : Nat) (c : UInt8), hs h (l ++ [c]) = (hs h l ^^^ c.toNat) * 1099511628211 % 18446744073709551616
  | [], _, _ => rfl
  | d :: l, h, c => by simp only [List.cons_append, hs]; exact hs_snoc l _ c
def hash (l : List UInt8) : Nat := hs 14695981039346656037 l
theorem hash_lt (l : List UInt8) : hash l < 18446744073709551616 := hs_lt l _ (by decide)

set_option maxHeartbeats 400000 in
set_option maxRecDepth 100000 in
theorem hash_any (A : Option Addr) (c B : Nat) (l : List UInt8) (w : World) (hr : Rd w B A l) (hl : l.length ≤ 9223372036854775807) :
    Calls Try.prog 10 #[.slice A l.length c] w fun e w' => e = .returned (.int .u64 (hash l)) ∧ w = w' := by
  have HR := Lib.hid hr
  clear hr
  go_enter Try.func10, Try.ntmps10
  go_wp2
  go_loopw [3, 8] (fun h i wr => ∃ k : Nat, k ≤ l.length ∧ i = .int .i64 k ∧ h = .int .u64 (hash (l.take k)) ∧ wr = w) (fun _ i _ => l.length - (intOf i).toNat)
  case atStart => exact ⟨0, by omega, rfl, rfl, rfl⟩
  case round =>
    obtain ⟨k, hk, rfl, rfl, rfl⟩ := hrel
    by_cases hlt : k < l.length
    · rcases HR.out with rfl | ⟨g, o, rfl, hg, hcell⟩
      · simp at hlt
      have c1 := hcell k hlt
      clear hcell
      unfold bv at c1
      have HS := Lib.hid (show hash (l.take (k + 1)) = (hash (l.take k) ^^^ l[k].toNat) * 1099511628211 % 18446744073709551616 by rw [List.take_succ_eq_append_getElem hlt]; exact hs_snoc _ _ _)
      have hH := hash_lt (l.take k)
      obtain ⟨h, hh⟩ : ∃ h, h = hash (l.take k) := ⟨_, rfl⟩
      obtain ⟨x, hx⟩ : ∃ x, x = l[k].toNat := ⟨_, rfl⟩
      have lx : x < 256 := by rw [hx]; exact l[k].toNat_lt
      rw [← hx] at c1 HS
      rw [← hh] at HS hH
      rw [← hh]
      clear hh hx
      have hxor := xor_u64 h x hH (by omega)
      obtain ⟨y, hy⟩ : ∃ y, y = h ^^^ x := ⟨_, rfl⟩
      have hyl : y < 18446744073709551616 := by rw [hy]; exact Nat.xor_lt_two_pow (n := 64) (by omega) (by omega)
      rw [← hy] at hxor HS
      clear hy
      go_wp2
      refine ⟨⟨k + 1, by omega, by go_num, ?_, trivial⟩, by simp [intOf]; omega⟩
      rw [HS.out]
      show Value.int .u64 (((y : Int) * 1099511628211) % 18446744073709551616) = _
      congr 1
    · have : l.take k = l := List.take_of_length_le (by omega)
      have HT := Lib.hid this
      clear this
      go_wp2
      go_ret
      rw [HT.out]
      exact ⟨rfl, rfl⟩
set_option maxHeartbeats 400000 in
set_option maxRecDepth 100000 in
theorem rhash_any (A : Option Addr) (c B : Nat) (l : List UInt8) (w : World) (hr : Rd w B A l) (hl : l.length ≤ 9223372036854775807) :
    Calls Try.prog 9 #[.slice A l.length c] w fun e w' => e = .returned (.int .u64 (hash l)) ∧ w = w' := by
  have HR := Lib.hid hr
  clear hr
  go_enter Try.func9, Try.ntmps9
  go_wp2
  go_loopw [3, 4] (fun h i wr => ∃ k : Nat, k ≤ l.length ∧ i = .int .i64 k ∧ h = .int .u64 (hash (l.take k)) ∧ wr = w) (fun _ i _ => l.length - (intOf i).toNat)
  case atStart => exact ⟨0, by omega, rfl, rfl, rfl⟩
  case round =>
    obtain ⟨k, hk, rfl, rfl, rfl⟩ := hrel
    by_cases hlt : k < l.length
    · rcases HR.out with rfl | ⟨g, o, rfl, hg, hcell⟩
      · simp at hlt
      have c1 := hcell k hlt
      clear hcell
      unfold bv at c1
      have HS := Lib.hid (show hash (l.take (k + 1)) = (hash (l.take k) ^^^ l[k].toNat) * 1099511628211 % 18446744073709551616 by rw [List.take_succ_eq_append_getElem hlt]; exact hs_snoc _ _ _)
      have hH := hash_lt (l.take k)
      obtain ⟨h, hh⟩ : ∃ h, h = hash (l.take k) := ⟨_, rfl⟩
      obtain ⟨x, hx⟩ : ∃ x, x = l[k].toNat := ⟨_, rfl⟩
      have lx : x < 256 := by rw [hx]; exact l[k].toNat_lt
      rw [← hx] at c1 HS
      rw [← hh] at HS hH
      rw [← hh]
      clear hh hx
      have hxor := xor_u64 h x hH (by omega)
      obtain ⟨y, hy⟩ : ∃ y, y = h ^^^ x := ⟨_, rfl⟩
      have hyl : y < 18446744073709551616 := by rw [hy]; exact Nat.xor_lt_two_pow (n := 64) (by omega) (by omega)
      rw [← hy] at hxor HS
      clear hy
      go_wp2
      refine ⟨⟨k + 1, by omega, by go_num, ?_, trivial⟩, by simp [intOf]; omega⟩
      rw [HS.out]
      show Value.int .u64 (((y : Int) * 1099511628211) % 18446744073709551616) = _
      congr 1
    · have : l.take k = l := List.take_of_length_le (by omega)
      have HT := Lib.hid this
      clear this
      go_wp2
      go_ret
      rw [HT.out]
      exact ⟨rfl, rfl⟩

/-- a number's bits turned to the right by 33 -/
def rot (h : Nat) : Nat := h % 8589934592 * 2147483648 + h / 8589934592
theorem rot_lt {h : Nat} (hh : h < 18446744073709551616) : rot h < 18446744073709551616 := by unfold rot; omega
theorem rot_or {h : Nat} (hh : h < 18446744073709551616) : (h * 2147483648 % 18446744073709551616) ||| (h / 8589934592) = rot h := by
  have e : h * 2147483648 % 18446744073709551616 = 2 ^ 31 * (h % 8589934592) := by omega
  rw [e, ← Nat.two_pow_add_eq_or_of_lt (i := 31) (by omega)]
  unfold rot
  omega

set_option maxHeartbeats 400000 in
set_option maxRecDepth 100000 in
theorem rot_any (h : Nat) (w : World) (hh : h < 18446744073709551616) :
    Calls Try.prog 21 #[.int .u64 (h : Int), .int .i64 (-33)] w fun e w' => e = .returned (.int .u64 (rot h)) ∧ w = w' := by
  have hk : bits BinOp.and IntKind.u64 (IntKind.u64.wrap (-33)) 63 = 31 := by decide +kernel
  go_enter Try.func21, Try.ntmps21
  have hw : IntKind.u64.wrap ((h : Int) * 2147483648) = ((h * 2147483648 % 18446744073709551616 : Nat) : Int) := by
    show (((h : Int) * 2147483648) % 18446744073709551616) = _
    omega
  have hd : ((h : Int) / 8589934592) = ((h / 8589934592 : Nat) : Int) := by omega
  have ho : bits BinOp.or IntKind.u64 (IntKind.u64.wrap ((h : Int) * 2147483648)) ((h : Int) / 8589934592) = (rot h : Int) := by
    rw [hw, hd, or_u64 _ _ (by omega) (by omega), rot_or hh]
  have HO := Lib.hid ho
  clear hw hd ho
  go_wp2
  go_ret
  refine ⟨?_, rfl⟩
  rw [← HO.out]
  simp
end Go.Proofs.Ytogfojohflkdnaa
