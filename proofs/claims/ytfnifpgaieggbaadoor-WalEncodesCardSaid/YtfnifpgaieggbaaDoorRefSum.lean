/-
  The contract of the reference's sum and Sum: the check sum bit by bit; it is the one by the table.
-/
import Derived.Test.YtfnifpgaieggbaaDoorSum
namespace Go.Proofs.YtfnifpgaieggbaaDoor
open Go.RowKit

def bit1 (c : Nat) : Nat := if c % 2 = 1 then (c / 2) ^^^ 3988292384 else c / 2
def bitsN : Nat → Nat → Nat
  | 0, c => c
  | j + 1, c => bit1 (bitsN j c)

theorem xor_half (a b : Nat) : (a ^^^ b) / 2 = a / 2 ^^^ b / 2 := Nat.xor_div_two_pow (n := 1)
theorem xor_odd (a b : Nat) : (a ^^^ b) % 2 = a % 2 ^^^ b % 2 := Nat.xor_mod_two_pow (n := 1)
theorem xrc (a b c : Nat) : a ^^^ b ^^^ c = a ^^^ c ^^^ b := by rw [Nat.xor_assoc, Nat.xor_comm b, ← Nat.xor_assoc]
theorem bit1_xor (a b : Nat) : bit1 (a ^^^ b) = bit1 a ^^^ bit1 b := by
  unfold bit1
  rw [xor_half, xor_odd]
  rcases Nat.mod_two_eq_zero_or_one a with h | h <;> rcases Nat.mod_two_eq_zero_or_one b with k | k <;> rw [h, k]
  · simp
  · simp [Nat.xor_assoc]
  · rw [if_pos (by decide), if_pos rfl, if_neg (by decide), xrc]
  · rw [if_neg (by decide), if_pos rfl, if_pos rfl]
    rw [← Nat.xor_assoc, xrc (a / 2) 3988292384, Nat.xor_assoc (a / 2 ^^^ b / 2), Nat.xor_self, Nat.xor_zero]
theorem bit1_even (q : Nat) : bit1 (2 * q) = q := by
  unfold bit1
  rw [if_neg (by omega)]
  omega
theorem bits4 (x : Nat) : bit1 (bit1 (bit1 (bit1 x))) = nib x := by
  have hx : x = (2 * (2 * (2 * (2 * (x / 16))))) ^^^ (x % 16) := by
    have := Nat.two_pow_add_eq_or_of_lt (i := 4) (b := x % 16) (by omega) (x / 16)
    have e : x = 2 ^ 4 * (x / 16) + x % 16 := by omega
    have z : (2 ^ 4 * (x / 16)) ^^^ (x % 16) = (2 ^ 4 * (x / 16)) ||| (x % 16) := by
      apply Nat.eq_of_testBit_eq
      intro i
      rw [Nat.testBit_xor, Nat.testBit_or, Nat.testBit_two_pow_mul]
      by_cases hi : 4 ≤ i
      · rw [show (x % 16).testBit i = false from Nat.testBit_lt_two_pow (Nat.lt_of_lt_of_le (show x % 16 < 2 ^ 4 by omega) (Nat.pow_le_pow_right (by decide) hi))]
        simp
      · simp [hi]
    rw [show (2 * (2 * (2 * (2 * (x / 16))))) = 2 ^ 4 * (x / 16) by omega, z, ← this]
    exact e
  have ht : ∀ r : Fin 16, bit1 (bit1 (bit1 (bit1 r.val))) = tabAt r.val := by decide +kernel
  conv => lhs; rw [hx]
  rw [bit1_xor, bit1_xor, bit1_xor, bit1_xor, bit1_even, bit1_even, bit1_even, bit1_even, ht ⟨x % 16, by omega⟩]
  rfl
theorem bits8 (x : Nat) : bitsN 8 x = nib (nib x) := by
  rw [← bits4, ← bits4]
  rfl
theorem bit1_lt {x : Nat} (h : x < 2 ^ 32) : bit1 x < 2 ^ 32 := by
  unfold bit1
  split
  · exact Nat.xor_lt_two_pow (by omega) (by decide)
  · omega
theorem bitsN_lt {x : Nat} (h : x < 2 ^ 32) : ∀ j, bitsN j x < 2 ^ 32
  | 0 => h
  | j + 1 => bit1_lt (bitsN_lt h j)

set_option maxHeartbeats 800000 in
set_option maxRecDepth 100000 in
theorem rsum_full (r g o c : Nat) (l : List UInt8) (w : World) (hr : r < 2 ^ 32) (hc : ∀ i (h : i < l.length), w.cell? ⟨g, o + i, none⟩ = some (bv l[i])) (hl : l.length ≤ 9223372036854775807) :
    Calls Tryd.prog 41 #[.int .u32 r, .slice (some ⟨g, o, none⟩) l.length c] w fun e w' => e = .returned (.int .u32 (crcOn r l)) ∧ w = w' := by
  have HR := Lib.hid hr
  have HC := Lib.hid hc
  clear hr hc
  go_enter Tryd.func41, Tryd.ntmps41
  go_wp2
  go_loop [0, 5] (fun n i => ∃ k : Nat, k ≤ l.length ∧ i = .int .i64 k ∧ n = .int .u32 (crcOn r (l.take k))) (fun _ i => l.length - (intOf i).toNat)
  case atStart => exact ⟨0, by omega, rfl, rfl⟩
  case round =>
    obtain ⟨k, hk, rfl, rfl⟩ := hrel
    by_cases hlt : k < l.length
    · have c1 : w.cell? ⟨g, o + k, none⟩ = some (.int .u8 (l[k].toNat : Int)) := HC.out k hlt
      have b0 := crcOn_lt (l := l.take k) HR.out
      have HE := Lib.hid (crcOn_take hlt r)
      obtain ⟨R, hR⟩ : ∃ R, R = crcOn r (l.take k) := ⟨_, rfl⟩
      rw [← hR] at b0 HE
      rw [← hR]
      clear hR
      obtain ⟨C, hC⟩ : ∃ C, C = l[k].toNat := ⟨_, rfl⟩
      have bC : C < 256 := by rw [hC]; exact l[k].toNat_lt
      rw [← hC] at c1 HE
      clear hC
      obtain ⟨X, hX⟩ : ∃ X, X = R ^^^ C := ⟨_, rfl⟩
      have e1 := xor32 b0 (show C < 2 ^ 32 by omega)
      have bX : X < 2 ^ 32 := by rw [hX]; exact Nat.xor_lt_two_pow b0 (by omega)
      rw [← hX] at e1 HE
      clear hX
      have HX := Lib.hid bX
      go_wp2
      go_loop [0, 6] (fun n i => ∃ j : Nat, j ≤ 8 ∧ i = .int .i64 j ∧ n = .int .u32 (bitsN j X)) (fun _ i => 8 - (intOf i).toNat)
      case atStart => exact ⟨0, by omega, rfl, rfl⟩
      case round =>
        obtain ⟨j, hj, rfl, rfl⟩ := hrel
        by_cases h8 : j < 8
        · have bY := bitsN_lt HX.out j
          have HS := Lib.hid (show bitsN (j + 1) X = bit1 (bitsN j X) from rfl)
          obtain ⟨Y, hY⟩ : ∃ Y, Y = bitsN j X := ⟨_, rfl⟩
          rw [← hY] at bY HS
          rw [← hY]
          clear hY
          by_cases h2 : Y % 2 = 1
          · have hb : ((Y : Int) % 2 == 1) = true := by rw [beq_iff_eq]; omega
            have e3 : bits .xor .u32 ((Y : Int) / 2) 3988292384 = ((bitsN (j + 1) X : Nat) : Int) := by
              have e4 : bits .xor .u32 ((Y / 2 : Nat) : Int) 3988292384 = ((Y / 2 ^^^ 3988292384 : Nat) : Int) := xor32 (show Y / 2 < 2 ^ 32 by omega) (show 3988292384 < 2 ^ 32 by decide)
              have e5 : bitsN (j + 1) X = (Y / 2) ^^^ 3988292384 := by rw [HS.out]; unfold bit1; rw [if_pos h2]
              rw [show ((Y / 2 : Nat) : Int) = (Y : Int) / 2 by omega] at e4
              rw [e4, e5]
            clear h2
            go_wp2
            go_round
            case rel => exact ⟨j + 1, by omega, by go_num, rfl⟩
            case measure => simp [intOf]; omega
          · have hb : ((Y : Int) % 2 == 1) = false := by rw [beq_eq_false_iff_ne]; omega
            have e5 : ((bitsN (j + 1) X : Nat) : Int) = (Y : Int) / 2 := by rw [HS.out]; unfold bit1; rw [if_neg h2]; omega
            have E5 := Lib.hid e5
            clear h2 e5
            go_wp2
            go_round
            case rel => exact ⟨j + 1, by omega, by go_num, by rw [E5.out]⟩
            case measure => simp [intOf]; omega
        · obtain rfl : j = 8 := by omega
          have H8 := Lib.hid (bits8 X)
          go_wp2
          go_round
          case rel => exact ⟨k + 1, by omega, by go_num, by rw [H8.out, HE.out]⟩
          case measure => simp [intOf]; omega
    · go_wp2
      go_ret
      exact ⟨by rw [List.take_of_length_le (by omega)]; rfl, rfl⟩

theorem rsum_none (r c : Nat) (A : Option Addr) (w : World) :
    Calls Tryd.prog 41 #[.int .u32 r, .slice A 0 c] w fun e w' => e = .returned (.int .u32 r) ∧ w = w' := by
  go_enter Tryd.func41, Tryd.ntmps41
  go_wp2
  refine wp_loop_rounds 1 ?_
  rw [rounds_succ]
  go_wp2
  go_ret
  exact ⟨rfl, rfl⟩
theorem rsum_any (r c B : Nat) (A : Option Addr) (l : List UInt8) (w : World) (hr : r < 2 ^ 32) (hc : Rd w B A l) (hl : l.length ≤ 9223372036854775807) :
    Calls Tryd.prog 41 #[.int .u32 r, .slice A l.length c] w fun e w' => e = .returned (.int .u32 (crcOn r l)) ∧ w = w' := by
  rcases hc with rfl | ⟨g, o, rfl, _, hc⟩
  · exact rsum_none r c A w
  · exact rsum_full r g o c l w hr hc hl

theorem inv32' {x : Nat} (h : x < 2 ^ 32) : bits .xor .u32 (x : Int) 4294967295 = ((4294967295 - x : Nat) : Int) := by
  have e : bits .xor .u32 (x : Int) 4294967295 = ((x ^^^ 4294967295 : Nat) : Int) := xor32 h (by decide)
  have h1 : (BitVec.ofNat 32 x ^^^ BitVec.allOnes 32).toNat = 4294967295 - x := by
    rw [BitVec.xor_allOnes, BitVec.toNat_not, BitVec.toNat_ofNat, Nat.mod_eq_of_lt h]
  rw [BitVec.toNat_xor, BitVec.toNat_allOnes, BitVec.toNat_ofNat, Nat.mod_eq_of_lt h] at h1
  rw [e, ← h1]

end Go.Proofs.YtfnifpgaieggbaaDoor
