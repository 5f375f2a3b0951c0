/-
  The contracts of codec.sumOn and codec.Sum: the check sum by a table of sixteen.
-/
import Derived.Test.YtfnifpgaieggbaaDoorBase
import Derived.Outline
import Derived.Lib.LaidTab
namespace Go.Proofs.YtfnifpgaieggbaaDoor
open Go.RowKit

def crcTab : List Nat := [0, 498536548, 997073096, 651767980, 1994146192, 1802195444, 1303535960, 1342533948, 3988292384, 4027552580, 3604390888, 3412177804, 2607071920, 2262029012, 2685067896, 3183342108]
def tabAt (i : Nat) : Nat := crcTab.getD i 0
/-- the table's cells -/
def Tab (w : World) : Prop := ∀ j, j < 16 → w.cell? ⟨0, j, none⟩ = some (.int .u32 (tabAt j : Int))
theorem Tab.below {B : Nat} {w w' : World} (h : Tab w) (hb : Below B w w') (hB : 0 < B) : Tab w' := fun j hj => (hb.cell (p := ⟨0, j, none⟩) hB).trans (h j hj)

/-- four bits of the register -/
def nib (r : Nat) : Nat := (r / 16) ^^^ tabAt (r % 16)
def crcOn (r : Nat) (l : List UInt8) : Nat := l.foldl (fun r c => nib (nib (r ^^^ c.toNat))) r

theorem tabAt_lt (i : Nat) : tabAt i < 2 ^ 32 := by
  by_cases h : i < 16
  · have : ∀ x : Fin 16, tabAt x.val < 2 ^ 32 := by decide
    exact this ⟨i, h⟩
  · have : tabAt i = 0 := by unfold tabAt; rw [List.getD_eq_getElem?_getD, List.getElem?_eq_none (by simp [crcTab]; omega)]; rfl
    omega
theorem nib_lt {r : Nat} (h : r < 2 ^ 32) : nib r < 2 ^ 32 := Nat.xor_lt_two_pow (by omega) (tabAt_lt _)

theorem crcOn_take {l : List UInt8} {k : Nat} (h : k < l.length) (r : Nat) : crcOn r (l.take (k + 1)) = nib (nib (crcOn r (l.take k) ^^^ l[k].toNat)) := by
  unfold crcOn
  rw [List.take_succ_eq_append_getElem h, List.foldl_append]
  rfl
theorem crcOn_lt {l : List UInt8} {r : Nat} (h : r < 2 ^ 32) : crcOn r l < 2 ^ 32 := by
  unfold crcOn
  induction l generalizing r with
  | nil => exact h
  | cons c t ih =>
    rw [List.foldl_cons]
    have : c.toNat < 2 ^ 32 := by have := c.toNat_lt; omega
    exact ih (nib_lt (nib_lt (Nat.xor_lt_two_pow h this)))

theorem of32 {a : Nat} (h : a < 2 ^ 32) : (BitVec.ofInt 32 (a : Int)).toNat = a := by
  rw [BitVec.ofInt_natCast, BitVec.toNat_ofNat]; exact Nat.mod_eq_of_lt h
theorem xor32 {a b : Nat} (ha : a < 2 ^ 32) (hb : b < 2 ^ 32) : bits .xor .u32 (a : Int) (b : Int) = ((a ^^^ b : Nat) : Int) := by
  have hx : a ^^^ b < 2 ^ 32 := Nat.xor_lt_two_pow ha hb
  show IntKind.u32.wrap ((BitVec.ofInt 32 (a : Int) ^^^ BitVec.ofInt 32 (b : Int)).toNat : Int) = _
  rw [BitVec.toNat_xor, of32 ha, of32 hb, IntKind.wrap_u32]
  omega
theorem and15 {a : Nat} (ha : a < 2 ^ 32) : bits .and .u32 (a : Int) 15 = ((a % 16 : Nat) : Int) := by
  have h := bits_mask .u32 32 (by decide) (fun n h0 h1 => by rw [IntKind.wrap_u32]; omega) 4 (by decide) (a : Int) (by omega) (by omega)
  rw [show ((2 : Int) ^ 4 - 1) = 15 from rfl] at h
  rw [h]
  omega

set_option maxHeartbeats 400000 in
set_option maxRecDepth 100000 in
theorem sumOn_full (r g o c : Nat) (l : List UInt8) (w : World) (hr : r < 2 ^ 32) (hT : Tab w) (hc : ∀ i (h : i < l.length), w.cell? ⟨g, o + i, none⟩ = some (bv l[i])) (hl : l.length ≤ 9223372036854775807) :
    Calls Tryd.prog 33 #[.int .u32 r, .slice (some ⟨g, o, none⟩) l.length c] w fun e w' => e = .returned (.int .u32 (crcOn r l)) ∧ w = w' := by
  have HR := Lib.hid hr
  have HT := Lib.hid hT
  have HC := Lib.hid hc
  clear hr hT hc
  go_enter Tryd.func33, Tryd.ntmps33
  go_wp2
  go_loop [0, 9] (fun n i => ∃ k : Nat, k ≤ l.length ∧ i = .int .i64 k ∧ n = .int .u32 (crcOn r (l.take k))) (fun _ i => l.length - (intOf i).toNat)
  case atStart => exact ⟨0, by omega, rfl, rfl⟩
  case round =>
    obtain ⟨k, hk, rfl, rfl⟩ := hrel
    by_cases hlt : k < l.length
    · have c1 : w.cell? ⟨g, o + k, none⟩ = some (.int .u8 (l[k].toNat : Int)) := HC.out k hlt
      have b0 := crcOn_lt (l := l.take k) HR.out
      have HE := Lib.hid (crcOn_take hlt r)
      obtain ⟨R, hR⟩ : ∃ R, R = crcOn r (l.take k) := ⟨_, rfl⟩
      rw [← hR] at b0 HE
      rw [← hR]
      clear hR
      obtain ⟨C, hC⟩ : ∃ C, C = l[k].toNat := ⟨_, rfl⟩
      have bC : C < 256 := by rw [hC]; exact l[k].toNat_lt
      rw [← hC] at c1 HE
      clear hC
      obtain ⟨X, hX⟩ : ∃ X, X = R ^^^ C := ⟨_, rfl⟩
      have e1 := xor32 b0 (show C < 2 ^ 32 by omega)
      have bX : X < 2 ^ 32 := by rw [hX]; exact Nat.xor_lt_two_pow b0 (by omega)
      rw [← hX] at e1 HE
      clear hX
      obtain ⟨m, hm⟩ : ∃ m, m = X % 16 := ⟨_, rfl⟩
      have e2 := and15 bX
      have b2 : m < 16 := by omega
      have t1 := HT.out m b2
      have HY := Lib.hid (show nib X = (X / 16) ^^^ tabAt m by rw [hm]; rfl)
      rw [← hm] at e2
      have e3 := xor32 (show X / 16 < 2 ^ 32 by omega) (tabAt_lt m)
      have bY := nib_lt bX
      clear hm
      obtain ⟨Y, hY⟩ : ∃ Y, Y = nib X := ⟨_, rfl⟩
      rw [← HY.out, ← hY] at e3
      rw [← hY] at HE bY
      clear hY HY
      obtain ⟨n, hn⟩ : ∃ n, n = Y % 16 := ⟨_, rfl⟩
      have e4 := and15 bY
      have b4 : n < 16 := by omega
      have t2 := HT.out n b4
      have HZ := Lib.hid (show nib Y = (Y / 16) ^^^ tabAt n by rw [hn]; rfl)
      rw [← hn] at e4
      have e5 := xor32 (show Y / 16 < 2 ^ 32 by omega) (tabAt_lt n)
      clear hn
      rw [← HZ.out, ← HE.out] at e5
      rw [show ((X / 16 : Nat) : Int) = (X : Int) / 16 by omega] at e3
      rw [show ((Y / 16 : Nat) : Int) = (Y : Int) / 16 by omega] at e5
      go_wp2
      go_round
      case rel => exact ⟨k + 1, by omega, by go_num, rfl⟩
      case measure => simp [intOf]; omega
    · go_wp2
      go_ret
      exact ⟨by rw [List.take_of_length_le (by omega)]; rfl, rfl⟩

theorem sumOn_none (r c : Nat) (A : Option Addr) (w : World) :
    Calls Tryd.prog 33 #[.int .u32 r, .slice A 0 c] w fun e w' => e = .returned (.int .u32 r) ∧ w = w' := by
  go_enter Tryd.func33, Tryd.ntmps33
  go_wp2
  refine wp_loop_rounds 1 ?_
  rw [rounds_succ]
  go_wp2
  go_ret
  exact ⟨rfl, rfl⟩
theorem sumOn_any (r c B : Nat) (A : Option Addr) (l : List UInt8) (w : World) (hr : r < 2 ^ 32) (hT : Tab w) (hc : Rd w B A l) (hl : l.length ≤ 9223372036854775807) :
    Calls Tryd.prog 33 #[.int .u32 r, .slice A l.length c] w fun e w' => e = .returned (.int .u32 (crcOn r l)) ∧ w = w' := by
  rcases hc with rfl | ⟨g, o, rfl, _, hc⟩
  · exact sumOn_none r c A w
  · exact sumOn_full r g o c l w hr hT hc hl

/-- the check sum -/
def crc (l : List UInt8) : Nat := 4294967295 - crcOn 4294967295 l
theorem crc_lt (l : List UInt8) : crc l < 2 ^ 32 := by unfold crc; omega
theorem inv32 {x : Nat} (h : x < 2 ^ 32) : bits .xor .u32 IntKind.u32.max (x : Int) = ((4294967295 - x : Nat) : Int) := by
  have e : IntKind.u32.max = ((4294967295 : Nat) : Int) := by decide
  rw [e, xor32 (by decide) h]
  have h1 : (BitVec.allOnes 32 ^^^ BitVec.ofNat 32 x).toNat = 4294967295 - x := by
    rw [BitVec.allOnes_xor, BitVec.toNat_not, BitVec.toNat_ofNat, Nat.mod_eq_of_lt h]
  rw [BitVec.toNat_xor, BitVec.toNat_allOnes, BitVec.toNat_ofNat, Nat.mod_eq_of_lt h] at h1
  rw [← h1]

end Go.Proofs.YtfnifpgaieggbaaDoor
