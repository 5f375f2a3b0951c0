/-
  The contracts of the reference's Four, sums and Frame.
-/
import Derived.Test.YtfnifpgaieggbaaDoorFrame
import Derived.Test.YtfnifpgaieggbaaDoorRefSum
namespace Go.Proofs.YtfnifpgaieggbaaDoor
open Go.RowKit

set_option maxRecDepth 100000 in
theorem rfour_any (n : Nat) (w : World) (hn : n ≤ 4294967295) :
    Calls Tryd.prog 42 #[.int .u32 n] w fun e w' => ∃ v, e = .returned v ∧ Own w' w.heap.size v (four n) ∧ Below w.heap.size w w' := by
  go_enter Tryd.func42, Tryd.ntmps42
  go_wp2
  go_ret
  exact ⟨_, rfl, own_lit w (four n) 4 _ rfl (four_cells hn) (by simp [four, maxLen]), (Below.refl _ _).alloc (Nat.le_refl _) _⟩

set_option maxHeartbeats 800000 in
set_option maxRecDepth 100000 in
theorem rsums_any (A A' : Option Addr) (c c' : Nat) (a b : List UInt8) (w : World) (ha : Rd w w.heap.size A a) (hb : Rd w w.heap.size A' b) (la : a.length ≤ 9223372036854775807) (lb : b.length ≤ 9223372036854775807) :
    Calls Tryd.prog 31 #[.slice A a.length c, .slice A' b.length c'] w fun e w' => ∃ v, e = .returned v ∧ Own w' w.heap.size v (four (crc (a ++ b))) ∧ Below w.heap.size w w' := by
  have HA := Lib.hid ha
  have HB := Lib.hid hb
  have hinv := inv32' (crcOn_lt (l := b) (r := crcOn 4294967295 a) (crcOn_lt (by decide)))
  obtain ⟨S, hS⟩ : ∃ S, S = crc (a ++ b) := ⟨_, rfl⟩
  have hS' : 4294967295 - crcOn (crcOn 4294967295 a) b = S := by rw [hS, crcOn_append]; rfl
  rw [hS'] at hinv
  have hSb : S ≤ 4294967295 := by rw [hS]; have := crc_lt (a ++ b); omega
  rw [← hS]
  clear ha hb hS hS'
  go_enter Tryd.func31, Tryd.ntmps31
  go_wp2_with fail
  refine (rsum_any 4294967295 _ _ _ a w (by decide) HA.out la).mono ?_
  rintro e w1 ⟨rfl, rfl⟩
  go_wp2_with fail
  refine (rsum_any (crcOn 4294967295 a) _ _ _ b w (crcOn_lt (by decide)) HB.out lb).mono ?_
  rintro e w1 ⟨rfl, rfl⟩
  go_wp2_with fail
  refine (rfour_any S w hSb).mono ?_
  rintro e w1 ⟨v, rfl, o1, hb1⟩
  go_wp2
  go_ret
  exact ⟨_, rfl, o1, hb1⟩

set_option maxHeartbeats 1600000 in
set_option maxRecDepth 100000 in
theorem rframe_ok (k : UInt8) (A : Option Addr) (c : Nat) (s : List UInt8) (w : World) (hr : Rd w w.heap.size A s) (hl : s.length ≤ 2097152) :
    Calls Tryd.prog 17 #[.int .u8 (k.toNat : Int), .slice A s.length c] w fun e w' => ∃ v, e = .returned (.tuple #[v, .int .i64 0]) ∧ Own w' w.heap.size v (frame k s) ∧ Below w.heap.size w w' := by
  have HR := Lib.hid hr
  have hnl := num_len s.length
  have hnp := num_pos s.length
  clear hr
  go_enter Tryd.func17, Tryd.ntmps17
  go_wp2_with fail
  refine (rnumber_any s.length w (Nat.le_trans hl (by decide))).mono ?_
  rintro e w2 ⟨v2, rfl, o2, hb2⟩
  obtain ⟨A2, c2, rfl, r2⟩ := o2.rd
  have o1 := own_lit w2 [k] 1 #[.int .u8 (k.toNat : Int)] rfl rfl (by simp [maxLen])
  go_wp2_with (at_builtin; refine app_bytes _ w2.heap.size _ [k] (num s.length) A2 c2 rfl (.tmp 17) (.tmp 18) rfl rfl rfl o1 ((r2.below ((Below.refl _ _).alloc (Nat.le_refl _) _)).more (by simp)) ?e1 ?e2 ?_)
  case e1 => simp; omega
  case e2 => simp
  intro v3 w3 o3 hb3 _
  have b23 : Below w2.heap.size w2 w3 := ((Below.refl w2.heap.size w2).alloc (Nat.le_refl _) _).trans hb3
  have b3 : Below w.heap.size w w3 := hb2.trans (b23.mono hb2.size)
  obtain ⟨H, hH⟩ : ∃ H, H = head k s.length := ⟨_, rfl⟩
  have o3 : Own w3 w2.heap.size v3 H := by rw [hH]; exact o3
  have hHl : H.length ≤ 11 := by rw [hH]; simp [head]; omega
  have HH := Lib.hid hH
  clear hH
  obtain ⟨A3, c3, rfl, r3⟩ := o3.rd
  go_wp2_with fail
  refine (rsums_any A3 A c3 c H s w3 r3 ((HR.out.below b3).more b3.size) (by omega) (by omega)).mono ?_
  rintro e w4 ⟨v4, rfl, o4, hb4⟩
  obtain ⟨S, hS⟩ : ∃ S, S = crc (H ++ s) := ⟨_, rfl⟩
  rw [← hS] at o4
  have HS := Lib.hid hS
  clear hS
  obtain ⟨A4, c4, rfl, r4⟩ := o4.rd
  have b4 : Below w.heap.size w w4 := b3.trans (hb4.mono b3.size)
  have o3' := o3.below hb4
  go_wp2_with (at_builtin; refine app_bytes _ w2.heap.size _ H (four S) A4 c4 rfl (.tmp 23) (.tmp 24) rfl rfl rfl o3' r4 ?f1 ?f2 ?_)
  case f1 => simp [four]; omega
  case f2 => exact Nat.le_trans b23.size hb4.size
  intro v5 w5 o5 hb5 _
  have b25 : Below w2.heap.size w2 w5 := (b23.trans (hb4.mono b23.size)).trans hb5
  have b5 : Below w.heap.size w w5 := hb2.trans (b25.mono hb2.size)
  go_wp2_with (at_builtin; refine app_bytes _ w2.heap.size _ _ s A c rfl (.tmp 26) (.tmp 27) rfl rfl rfl o5 ((HR.out.below b5).more b5.size) ?i1 ?i2 ?_)
  case i1 => simp [four]; omega
  case i2 => exact b25.size
  intro v6 w6 o6 hb6 _
  have o6' : Own w6 w.heap.size v6 (frame k s) := by
    have : H ++ four S ++ s = frame k s := by rw [HS.out, HH.out]; rfl
    rw [← this]
    exact (show Own w6 w2.heap.size v6 (H ++ four S ++ s) from by simpa using o6).lower hb2.size
  go_wp2
  go_ret2
  exact ⟨_, rfl, o6', b5.trans (hb6.mono hb2.size)⟩

set_option maxHeartbeats 800000 in
set_option maxRecDepth 100000 in
theorem rframe_long (k : Int) (A : Option Addr) (c n : Nat) (w : World) (hl : 2097152 < n) :
    Calls Tryd.prog 17 #[.int .u8 k, .slice A n c] w fun e w' => e = .returned (.tuple #[.slice none 0 0, .int .i64 12]) ∧ w = w' := by
  go_enter Tryd.func17, Tryd.ntmps17
  go_wp2
  go_ret2
  exact ⟨rfl, rfl⟩
end Go.Proofs.YtfnifpgaieggbaaDoor
