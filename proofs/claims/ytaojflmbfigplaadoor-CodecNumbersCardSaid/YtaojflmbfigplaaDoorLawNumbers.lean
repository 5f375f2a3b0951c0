/-
  The walk of the law CodecNumbers.
-/
import Derived.Test.YtaojflmbfigplaaDoorRefNumber
import Derived.Test.YtaojflmbfigplaaDoorSpoil
namespace Go.Proofs.YtaojflmbfigplaaDoor
open Go.RowKit

set_option maxHeartbeats 1600000 in
set_option maxRecDepth 100000 in
theorem law_numbers (n : Int) (A : Option Addr) (c : Nat) (s : List UInt8) (w : World) (n0 : 0 ≤ n) (n1 : n ≤ 18446744073709551615) (hs : Rd w w.heap.size A s) (ls : s.length ≤ 140737488351232)
    (hT : Tab w) (h0 : 0 < w.heap.size) :
    Calls Tryd.prog 3 #[.int .u64 n, .slice A s.length c] w fun e w' => e = .returned (.bool true) ∧ Below w.heap.size w w' := by
  obtain ⟨m, rfl⟩ := Int.eq_ofNat_of_zero_le n0
  have HS := Lib.hid hs
  have HTab := Lib.hid hT
  have hm : m ≤ 18446744073709551615 := by omega
  have HM := Lib.hid hm
  have hnl := num_len m
  clear hs hT hm n0 n1
  go_enter Tryd.func3, Tryd.ntmps3
  go_wp2_with fail
  refine (shown_any w HTab.out h0).mono ?_
  rintro e w1 ⟨rfl, hb1⟩
  go_wp2_with fail
  refine (rnumber_any m w1 HM.out).mono ?_
  rintro e w2 ⟨v2, rfl, o2, hb2⟩
  obtain ⟨A2, c2, rfl, r2⟩ := o2.rd
  go_wp2_with fail
  refine (number_any m w2 (Nat.lt_of_le_of_lt HM.out (by decide))).mono ?_
  rintro e w3 ⟨v3, rfl, o3, hb3⟩
  obtain ⟨A3, c3, rfl, r3⟩ := o3.rd
  have s2 := str_of (r2.below hb3) c2
  have s3 := str_of r3 c3
  go_wp2_with (at_builtin; go_loud (refine app_bytes _ w3.heap.size _ [] (num m) A3 c3 rfl (.tmp 27) (.tmp 28) rfl rfl rfl (own_made w3) ((r3.below ((Below.refl _ _).alloc (Nat.le_refl _) _)).more (by simp)) ?e1 ?e2 ?_))
  case e1 => simp; omega
  case e2 => simp
  intro v4 w4 o4 hb4 _
  have b34 : Below w3.heap.size w3 w4 := ((Below.refl w3.heap.size w3).alloc (Nat.le_refl _) _).trans hb4
  have b23 : Below w2.heap.size w2 w4 := hb3.trans (b34.mono hb3.size)
  have b12 : Below w1.heap.size w1 w4 := hb2.trans (b23.mono hb2.size)
  have b02 : Below w.heap.size w w4 := hb1.trans (b12.mono hb1.size)
  obtain ⟨A4, c4, rfl, r4⟩ := o4.rd
  go_wp2_with (at_builtin; go_loud (refine app_bytes _ w3.heap.size _ _ s A c rfl (.tmp 29) (.tmp 30) rfl rfl rfl o4 ((HS.out.below b02).more b02.size) ?f1 ?f2 ?_))
  case f1 => omega
  case f2 => exact b34.size
  intro v5 w5 o5 hb5 _
  obtain ⟨L, hL⟩ : ∃ L, L = num m ++ s := ⟨_, rfl⟩
  rw [← hL] at o5
  have HL := Lib.hid hL
  have hLl : L.length ≤ 9223372036854775807 := by rw [hL]; simp; omega
  clear hL
  obtain ⟨A5, c5, rfl, r5⟩ := o5.rd
  have b35 : Below w3.heap.size w3 w5 := b34.trans hb5
  have ht := taken_any A5 c5 _ _ w5 r5 hLl
  have htn : tn 0 0 L = (m, (num m).length, 0) := by rw [HL.out]; exact tn_num (by have := HM.out; omega) s
  rw [htn] at ht
  clear htn
  have HTN := Lib.hid ht
  clear ht
  go_wp2_with fail
  refine HTN.out.mono ?_
  rintro e w6 ⟨rfl, rfl⟩
  go_wp2_with fail
  refine (spoil_any w2.heap.size _ (num m) w5 (o3.below b35) (Nat.le_trans hb3.size b35.size) (by omega)).mono ?_
  rintro e w6 ⟨⟨x, rfl⟩, hb6⟩
  have b26 : Below w2.heap.size w2 w6 := (hb3.trans (b35.mono hb3.size)).trans hb6
  go_wp2_with fail
  refine (number_any m w6 (Nat.lt_of_le_of_lt HM.out (by decide))).mono ?_
  rintro e w7 ⟨v7, rfl, o7, hb7⟩
  obtain ⟨A7, c7, rfl, r7⟩ := o7.rd
  have b27 : Below w2.heap.size w2 w7 := b26.trans (hb7.mono b26.size)
  have s2' := str_of (r2.below b27) c2
  have s7 := str_of r7 c7
  go_wp2
  go_ret
  exact ⟨by simp, (hb1.trans (hb2.mono hb1.size)).trans (b27.mono (Nat.le_trans hb1.size hb2.size))⟩
end Go.Proofs.YtaojflmbfigplaaDoor
