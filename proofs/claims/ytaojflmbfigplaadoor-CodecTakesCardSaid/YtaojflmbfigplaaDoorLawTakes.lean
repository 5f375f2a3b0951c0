/-
  The walk of the law CodecTakes.
-/
import Derived.Test.YtaojflmbfigplaaDoorLawTorn
import Derived.Test.YtaojflmbfigplaaDoorRefTakeFrame
import Derived.Test.YtaojflmbfigplaaDoorRefTakeKeyText
import Derived.Test.YtaojflmbfigplaaDoorTakeKeyInt
namespace Go.Proofs.YtaojflmbfigplaaDoor
open Go.RowKit

theorem tt_len (l : List UInt8) : (tt l).1.length ≤ l.length := by
  unfold tt
  split
  · simp
  · split
    · simp
    · split
      · simp
      · simp only [List.length_take, List.length_drop]; omega
theorem tf_len (l : List UInt8) : (tf l).2.1.length ≤ l.length := by
  cases l with
  | nil => simp [tf]
  | cons c t =>
    simp only [tf]
    by_cases h1 : (tn 0 0 t).2.2 ≠ 0
    · rw [if_pos h1]; simp
    · rw [if_neg h1]
      by_cases h2 : 2097152 < (tn 0 0 t).1
      · rw [if_pos h2]; simp
      · rw [if_neg h2]
        by_cases h3 : (c :: t).length < 1 + (tn 0 0 t).2.1 + 4 + (tn 0 0 t).1
        · rw [if_pos h3]; simp
        · rw [if_neg h3]
          split
          · simp only [List.length_take, List.length_drop]; omega
          · simp
theorem tkt_len : ∀ (l : List UInt8) (i : Nat) (out : List UInt8), (tkt i out l).1.length ≤ out.length + l.length
  | [], _, _ => by simp [tkt]
  | [_], _, _ => by simp [tkt]
  | c :: d :: t, i, out => by
    simp only [tkt]
    split
    · refine Nat.le_trans (tkt_len (d :: t) _ _) ?_
      simp; omega
    · split
      · refine Nat.le_trans (tkt_len t _ _) ?_
        simp; omega
      · split
        · simp
        · simp

theorem rtakenFrame_any (A : Option Addr) (c : Nat) (l : List UInt8) (w : World) (hr : Rd w w.heap.size A l) (hl : l.length ≤ 225179981367000) (hc : l.length ≤ c) :
    Calls Tryd.prog 23 #[.slice A l.length c] w fun e w' => ∃ v, e = .returned (.tuple #[.int .u8 ((tf l).1.toNat : Int), v, .int .i64 (tf l).2.2.1, .int .i64 (tf l).2.2.2]) ∧ Own w' w.heap.size v (tf l).2.1 ∧ Below w.heap.size w w' := by
  cases l with
  | nil =>
    refine (rtakenFrame_none A c w).mono ?_
    rintro e w' ⟨rfl, rfl⟩
    exact ⟨_, rfl, Own.nil_ _ _, Below.refl _ _⟩
  | cons k0 t => exact rtakenFrame_full A c k0 t w hr hl hc

set_option maxHeartbeats 3200000 in
set_option maxRecDepth 100000 in
theorem law_takes (A : Option Addr) (c : Nat) (l : List UInt8) (w : World) (hs : Rd w w.heap.size A l) (ll : l.length ≤ 140737488351232) (lc : l.length ≤ c)
    (hT : Tab w) (h0 : 0 < w.heap.size) :
    Calls Tryd.prog 4 #[.slice A l.length c] w fun e w' => e = .returned (.bool true) ∧ Below w.heap.size w w' := by
  have HS := Lib.hid hs
  have HTab := Lib.hid hT
  have X1 := fun (A : Option Addr) (c : Nat) (w : World) (hr : Rd w w.heap.size A l) => taken_any A c _ l w hr (by omega)
  have Y1 := fun (A : Option Addr) (c : Nat) (w : World) (hr : Rd w w.heap.size A l) => rtaken_any A l.length c _ l w rfl hr (by omega)
  have X2 := fun (A : Option Addr) (c : Nat) (w : World) (hr : Rd w w.heap.size A l) (hc : l.length ≤ c) => takenText_any A c l w hr (by omega) hc
  have Y2 := fun (A : Option Addr) (c : Nat) (w : World) (hr : Rd w w.heap.size A l) (hc : l.length ≤ c) => rtakenText_any A c l w hr (by omega) hc
  have X3 := fun (A : Option Addr) (c : Nat) (w : World) (hr : Rd w w.heap.size A l) (hc : l.length ≤ c) (hT : Tab w) => takenFrame_any A l.length c l w rfl hr (by omega) hc hT
  have Y3 := fun (A : Option Addr) (c : Nat) (w : World) (hr : Rd w w.heap.size A l) (hc : l.length ≤ c) => rtakenFrame_any A c l w hr (by omega) hc
  have X4 := fun (A : Option Addr) (c : Nat) (w : World) (hr : Rd w w.heap.size A l) (hc : l.length ≤ c) => takenKeyInt_any A c _ l w hr hc
  have Y4 := fun (A : Option Addr) (c : Nat) (w : World) (hr : Rd w w.heap.size A l) => rtakenKeyInt_any A c _ l w hr
  have X5 := fun (A : Option Addr) (c : Nat) (w : World) (hr : Rd w w.heap.size A l) => takenKeyText_any A c l w hr (by omega)
  have Y5 := fun (A : Option Addr) (c : Nat) (w : World) (hr : Rd w w.heap.size A l) => rtakenKeyText_any A c l w hr (by omega)
  have lt1 := tt_len l
  have lf1 := tf_len l
  have ls1 := tkt_len l 0 []
  generalize tn 0 0 l = N at X1 Y1
  generalize tt l = T at X2 Y2 lt1
  generalize tf l = F at X3 Y3 lf1
  generalize tki l = I at X4 Y4
  generalize tkt 0 [] l = S at X5 Y5 ls1
  obtain ⟨N1, N2, N3⟩ := N
  obtain ⟨T1, T2, T3⟩ := T
  obtain ⟨F1, F2, F3, F4⟩ := F
  obtain ⟨I1, I2, I3⟩ := I
  obtain ⟨S1, S2, S3⟩ := S
  simp only [List.length_nil, Nat.zero_add] at lt1 lf1 ls1 X1 Y1 X2 Y2 X3 Y3 X4 Y4 X5 Y5
  have X1 := Lib.hid X1
  have Y1 := Lib.hid Y1
  have X2 := Lib.hid X2
  have Y2 := Lib.hid Y2
  have X3 := Lib.hid X3
  have Y3 := Lib.hid Y3
  have X4 := Lib.hid X4
  have Y4 := Lib.hid Y4
  have X5 := Lib.hid X5
  have Y5 := Lib.hid Y5
  clear hs hT
  go_enter Tryd.func4, Tryd.ntmps4
  go_wp2_with fail
  refine (shown_any w HTab.out h0).mono ?_
  rintro e w1 ⟨rfl, hb1⟩
  have r1 := (HS.out.below hb1).more hb1.size
  go_wp2_with fail
  refine (lent_any A c l w1 r1 (by omega)).mono ?_
  rintro e w2 ⟨rfl, o2, hb2⟩
  obtain ⟨A2, c2, h2, r2, q2⟩ := o2.rdc
  injection h2 with h2 h4 h3
  clear h4
  subst h2 h3
  have r12 := (r1.below hb2).more hb2.size
  have ro := rd_pre r2
  have b02 : Below w.heap.size w w2 := hb1.trans (hb2.mono hb1.size)
  go_wp2_with fail
  refine (X1.out (some ⟨w1.heap.size, 0, none⟩) _ w2 ro).mono ?_
  rintro e w3 ⟨rfl, rfl⟩
  go_wp2_with fail
  refine (Y1.out A c w2 r12).mono ?_
  rintro e w3 ⟨rfl, rfl⟩
  go_wp2_with fail
  refine (X2.out (some ⟨w1.heap.size, 0, none⟩) _ w2 ro (by omega)).mono ?_
  rintro e w3 ⟨v3, rfl, o3, hb3⟩
  obtain ⟨A3, c3, rfl, r3, _⟩ := o3.rdc
  go_wp2_with fail
  refine (Y2.out A c w3 ((r12.below hb3).more hb3.size) lc).mono ?_
  rintro e w4 ⟨v4, rfl, o4, hb4⟩
  obtain ⟨A4, c4, rfl, r4, _⟩ := o4.rdc
  have b24 : Below w2.heap.size w2 w4 := hb3.trans (hb4.mono hb3.size)
  go_wp2_with fail
  refine (X3.out (some ⟨w1.heap.size, 0, none⟩) _ w4 ((ro.below b24).more b24.size) (by omega) (HTab.out.below (b02.trans (b24.mono b02.size)) h0)).mono ?_
  rintro e w5 ⟨v5, rfl, o5, hb5⟩
  obtain ⟨A5, c5, rfl, r5, _⟩ := o5.rdc
  have b25 : Below w2.heap.size w2 w5 := b24.trans (hb5.mono b24.size)
  go_wp2_with fail
  refine (Y3.out A c w5 ((r12.below b25).more b25.size) lc).mono ?_
  rintro e w6 ⟨v6, rfl, o6, hb6⟩
  obtain ⟨A6, c6, rfl, r6, _⟩ := o6.rdc
  have b26 : Below w2.heap.size w2 w6 := b25.trans (hb6.mono b25.size)
  go_wp2_with fail
  refine (X4.out (some ⟨w1.heap.size, 0, none⟩) _ w6 ((ro.below b26).more b26.size) (by omega)).mono ?_
  rintro e w7 ⟨rfl, rfl⟩
  go_wp2_with fail
  refine (Y4.out A c w6 ((r12.below b26).more b26.size)).mono ?_
  rintro e w7 ⟨rfl, rfl⟩
  go_wp2_with fail
  refine (X5.out (some ⟨w1.heap.size, 0, none⟩) _ w6 ((ro.below b26).more b26.size)).mono ?_
  rintro e w7 ⟨v7, rfl, o7, hb7⟩
  obtain ⟨A7, c7, rfl, r7, _⟩ := o7.rdc
  have b27 : Below w2.heap.size w2 w7 := b26.trans (hb7.mono b26.size)
  go_wp2_with fail
  refine (Y5.out A c w7 ((r12.below b27).more b27.size)).mono ?_
  rintro e w8 ⟨v8, rfl, o8, hb8⟩
  obtain ⟨A8, c8, rfl, r8, _⟩ := o8.rdc
  have b78 : Below w7.heap.size w7 w8 := hb8
  have b68 : Below w6.heap.size w6 w8 := hb7.trans (b78.mono hb7.size)
  have b58 : Below w5.heap.size w5 w8 := hb6.trans (b68.mono hb6.size)
  have b48 : Below w4.heap.size w4 w8 := hb5.trans (b58.mono hb5.size)
  have b38 : Below w3.heap.size w3 w8 := hb4.trans (b48.mono hb4.size)
  have b28 : Below w2.heap.size w2 w8 := hb3.trans (b38.mono hb3.size)
  have s3 := fun nq => str_of ((r3.below b38).drewN nq) c3
  have s4 := fun nq => str_of ((r4.below b48).drewN nq) c4
  have s5 := fun nq => str_of ((r5.below b58).drewN nq) c5
  have s6 := fun nq => str_of ((r6.below b68).drewN nq) c6
  have s7 := fun nq => str_of ((r7.below b78).drewN nq) c7
  have s8 := fun nq => str_of (r8.drewN nq) c8
  have t3 := str_of (r3.below b38) c3
  have t4 := str_of (r4.below b48) c4
  have t5 := str_of (r5.below b58) c5
  have t6 := str_of (r6.below b68) c6
  have t7 := str_of (r7.below b78) c7
  have t8 := str_of r8 c8
  go_wp2_with fail
  have g3 := World.ownsRow.lt o3
  have g5 := World.ownsRow.lt o5
  refine (spoil_any w2.heap.size _ T1 w8 (o3.below b38) b28.size (by omega)).mono ?_
  rintro e w9 ⟨⟨x1, rfl⟩, hb9, hg9⟩
  have b29 : Below w2.heap.size w2 w9 := b28.trans hb9
  have o5' := (o5.below b58).grown hg9 (fun g hg => by have := (g3 g hg).2; have := hb4.size; omega)
  have o7' := (o7.below b78).grown hg9 (fun g hg => by have := (g3 g hg).2; have := hb4.size; have := hb5.size; have := hb6.size; omega)
  have z49 : w4.heap.size ≤ w9.heap.size := by have := hb9.size; have := hg9.size; have := b48.size; omega
  have z69 : w6.heap.size ≤ w9.heap.size := by have := hb9.size; have := hg9.size; have := b68.size; omega
  go_wp2_with fail
  refine (spoil_any w4.heap.size _ F2 w9 o5' z49 (by omega)).mono ?_
  rintro e w10 ⟨⟨x2, rfl⟩, hb10, hg10⟩
  have b210 : Below w2.heap.size w2 w10 := b29.trans (hb10.mono b24.size)
  have o7'' := o7'.grown hg10 (fun g hg => by have := (g5 g hg).2; have := hb6.size; omega)
  have z610 : w6.heap.size ≤ w10.heap.size := Nat.le_trans z69 hg10.size
  go_wp2_with fail
  refine (spoil_any w6.heap.size _ S1 w10 o7'' z610 (by omega)).mono ?_
  rintro e w11 ⟨⟨x3, rfl⟩, hb11, hg11⟩
  have b211 : Below w2.heap.size w2 w11 := b210.trans (hb11.mono b26.size)
  go_wp2_with fail
  refine (stays_any w1.heap.size _ c w2.heap.size w2.heap.size A l w11 (r2.below b211) (r12.below b211) (by simp at q2; omega) (by omega)).mono ?_
  rintro e w12 ⟨rfl, nd, rfl⟩
  go_wp2
  go_ret
  exact ⟨by simp, below_drewN (b02.trans (b211.mono b02.size)) nd⟩
end Go.Proofs.YtaojflmbfigplaaDoor
