/-
  The walk of the law CodecOrder (for texts within the second form's bound).
-/
import Derived.Test.YtaojflmbfigplaaDoorOrder
import Derived.Test.YtaojflmbfigplaaDoorCompare
import Derived.Test.YtaojflmbfigplaaDoorRefCompare
import Derived.Test.YtaojflmbfigplaaDoorTwo
namespace Go.Proofs.YtaojflmbfigplaaDoor
open Go.RowKit
set_option linter.unusedVariables false

theorem kept {v w : World} {k i : Nat} {x : Value} (hb : Below v.heap.size v w) (h : v.cell? ⟨k, i, none⟩ = some x) : w.cell? ⟨k, i, none⟩ = some x :=
  (hb.cell (World.block_lt_of_cell? v _ h)).trans h
theorem below3 (w : World) (o o' o'' : Obj) : Below w.heap.size w (((w.alloc o).alloc o').alloc o'') := (((Below.refl w.heap.size w).alloc (Nat.le_refl _) o).alloc (by simp) o').alloc (by simp; omega) o''
theorem after_three {w w1 : World} {a b c d e f : Value} {t t' : TypeId} (h : Below (((w.alloc (.cells #[a, b] t)).alloc (.cells #[c, d] t')).alloc (.cells #[e, f] t')).heap.size (((w.alloc (.cells #[a, b] t)).alloc (.cells #[c, d] t')).alloc (.cells #[e, f] t')) w1) :
    w1.cell? ⟨w.heap.size, 0, none⟩ = some a ∧ w1.cell? ⟨w.heap.size, 1, none⟩ = some b ∧ w1.cell? ⟨w.heap.size + 1, 0, none⟩ = some c ∧ w1.cell? ⟨w.heap.size + 1, 1, none⟩ = some d ∧
    w1.cell? ⟨w.heap.size + 1 + 1, 0, none⟩ = some e ∧ w1.cell? ⟨w.heap.size + 1 + 1, 1, none⟩ = some f ∧ Below w.heap.size w w1 := by
  have s1 : (w.alloc (.cells #[a, b] t)).heap.size = w.heap.size + 1 := by simp
  have s2 : ((w.alloc (.cells #[a, b] t)).alloc (.cells #[c, d] t')).heap.size = w.heap.size + 1 + 1 := by simp
  have s3 : (((w.alloc (.cells #[a, b] t)).alloc (.cells #[c, d] t')).alloc (.cells #[e, f] t')).heap.size = w.heap.size + 1 + 1 + 1 := by simp
  refine ⟨?_, ?_, ?_, ?_, ?_, ?_, (below3 w _ _ _).trans (h.mono (by omega))⟩
  · rw [h.cell (by rw [s3]; show w.heap.size < _; omega), World.cell?_alloc_lt _ _ _ (by rw [s2]; show w.heap.size < _; omega), World.cell?_alloc_lt _ _ _ (by rw [s1]; show w.heap.size < _; omega), World.cell?_alloc_at _ _ _ _ rfl]; rfl
  · rw [h.cell (by rw [s3]; show w.heap.size < _; omega), World.cell?_alloc_lt _ _ _ (by rw [s2]; show w.heap.size < _; omega), World.cell?_alloc_lt _ _ _ (by rw [s1]; show w.heap.size < _; omega), World.cell?_alloc_at _ _ _ _ rfl]; rfl
  · rw [h.cell (by rw [s3]; show w.heap.size + 1 < _; omega), World.cell?_alloc_lt _ _ _ (by rw [s2]; show w.heap.size + 1 < _; omega), World.cell?_alloc_at _ _ _ _ s1.symm]; rfl
  · rw [h.cell (by rw [s3]; show w.heap.size + 1 < _; omega), World.cell?_alloc_lt _ _ _ (by rw [s2]; show w.heap.size + 1 < _; omega), World.cell?_alloc_at _ _ _ _ s1.symm]; rfl
  · rw [h.cell (by rw [s3]; show w.heap.size + 1 + 1 < _; omega), World.cell?_alloc_at _ _ _ _ s2.symm]; rfl
  · rw [h.cell (by rw [s3]; show w.heap.size + 1 + 1 < _; omega), World.cell?_alloc_at _ _ _ _ s2.symm]; rfl

set_option maxHeartbeats 1600000 in
set_option maxRecDepth 100000 in
theorem order_lt_n (x y : Int) (A B C D : Option Addr) (ca cb cc cd : Nat) (s t r q X Y P U : List UInt8) (w : World) (bx : -9223372036854775808 ≤ x ∧ x ≤ 9223372036854775807) (bY : -9223372036854775808 ≤ y ∧ y ≤ 9223372036854775807)
    (hs : Rd w w.heap.size A s) (ht : Rd w w.heap.size B t) (hr : Rd w w.heap.size C r) (hq : Rd w w.heap.size D q)
    (ls : s.length ≤ 1048576) (lt : t.length ≤ 1048576) (lr : r.length ≤ 1048576) (lq : q.length ≤ 1048576) (hT : Tab w) (h0 : 0 < w.heap.size)
    (hX : key8 (off63 x) = X) (hY : key8 (off63 y) = Y) (hP : kt s = P) (hU : kt t = U) (hX8 : X.length = 8) (hY8 : Y.length = 8) (hks : P.length ≤ 2097154) (hkt : U.length ≤ 2097154)
    (hxy : x < y) (hKx : cmp X Y = (-1 : Int)) (hd : cmp s t ≠ 0) (hTx : cmp P U = cmp s t)
    (hKa : x ≠ y → cmp (X ++ r) (Y ++ q) = cmp X Y) (hTa : cmp s t ≠ 0 → cmp (P ++ r) (U ++ q) = cmp s t) :
    Calls Tryd.prog 10 #[.agg #[.int .i64 x, .int .i64 y], .agg #[.slice A s.length ca, .slice B t.length cb], .agg #[.slice C r.length cc, .slice D q.length cd]] w fun e w' => e = .returned (.bool true) ∧ Below w.heap.size w w' := by
  have HS := Lib.hid hs
  have HT := Lib.hid ht
  have HR := Lib.hid hr
  have HQ := Lib.hid hq
  have HTab := Lib.hid hT
  have HX := Lib.hid hX
  have HY := Lib.hid hY
  have HP := Lib.hid hP
  have HU := Lib.hid hU
  have HKX := Lib.hid hKx
  have HKA := Lib.hid ((hKa (by omega)).trans hKx)
  have HTX := Lib.hid hTx
  have HTA := Lib.hid (hTa hd)
  have HX8 := Lib.hid hX8
  have HY8 := Lib.hid hY8
  have hD := cmp_rng s t
  obtain ⟨d, hdd⟩ : ∃ d, d = cmp s t := ⟨_, rfl⟩
  rw [← hdd] at hd hD
  have HD := Lib.hid hdd
  clear hs ht hr hq hT hX hY hP hU hKx hKa hTx hTa hX8 hY8 hdd
  go_enter Tryd.func10, Tryd.ntmps10
  go_wp2_with fail
  refine (shown_any _ (HTab.out.below (below3 w _ _ _) h0) (Nat.lt_of_lt_of_le h0 (below3 w _ _ _).size)).mono ?_
  rintro e w1 ⟨rfl, hb1⟩
  obtain ⟨z0, z1, z2, z3, z4, z5, hb⟩ := after_three hb1
  clear hb1
  go_wp2_with fail
  refine (keyInt_any x _ bx.1 (by omega)).mono ?_
  rintro e w2 ⟨v2, rfl, o2, hb2⟩
  rw [HX.out] at o2
  obtain ⟨A2, c2, rfl, r2, _⟩ := o2.rdc
  go_wp2_with fail
  refine (keyInt_any y _ bY.1 (by omega)).mono ?_
  rintro e w3 ⟨v3, rfl, o3, hb3⟩
  rw [HY.out] at o3
  obtain ⟨A3, c3, rfl, r3, _⟩ := o3.rdc
  go_wp2_with fail
  refine (compare_any A2 A3 c2 c3 _ _ X Y w3 (r2.below hb3) r3 (by have := HX8.out; omega) (by have := HY8.out; omega)).mono ?_
  rintro e w4 ⟨rfl, hb4⟩
  rw [HKX.out]
  have b14 : Below w1.heap.size w1 w4 := (hb2.trans (hb3.mono hb2.size)).trans (hb4.mono (Nat.le_trans hb2.size hb3.size))
  have b04 : Below w.heap.size w w4 := hb.trans (b14.mono hb.size)
  go_wp2_with fail
  refine (keyText_any A ca s w4 ((HS.out.below b04).more b04.size) (by omega)).mono ?_
  rintro e w5 ⟨v5, rfl, o5, hb5⟩
  rw [HP.out] at o5
  obtain ⟨A5, c5, rfl, r5, _⟩ := o5.rdc
  have b05 : Below w.heap.size w w5 := b04.trans (hb5.mono b04.size)
  go_wp2_with fail
  refine (keyText_any B cb t w5 ((HT.out.below b05).more b05.size) (by omega)).mono ?_
  rintro e w6 ⟨v6, rfl, o6, hb6⟩
  rw [HU.out] at o6
  obtain ⟨A6, c6, rfl, r6, _⟩ := o6.rdc
  have b06 : Below w.heap.size w w6 := b05.trans (hb6.mono b05.size)
  go_wp2_with fail
  refine (compare_any A5 A6 c5 c6 _ _ P U w6 (r5.below hb6) r6 (by omega) (by omega)).mono ?_
  rintro e w7 ⟨rfl, hb7⟩
  rw [HTX.out, ← HD.out]
  have b07 : Below w.heap.size w w7 := b06.trans (hb7.mono b06.size)
  go_wp2_with fail
  refine (rcompare_any A B ca cb _ _ s t w7 (HS.out.below b07) (HT.out.below b07) (by omega) (by omega)).mono ?_
  rintro e w8 ⟨rfl, hb8⟩
  rw [← HD.out]
  have b08 : Below w.heap.size w w8 := b07.trans (hb8.mono b07.size)
  have b48 : Below w4.heap.size w4 w8 := ((hb5.trans (hb6.mono hb5.size)).trans (hb7.mono (Nat.le_trans hb5.size hb6.size))).trans (hb8.mono (Nat.le_trans (Nat.le_trans hb5.size hb6.size) hb7.size))
  have b18 : Below w1.heap.size w1 w8 := b14.trans (b48.mono b14.size)
  have b38 : Below w3.heap.size w3 w8 := hb4.trans (b48.mono hb4.size)
  have b28 : Below w2.heap.size w2 w8 := hb3.trans (b38.mono hb3.size)
  have b68 : Below w6.heap.size w6 w8 := hb7.trans (hb8.mono hb7.size)
  have b58 : Below w5.heap.size w5 w8 := hb6.trans (b68.mono hb6.size)
  have p2 := o2.below b28
  have p3 := o3.below b38
  have p5 := o5.below b58
  have p6 := o6.below b68
  have y4 := kept b18 z4
  have y5 := kept b18 z5
  have F0 : Four w1 w8 _ _ _ _ _ _ _ _ := ⟨p2, p3.mono hb2.size, p5.mono b14.size, p6.mono (Nat.le_trans b14.size hb5.size), apart_of o2 o3 (Nat.le_refl _), apart_of o2 o5 (Nat.le_trans hb3.size hb4.size), apart_of o2 o6 (Nat.le_trans (Nat.le_trans hb3.size hb4.size) hb5.size), apart_of o3 o5 hb4.size, apart_of o3 o6 (Nat.le_trans hb4.size hb5.size), apart_of o5 o6 (Nat.le_refl _), b18⟩
  have Rr := Lib.hid ((HR.out.below hb).more hb.size)
  have Rq := Lib.hid ((HQ.out.below hb).more hb.size)
  have m1 : X.length + r.length ≤ 4000000 := by have := HX8.out; omega
  have m2 : Y.length + q.length ≤ 4000000 := by have := HY8.out; omega
  have m3 : P.length + r.length ≤ 4000000 := by omega
  have m4 : U.length + q.length ≤ 4000000 := by omega
  have n1 : (X ++ r).length ≤ 4000000 := by rw [List.length_append]; exact m1
  have n2 : (Y ++ q).length ≤ 4000000 := by rw [List.length_append]; exact m2
  have n3 : (P ++ r).length ≤ 4000000 := by rw [List.length_append]; exact m3
  have n4 : (U ++ q).length ≤ 4000000 := by rw [List.length_append]; exact m4
  clear z0 z1 z2 z3 r2 r3 r5 r6 o2 o3 o5 o6 p2 p3 p5 p6
  go_wp2_with fail
  go_region_held3 (fun w' => w'.cell? ⟨w.heap.size + 1 + 1, 0, none⟩ = some (.slice C r.length cc) ∧ w'.cell? ⟨w.heap.size + 1 + 1, 1, none⟩ = some (.slice D q.length cd)) (first | exact ⟨kept F2.bel z4, kept F2.bel z5⟩ | exact ⟨kept F1.bel z4, kept F1.bel z5⟩ | exact ⟨kept F0.bel z4, kept F0.bel z5⟩ | go_keep)
    (first
      | (refine step_app_1 w1 (.slice A2 X.length c2) (.slice A3 Y.length c3) (.slice A5 P.length c5) (.slice A6 U.length c6) X Y P U r C cc ?hgdka (.tmp 67) (.tmp 69) ?hoka ?hska ?hxka ?hTka ?hrka ?hlenka ?hhka; (case hgdka => rfl); (case hoka => rfl); (case hska => rfl); (case hxka => rfl); (case hTka => first | exact F0.drew | exact F0 | exact F0.drew.drew); (case hrka => exact Rr.out); (case hlenka => exact m1); intro vX w9 F1)
      | (refine step_app_2 w1 vX (.slice A3 Y.length c3) (.slice A5 P.length c5) (.slice A6 U.length c6) (X ++ r) Y P U q D cd ?hgdkb (.tmp 71) (.tmp 73) ?hokb ?hskb ?hxkb ?hTkb ?hrkb ?hlenkb ?hhkb; (case hgdkb => rfl); (case hokb => rfl); (case hskb => rfl); (case hxkb => rfl); (case hTkb => first | exact F1.drew | exact F1 | exact F1.drew.drew); (case hrkb => exact Rq.out); (case hlenkb => exact m2); intro vY w9 F1)
      | (go_at_call 39; refine (compare_own (by exact F1.o1) (by exact F1.o2) n1 n2).mono ?_; rw [HKA.out]; rintro e w10 ⟨rfl, hb10⟩; have F2 := F1.below (show Below w9.heap.size w9 w10 from ⟨hb10.os, hb10.tape, hb10.output, hb10.size, hb10.block⟩)))
  go_wp2_with fail
  go_region_held3 (fun w' => w'.cell? ⟨w.heap.size + 1 + 1, 0, none⟩ = some (.slice C r.length cc) ∧ w'.cell? ⟨w.heap.size + 1 + 1, 1, none⟩ = some (.slice D q.length cd)) (first | exact ⟨kept F4.bel z4, kept F4.bel z5⟩ | exact ⟨kept F3.bel z4, kept F3.bel z5⟩ | exact ⟨kept F2.bel z4, kept F2.bel z5⟩ | go_keep)
    (first
      | (refine step_app_3 w1 vX vY (.slice A5 P.length c5) (.slice A6 U.length c6) (X ++ r) (Y ++ q) P U r C cc ?hgdja (.tmp 81) (.tmp 83) ?hoja ?hsja ?hxja ?hTja ?hrja ?hlenja ?hhja; (case hgdja => rfl); (case hoja => rfl); (case hsja => rfl); (case hxja => rfl); (case hTja => first | exact F2.drew | exact F2 | exact F2.drew.drew); (case hrja => exact Rr.out); (case hlenja => exact m3); intro vP w11 F3)
      | (refine step_app_4 w1 vX vY vP (.slice A6 U.length c6) (X ++ r) (Y ++ q) (P ++ r) U q D cd ?hgdjb (.tmp 85) (.tmp 87) ?hojb ?hsjb ?hxjb ?hTjb ?hrjb ?hlenjb ?hhjb; (case hgdjb => rfl); (case hojb => rfl); (case hsjb => rfl); (case hxjb => rfl); (case hTjb => first | exact F3.drew | exact F3 | exact F3.drew.drew); (case hrjb => exact Rq.out); (case hlenjb => exact m4); intro vU w11 F3)
      | (go_at_call 39; refine (compare_own (by exact F3.o3) (by exact F3.o4) n3 n4).mono ?_; rw [HTA.out, ← HD.out]; rintro e w12 ⟨rfl, hb12⟩; have F4 := F3.below (show Below w11.heap.size w11 w12 from ⟨hb12.os, hb12.tape, hb12.output, hb12.size, hb12.block⟩)))
  go_wp2
  go_ret
  exact ⟨by first | rfl | simp, hb.trans (F4.bel.mono hb.size)⟩

set_option maxHeartbeats 1600000 in
set_option maxRecDepth 100000 in
theorem order_lt_z (x y : Int) (A B C D : Option Addr) (ca cb cc cd : Nat) (s t r q X Y P U : List UInt8) (w : World) (bx : -9223372036854775808 ≤ x ∧ x ≤ 9223372036854775807) (bY : -9223372036854775808 ≤ y ∧ y ≤ 9223372036854775807)
    (hs : Rd w w.heap.size A s) (ht : Rd w w.heap.size B t) (hr : Rd w w.heap.size C r) (hq : Rd w w.heap.size D q)
    (ls : s.length ≤ 1048576) (lt : t.length ≤ 1048576) (lr : r.length ≤ 1048576) (lq : q.length ≤ 1048576) (hT : Tab w) (h0 : 0 < w.heap.size)
    (hX : key8 (off63 x) = X) (hY : key8 (off63 y) = Y) (hP : kt s = P) (hU : kt t = U) (hX8 : X.length = 8) (hY8 : Y.length = 8) (hks : P.length ≤ 2097154) (hkt : U.length ≤ 2097154)
    (hxy : x < y) (hKx : cmp X Y = (-1 : Int)) (hd : cmp s t = 0) (hTx : cmp P U = cmp s t)
    (hKa : x ≠ y → cmp (X ++ r) (Y ++ q) = cmp X Y) (hTa : cmp s t ≠ 0 → cmp (P ++ r) (U ++ q) = cmp s t) :
    Calls Tryd.prog 10 #[.agg #[.int .i64 x, .int .i64 y], .agg #[.slice A s.length ca, .slice B t.length cb], .agg #[.slice C r.length cc, .slice D q.length cd]] w fun e w' => e = .returned (.bool true) ∧ Below w.heap.size w w' := by
  have HS := Lib.hid hs
  have HT := Lib.hid ht
  have HR := Lib.hid hr
  have HQ := Lib.hid hq
  have HTab := Lib.hid hT
  have HX := Lib.hid hX
  have HY := Lib.hid hY
  have HP := Lib.hid hP
  have HU := Lib.hid hU
  have HKX := Lib.hid hKx
  have HKA := Lib.hid ((hKa (by omega)).trans hKx)
  have HTX := Lib.hid hTx
  have HX8 := Lib.hid hX8
  have HY8 := Lib.hid hY8
  have hD := cmp_rng s t
  obtain ⟨d, hdd⟩ : ∃ d, d = cmp s t := ⟨_, rfl⟩
  rw [← hdd] at hd hD
  have HD := Lib.hid hdd
  clear hs ht hr hq hT hX hY hP hU hKx hKa hTx hTa hX8 hY8 hdd
  go_enter Tryd.func10, Tryd.ntmps10
  go_wp2_with fail
  refine (shown_any _ (HTab.out.below (below3 w _ _ _) h0) (Nat.lt_of_lt_of_le h0 (below3 w _ _ _).size)).mono ?_
  rintro e w1 ⟨rfl, hb1⟩
  obtain ⟨z0, z1, z2, z3, z4, z5, hb⟩ := after_three hb1
  clear hb1
  go_wp2_with fail
  refine (keyInt_any x _ bx.1 (by omega)).mono ?_
  rintro e w2 ⟨v2, rfl, o2, hb2⟩
  rw [HX.out] at o2
  obtain ⟨A2, c2, rfl, r2, _⟩ := o2.rdc
  go_wp2_with fail
  refine (keyInt_any y _ bY.1 (by omega)).mono ?_
  rintro e w3 ⟨v3, rfl, o3, hb3⟩
  rw [HY.out] at o3
  obtain ⟨A3, c3, rfl, r3, _⟩ := o3.rdc
  go_wp2_with fail
  refine (compare_any A2 A3 c2 c3 _ _ X Y w3 (r2.below hb3) r3 (by have := HX8.out; omega) (by have := HY8.out; omega)).mono ?_
  rintro e w4 ⟨rfl, hb4⟩
  rw [HKX.out]
  have b14 : Below w1.heap.size w1 w4 := (hb2.trans (hb3.mono hb2.size)).trans (hb4.mono (Nat.le_trans hb2.size hb3.size))
  have b04 : Below w.heap.size w w4 := hb.trans (b14.mono hb.size)
  go_wp2_with fail
  refine (keyText_any A ca s w4 ((HS.out.below b04).more b04.size) (by omega)).mono ?_
  rintro e w5 ⟨v5, rfl, o5, hb5⟩
  rw [HP.out] at o5
  obtain ⟨A5, c5, rfl, r5, _⟩ := o5.rdc
  have b05 : Below w.heap.size w w5 := b04.trans (hb5.mono b04.size)
  go_wp2_with fail
  refine (keyText_any B cb t w5 ((HT.out.below b05).more b05.size) (by omega)).mono ?_
  rintro e w6 ⟨v6, rfl, o6, hb6⟩
  rw [HU.out] at o6
  obtain ⟨A6, c6, rfl, r6, _⟩ := o6.rdc
  have b06 : Below w.heap.size w w6 := b05.trans (hb6.mono b05.size)
  go_wp2_with fail
  refine (compare_any A5 A6 c5 c6 _ _ P U w6 (r5.below hb6) r6 (by omega) (by omega)).mono ?_
  rintro e w7 ⟨rfl, hb7⟩
  rw [HTX.out, ← HD.out]
  have b07 : Below w.heap.size w w7 := b06.trans (hb7.mono b06.size)
  go_wp2_with fail
  refine (rcompare_any A B ca cb _ _ s t w7 (HS.out.below b07) (HT.out.below b07) (by omega) (by omega)).mono ?_
  rintro e w8 ⟨rfl, hb8⟩
  rw [← HD.out]
  have b08 : Below w.heap.size w w8 := b07.trans (hb8.mono b07.size)
  have b48 : Below w4.heap.size w4 w8 := ((hb5.trans (hb6.mono hb5.size)).trans (hb7.mono (Nat.le_trans hb5.size hb6.size))).trans (hb8.mono (Nat.le_trans (Nat.le_trans hb5.size hb6.size) hb7.size))
  have b18 : Below w1.heap.size w1 w8 := b14.trans (b48.mono b14.size)
  have b38 : Below w3.heap.size w3 w8 := hb4.trans (b48.mono hb4.size)
  have b28 : Below w2.heap.size w2 w8 := hb3.trans (b38.mono hb3.size)
  have b68 : Below w6.heap.size w6 w8 := hb7.trans (hb8.mono hb7.size)
  have b58 : Below w5.heap.size w5 w8 := hb6.trans (b68.mono hb6.size)
  have p2 := o2.below b28
  have p3 := o3.below b38
  have p5 := o5.below b58
  have p6 := o6.below b68
  have y4 := kept b18 z4
  have y5 := kept b18 z5
  have F0 : Four w1 w8 _ _ _ _ _ _ _ _ := ⟨p2, p3.mono hb2.size, p5.mono b14.size, p6.mono (Nat.le_trans b14.size hb5.size), apart_of o2 o3 (Nat.le_refl _), apart_of o2 o5 (Nat.le_trans hb3.size hb4.size), apart_of o2 o6 (Nat.le_trans (Nat.le_trans hb3.size hb4.size) hb5.size), apart_of o3 o5 hb4.size, apart_of o3 o6 (Nat.le_trans hb4.size hb5.size), apart_of o5 o6 (Nat.le_refl _), b18⟩
  have Rr := Lib.hid ((HR.out.below hb).more hb.size)
  have Rq := Lib.hid ((HQ.out.below hb).more hb.size)
  have m1 : X.length + r.length ≤ 4000000 := by have := HX8.out; omega
  have m2 : Y.length + q.length ≤ 4000000 := by have := HY8.out; omega
  have m3 : P.length + r.length ≤ 4000000 := by omega
  have m4 : U.length + q.length ≤ 4000000 := by omega
  have n1 : (X ++ r).length ≤ 4000000 := by rw [List.length_append]; exact m1
  have n2 : (Y ++ q).length ≤ 4000000 := by rw [List.length_append]; exact m2
  have n3 : (P ++ r).length ≤ 4000000 := by rw [List.length_append]; exact m3
  have n4 : (U ++ q).length ≤ 4000000 := by rw [List.length_append]; exact m4
  clear z0 z1 z2 z3 r2 r3 r5 r6 o2 o3 o5 o6 p2 p3 p5 p6
  go_wp2_with fail
  go_region_held3 (fun w' => w'.cell? ⟨w.heap.size + 1 + 1, 0, none⟩ = some (.slice C r.length cc) ∧ w'.cell? ⟨w.heap.size + 1 + 1, 1, none⟩ = some (.slice D q.length cd)) (first | exact ⟨kept F2.bel z4, kept F2.bel z5⟩ | exact ⟨kept F1.bel z4, kept F1.bel z5⟩ | exact ⟨kept F0.bel z4, kept F0.bel z5⟩ | go_keep)
    (first
      | (refine step_app_1 w1 (.slice A2 X.length c2) (.slice A3 Y.length c3) (.slice A5 P.length c5) (.slice A6 U.length c6) X Y P U r C cc ?hgdka (.tmp 67) (.tmp 69) ?hoka ?hska ?hxka ?hTka ?hrka ?hlenka ?hhka; (case hgdka => rfl); (case hoka => rfl); (case hska => rfl); (case hxka => rfl); (case hTka => first | exact F0.drew | exact F0 | exact F0.drew.drew); (case hrka => exact Rr.out); (case hlenka => exact m1); intro vX w9 F1)
      | (refine step_app_2 w1 vX (.slice A3 Y.length c3) (.slice A5 P.length c5) (.slice A6 U.length c6) (X ++ r) Y P U q D cd ?hgdkb (.tmp 71) (.tmp 73) ?hokb ?hskb ?hxkb ?hTkb ?hrkb ?hlenkb ?hhkb; (case hgdkb => rfl); (case hokb => rfl); (case hskb => rfl); (case hxkb => rfl); (case hTkb => first | exact F1.drew | exact F1 | exact F1.drew.drew); (case hrkb => exact Rq.out); (case hlenkb => exact m2); intro vY w9 F1)
      | (go_at_call 39; refine (compare_own (by exact F1.o1) (by exact F1.o2) n1 n2).mono ?_; rw [HKA.out]; rintro e w10 ⟨rfl, hb10⟩; have F2 := F1.below (show Below w9.heap.size w9 w10 from ⟨hb10.os, hb10.tape, hb10.output, hb10.size, hb10.block⟩)))
  go_wp2
  go_ret
  exact ⟨by first | rfl | simp, hb.trans (F2.bel.mono hb.size)⟩

set_option maxHeartbeats 1600000 in
set_option maxRecDepth 100000 in
theorem order_gt_n (x y : Int) (A B C D : Option Addr) (ca cb cc cd : Nat) (s t r q X Y P U : List UInt8) (w : World) (bx : -9223372036854775808 ≤ x ∧ x ≤ 9223372036854775807) (bY : -9223372036854775808 ≤ y ∧ y ≤ 9223372036854775807)
    (hs : Rd w w.heap.size A s) (ht : Rd w w.heap.size B t) (hr : Rd w w.heap.size C r) (hq : Rd w w.heap.size D q)
    (ls : s.length ≤ 1048576) (lt : t.length ≤ 1048576) (lr : r.length ≤ 1048576) (lq : q.length ≤ 1048576) (hT : Tab w) (h0 : 0 < w.heap.size)
    (hX : key8 (off63 x) = X) (hY : key8 (off63 y) = Y) (hP : kt s = P) (hU : kt t = U) (hX8 : X.length = 8) (hY8 : Y.length = 8) (hks : P.length ≤ 2097154) (hkt : U.length ≤ 2097154)
    (hxy : y < x) (hKx : cmp X Y = (1 : Int)) (hd : cmp s t ≠ 0) (hTx : cmp P U = cmp s t)
    (hKa : x ≠ y → cmp (X ++ r) (Y ++ q) = cmp X Y) (hTa : cmp s t ≠ 0 → cmp (P ++ r) (U ++ q) = cmp s t) :
    Calls Tryd.prog 10 #[.agg #[.int .i64 x, .int .i64 y], .agg #[.slice A s.length ca, .slice B t.length cb], .agg #[.slice C r.length cc, .slice D q.length cd]] w fun e w' => e = .returned (.bool true) ∧ Below w.heap.size w w' := by
  have HS := Lib.hid hs
  have HT := Lib.hid ht
  have HR := Lib.hid hr
  have HQ := Lib.hid hq
  have HTab := Lib.hid hT
  have HX := Lib.hid hX
  have HY := Lib.hid hY
  have HP := Lib.hid hP
  have HU := Lib.hid hU
  have HKX := Lib.hid hKx
  have HKA := Lib.hid ((hKa (by omega)).trans hKx)
  have HTX := Lib.hid hTx
  have HTA := Lib.hid (hTa hd)
  have HX8 := Lib.hid hX8
  have HY8 := Lib.hid hY8
  have hD := cmp_rng s t
  obtain ⟨d, hdd⟩ : ∃ d, d = cmp s t := ⟨_, rfl⟩
  rw [← hdd] at hd hD
  have HD := Lib.hid hdd
  clear hs ht hr hq hT hX hY hP hU hKx hKa hTx hTa hX8 hY8 hdd
  have hn1 : ¬ x < y := by omega
  have hn2 : ¬ x = y := by omega
  have hn3 : decide (x < y) = false := decide_eq_false hn1
  go_enter Tryd.func10, Tryd.ntmps10
  go_wp2_with fail
  refine (shown_any _ (HTab.out.below (below3 w _ _ _) h0) (Nat.lt_of_lt_of_le h0 (below3 w _ _ _).size)).mono ?_
  rintro e w1 ⟨rfl, hb1⟩
  obtain ⟨z0, z1, z2, z3, z4, z5, hb⟩ := after_three hb1
  clear hb1
  go_wp2_with fail
  refine (keyInt_any x _ bx.1 (by omega)).mono ?_
  rintro e w2 ⟨v2, rfl, o2, hb2⟩
  rw [HX.out] at o2
  obtain ⟨A2, c2, rfl, r2, _⟩ := o2.rdc
  go_wp2_with fail
  refine (keyInt_any y _ bY.1 (by omega)).mono ?_
  rintro e w3 ⟨v3, rfl, o3, hb3⟩
  rw [HY.out] at o3
  obtain ⟨A3, c3, rfl, r3, _⟩ := o3.rdc
  go_wp2_with fail
  refine (compare_any A2 A3 c2 c3 _ _ X Y w3 (r2.below hb3) r3 (by have := HX8.out; omega) (by have := HY8.out; omega)).mono ?_
  rintro e w4 ⟨rfl, hb4⟩
  rw [HKX.out]
  have b14 : Below w1.heap.size w1 w4 := (hb2.trans (hb3.mono hb2.size)).trans (hb4.mono (Nat.le_trans hb2.size hb3.size))
  have b04 : Below w.heap.size w w4 := hb.trans (b14.mono hb.size)
  go_wp2_with fail
  refine (keyText_any A ca s w4 ((HS.out.below b04).more b04.size) (by omega)).mono ?_
  rintro e w5 ⟨v5, rfl, o5, hb5⟩
  rw [HP.out] at o5
  obtain ⟨A5, c5, rfl, r5, _⟩ := o5.rdc
  have b05 : Below w.heap.size w w5 := b04.trans (hb5.mono b04.size)
  go_wp2_with fail
  refine (keyText_any B cb t w5 ((HT.out.below b05).more b05.size) (by omega)).mono ?_
  rintro e w6 ⟨v6, rfl, o6, hb6⟩
  rw [HU.out] at o6
  obtain ⟨A6, c6, rfl, r6, _⟩ := o6.rdc
  have b06 : Below w.heap.size w w6 := b05.trans (hb6.mono b05.size)
  go_wp2_with fail
  refine (compare_any A5 A6 c5 c6 _ _ P U w6 (r5.below hb6) r6 (by omega) (by omega)).mono ?_
  rintro e w7 ⟨rfl, hb7⟩
  rw [HTX.out, ← HD.out]
  have b07 : Below w.heap.size w w7 := b06.trans (hb7.mono b06.size)
  go_wp2_with fail
  refine (rcompare_any A B ca cb _ _ s t w7 (HS.out.below b07) (HT.out.below b07) (by omega) (by omega)).mono ?_
  rintro e w8 ⟨rfl, hb8⟩
  rw [← HD.out]
  have b08 : Below w.heap.size w w8 := b07.trans (hb8.mono b07.size)
  have b48 : Below w4.heap.size w4 w8 := ((hb5.trans (hb6.mono hb5.size)).trans (hb7.mono (Nat.le_trans hb5.size hb6.size))).trans (hb8.mono (Nat.le_trans (Nat.le_trans hb5.size hb6.size) hb7.size))
  have b18 : Below w1.heap.size w1 w8 := b14.trans (b48.mono b14.size)
  have b38 : Below w3.heap.size w3 w8 := hb4.trans (b48.mono hb4.size)
  have b28 : Below w2.heap.size w2 w8 := hb3.trans (b38.mono hb3.size)
  have b68 : Below w6.heap.size w6 w8 := hb7.trans (hb8.mono hb7.size)
  have b58 : Below w5.heap.size w5 w8 := hb6.trans (b68.mono hb6.size)
  have p2 := o2.below b28
  have p3 := o3.below b38
  have p5 := o5.below b58
  have p6 := o6.below b68
  have y4 := kept b18 z4
  have y5 := kept b18 z5
  have F0 : Four w1 w8 _ _ _ _ _ _ _ _ := ⟨p2, p3.mono hb2.size, p5.mono b14.size, p6.mono (Nat.le_trans b14.size hb5.size), apart_of o2 o3 (Nat.le_refl _), apart_of o2 o5 (Nat.le_trans hb3.size hb4.size), apart_of o2 o6 (Nat.le_trans (Nat.le_trans hb3.size hb4.size) hb5.size), apart_of o3 o5 hb4.size, apart_of o3 o6 (Nat.le_trans hb4.size hb5.size), apart_of o5 o6 (Nat.le_refl _), b18⟩
  have Rr := Lib.hid ((HR.out.below hb).more hb.size)
  have Rq := Lib.hid ((HQ.out.below hb).more hb.size)
  have m1 : X.length + r.length ≤ 4000000 := by have := HX8.out; omega
  have m2 : Y.length + q.length ≤ 4000000 := by have := HY8.out; omega
  have m3 : P.length + r.length ≤ 4000000 := by omega
  have m4 : U.length + q.length ≤ 4000000 := by omega
  have n1 : (X ++ r).length ≤ 4000000 := by rw [List.length_append]; exact m1
  have n2 : (Y ++ q).length ≤ 4000000 := by rw [List.length_append]; exact m2
  have n3 : (P ++ r).length ≤ 4000000 := by rw [List.length_append]; exact m3
  have n4 : (U ++ q).length ≤ 4000000 := by rw [List.length_append]; exact m4
  clear z0 z1 z2 z3 r2 r3 r5 r6 o2 o3 o5 o6 p2 p3 p5 p6
  go_wp2_with fail
  go_region_held3 (fun w' => w'.cell? ⟨w.heap.size + 1 + 1, 0, none⟩ = some (.slice C r.length cc) ∧ w'.cell? ⟨w.heap.size + 1 + 1, 1, none⟩ = some (.slice D q.length cd)) (first | exact ⟨kept F2.bel z4, kept F2.bel z5⟩ | exact ⟨kept F1.bel z4, kept F1.bel z5⟩ | exact ⟨kept F0.bel z4, kept F0.bel z5⟩ | go_keep)
    (first
      | (refine step_app_1 w1 (.slice A2 X.length c2) (.slice A3 Y.length c3) (.slice A5 P.length c5) (.slice A6 U.length c6) X Y P U r C cc ?hgdka (.tmp 67) (.tmp 69) ?hoka ?hska ?hxka ?hTka ?hrka ?hlenka ?hhka; (case hgdka => rfl); (case hoka => rfl); (case hska => rfl); (case hxka => rfl); (case hTka => first | exact F0.drew | exact F0 | exact F0.drew.drew); (case hrka => exact Rr.out); (case hlenka => exact m1); intro vX w9 F1)
      | (refine step_app_2 w1 vX (.slice A3 Y.length c3) (.slice A5 P.length c5) (.slice A6 U.length c6) (X ++ r) Y P U q D cd ?hgdkb (.tmp 71) (.tmp 73) ?hokb ?hskb ?hxkb ?hTkb ?hrkb ?hlenkb ?hhkb; (case hgdkb => rfl); (case hokb => rfl); (case hskb => rfl); (case hxkb => rfl); (case hTkb => first | exact F1.drew | exact F1 | exact F1.drew.drew); (case hrkb => exact Rq.out); (case hlenkb => exact m2); intro vY w9 F1)
      | (go_at_call 39; refine (compare_own (by exact F1.o1) (by exact F1.o2) n1 n2).mono ?_; rw [HKA.out]; rintro e w10 ⟨rfl, hb10⟩; have F2 := F1.below (show Below w9.heap.size w9 w10 from ⟨hb10.os, hb10.tape, hb10.output, hb10.size, hb10.block⟩)))
  go_wp2_with fail
  go_region_held3 (fun w' => w'.cell? ⟨w.heap.size + 1 + 1, 0, none⟩ = some (.slice C r.length cc) ∧ w'.cell? ⟨w.heap.size + 1 + 1, 1, none⟩ = some (.slice D q.length cd)) (first | exact ⟨kept F4.bel z4, kept F4.bel z5⟩ | exact ⟨kept F3.bel z4, kept F3.bel z5⟩ | exact ⟨kept F2.bel z4, kept F2.bel z5⟩ | go_keep)
    (first
      | (refine step_app_3 w1 vX vY (.slice A5 P.length c5) (.slice A6 U.length c6) (X ++ r) (Y ++ q) P U r C cc ?hgdja (.tmp 81) (.tmp 83) ?hoja ?hsja ?hxja ?hTja ?hrja ?hlenja ?hhja; (case hgdja => rfl); (case hoja => rfl); (case hsja => rfl); (case hxja => rfl); (case hTja => first | exact F2.drew | exact F2 | exact F2.drew.drew); (case hrja => exact Rr.out); (case hlenja => exact m3); intro vP w11 F3)
      | (refine step_app_4 w1 vX vY vP (.slice A6 U.length c6) (X ++ r) (Y ++ q) (P ++ r) U q D cd ?hgdjb (.tmp 85) (.tmp 87) ?hojb ?hsjb ?hxjb ?hTjb ?hrjb ?hlenjb ?hhjb; (case hgdjb => rfl); (case hojb => rfl); (case hsjb => rfl); (case hxjb => rfl); (case hTjb => first | exact F3.drew | exact F3 | exact F3.drew.drew); (case hrjb => exact Rq.out); (case hlenjb => exact m4); intro vU w11 F3)
      | (go_at_call 39; refine (compare_own (by exact F3.o3) (by exact F3.o4) n3 n4).mono ?_; rw [HTA.out, ← HD.out]; rintro e w12 ⟨rfl, hb12⟩; have F4 := F3.below (show Below w11.heap.size w11 w12 from ⟨hb12.os, hb12.tape, hb12.output, hb12.size, hb12.block⟩)))
  go_wp2
  go_ret
  exact ⟨by first | rfl | simp, hb.trans (F4.bel.mono hb.size)⟩

set_option maxHeartbeats 1600000 in
set_option maxRecDepth 100000 in
theorem order_gt_z (x y : Int) (A B C D : Option Addr) (ca cb cc cd : Nat) (s t r q X Y P U : List UInt8) (w : World) (bx : -9223372036854775808 ≤ x ∧ x ≤ 9223372036854775807) (bY : -9223372036854775808 ≤ y ∧ y ≤ 9223372036854775807)
    (hs : Rd w w.heap.size A s) (ht : Rd w w.heap.size B t) (hr : Rd w w.heap.size C r) (hq : Rd w w.heap.size D q)
    (ls : s.length ≤ 1048576) (lt : t.length ≤ 1048576) (lr : r.length ≤ 1048576) (lq : q.length ≤ 1048576) (hT : Tab w) (h0 : 0 < w.heap.size)
    (hX : key8 (off63 x) = X) (hY : key8 (off63 y) = Y) (hP : kt s = P) (hU : kt t = U) (hX8 : X.length = 8) (hY8 : Y.length = 8) (hks : P.length ≤ 2097154) (hkt : U.length ≤ 2097154)
    (hxy : y < x) (hKx : cmp X Y = (1 : Int)) (hd : cmp s t = 0) (hTx : cmp P U = cmp s t)
    (hKa : x ≠ y → cmp (X ++ r) (Y ++ q) = cmp X Y) (hTa : cmp s t ≠ 0 → cmp (P ++ r) (U ++ q) = cmp s t) :
    Calls Tryd.prog 10 #[.agg #[.int .i64 x, .int .i64 y], .agg #[.slice A s.length ca, .slice B t.length cb], .agg #[.slice C r.length cc, .slice D q.length cd]] w fun e w' => e = .returned (.bool true) ∧ Below w.heap.size w w' := by
  have HS := Lib.hid hs
  have HT := Lib.hid ht
  have HR := Lib.hid hr
  have HQ := Lib.hid hq
  have HTab := Lib.hid hT
  have HX := Lib.hid hX
  have HY := Lib.hid hY
  have HP := Lib.hid hP
  have HU := Lib.hid hU
  have HKX := Lib.hid hKx
  have HKA := Lib.hid ((hKa (by omega)).trans hKx)
  have HTX := Lib.hid hTx
  have HX8 := Lib.hid hX8
  have HY8 := Lib.hid hY8
  have hD := cmp_rng s t
  obtain ⟨d, hdd⟩ : ∃ d, d = cmp s t := ⟨_, rfl⟩
  rw [← hdd] at hd hD
  have HD := Lib.hid hdd
  clear hs ht hr hq hT hX hY hP hU hKx hKa hTx hTa hX8 hY8 hdd
  have hn1 : ¬ x < y := by omega
  have hn2 : ¬ x = y := by omega
  have hn3 : decide (x < y) = false := decide_eq_false hn1
  go_enter Tryd.func10, Tryd.ntmps10
  go_wp2_with fail
  refine (shown_any _ (HTab.out.below (below3 w _ _ _) h0) (Nat.lt_of_lt_of_le h0 (below3 w _ _ _).size)).mono ?_
  rintro e w1 ⟨rfl, hb1⟩
  obtain ⟨z0, z1, z2, z3, z4, z5, hb⟩ := after_three hb1
  clear hb1
  go_wp2_with fail
  refine (keyInt_any x _ bx.1 (by omega)).mono ?_
  rintro e w2 ⟨v2, rfl, o2, hb2⟩
  rw [HX.out] at o2
  obtain ⟨A2, c2, rfl, r2, _⟩ := o2.rdc
  go_wp2_with fail
  refine (keyInt_any y _ bY.1 (by omega)).mono ?_
  rintro e w3 ⟨v3, rfl, o3, hb3⟩
  rw [HY.out] at o3
  obtain ⟨A3, c3, rfl, r3, _⟩ := o3.rdc
  go_wp2_with fail
  refine (compare_any A2 A3 c2 c3 _ _ X Y w3 (r2.below hb3) r3 (by have := HX8.out; omega) (by have := HY8.out; omega)).mono ?_
  rintro e w4 ⟨rfl, hb4⟩
  rw [HKX.out]
  have b14 : Below w1.heap.size w1 w4 := (hb2.trans (hb3.mono hb2.size)).trans (hb4.mono (Nat.le_trans hb2.size hb3.size))
  have b04 : Below w.heap.size w w4 := hb.trans (b14.mono hb.size)
  go_wp2_with fail
  refine (keyText_any A ca s w4 ((HS.out.below b04).more b04.size) (by omega)).mono ?_
  rintro e w5 ⟨v5, rfl, o5, hb5⟩
  rw [HP.out] at o5
  obtain ⟨A5, c5, rfl, r5, _⟩ := o5.rdc
  have b05 : Below w.heap.size w w5 := b04.trans (hb5.mono b04.size)
  go_wp2_with fail
  refine (keyText_any B cb t w5 ((HT.out.below b05).more b05.size) (by omega)).mono ?_
  rintro e w6 ⟨v6, rfl, o6, hb6⟩
  rw [HU.out] at o6
  obtain ⟨A6, c6, rfl, r6, _⟩ := o6.rdc
  have b06 : Below w.heap.size w w6 := b05.trans (hb6.mono b05.size)
  go_wp2_with fail
  refine (compare_any A5 A6 c5 c6 _ _ P U w6 (r5.below hb6) r6 (by omega) (by omega)).mono ?_
  rintro e w7 ⟨rfl, hb7⟩
  rw [HTX.out, ← HD.out]
  have b07 : Below w.heap.size w w7 := b06.trans (hb7.mono b06.size)
  go_wp2_with fail
  refine (rcompare_any A B ca cb _ _ s t w7 (HS.out.below b07) (HT.out.below b07) (by omega) (by omega)).mono ?_
  rintro e w8 ⟨rfl, hb8⟩
  rw [← HD.out]
  have b08 : Below w.heap.size w w8 := b07.trans (hb8.mono b07.size)
  have b48 : Below w4.heap.size w4 w8 := ((hb5.trans (hb6.mono hb5.size)).trans (hb7.mono (Nat.le_trans hb5.size hb6.size))).trans (hb8.mono (Nat.le_trans (Nat.le_trans hb5.size hb6.size) hb7.size))
  have b18 : Below w1.heap.size w1 w8 := b14.trans (b48.mono b14.size)
  have b38 : Below w3.heap.size w3 w8 := hb4.trans (b48.mono hb4.size)
  have b28 : Below w2.heap.size w2 w8 := hb3.trans (b38.mono hb3.size)
  have b68 : Below w6.heap.size w6 w8 := hb7.trans (hb8.mono hb7.size)
  have b58 : Below w5.heap.size w5 w8 := hb6.trans (b68.mono hb6.size)
  have p2 := o2.below b28
  have p3 := o3.below b38
  have p5 := o5.below b58
  have p6 := o6.below b68
  have y4 := kept b18 z4
  have y5 := kept b18 z5
  have F0 : Four w1 w8 _ _ _ _ _ _ _ _ := ⟨p2, p3.mono hb2.size, p5.mono b14.size, p6.mono (Nat.le_trans b14.size hb5.size), apart_of o2 o3 (Nat.le_refl _), apart_of o2 o5 (Nat.le_trans hb3.size hb4.size), apart_of o2 o6 (Nat.le_trans (Nat.le_trans hb3.size hb4.size) hb5.size), apart_of o3 o5 hb4.size, apart_of o3 o6 (Nat.le_trans hb4.size hb5.size), apart_of o5 o6 (Nat.le_refl _), b18⟩
  have Rr := Lib.hid ((HR.out.below hb).more hb.size)
  have Rq := Lib.hid ((HQ.out.below hb).more hb.size)
  have m1 : X.length + r.length ≤ 4000000 := by have := HX8.out; omega
  have m2 : Y.length + q.length ≤ 4000000 := by have := HY8.out; omega
  have m3 : P.length + r.length ≤ 4000000 := by omega
  have m4 : U.length + q.length ≤ 4000000 := by omega
  have n1 : (X ++ r).length ≤ 4000000 := by rw [List.length_append]; exact m1
  have n2 : (Y ++ q).length ≤ 4000000 := by rw [List.length_append]; exact m2
  have n3 : (P ++ r).length ≤ 4000000 := by rw [List.length_append]; exact m3
  have n4 : (U ++ q).length ≤ 4000000 := by rw [List.length_append]; exact m4
  clear z0 z1 z2 z3 r2 r3 r5 r6 o2 o3 o5 o6 p2 p3 p5 p6
  go_wp2_with fail
  go_region_held3 (fun w' => w'.cell? ⟨w.heap.size + 1 + 1, 0, none⟩ = some (.slice C r.length cc) ∧ w'.cell? ⟨w.heap.size + 1 + 1, 1, none⟩ = some (.slice D q.length cd)) (first | exact ⟨kept F2.bel z4, kept F2.bel z5⟩ | exact ⟨kept F1.bel z4, kept F1.bel z5⟩ | exact ⟨kept F0.bel z4, kept F0.bel z5⟩ | go_keep)
    (first
      | (refine step_app_1 w1 (.slice A2 X.length c2) (.slice A3 Y.length c3) (.slice A5 P.length c5) (.slice A6 U.length c6) X Y P U r C cc ?hgdka (.tmp 67) (.tmp 69) ?hoka ?hska ?hxka ?hTka ?hrka ?hlenka ?hhka; (case hgdka => rfl); (case hoka => rfl); (case hska => rfl); (case hxka => rfl); (case hTka => first | exact F0.drew | exact F0 | exact F0.drew.drew); (case hrka => exact Rr.out); (case hlenka => exact m1); intro vX w9 F1)
      | (refine step_app_2 w1 vX (.slice A3 Y.length c3) (.slice A5 P.length c5) (.slice A6 U.length c6) (X ++ r) Y P U q D cd ?hgdkb (.tmp 71) (.tmp 73) ?hokb ?hskb ?hxkb ?hTkb ?hrkb ?hlenkb ?hhkb; (case hgdkb => rfl); (case hokb => rfl); (case hskb => rfl); (case hxkb => rfl); (case hTkb => first | exact F1.drew | exact F1 | exact F1.drew.drew); (case hrkb => exact Rq.out); (case hlenkb => exact m2); intro vY w9 F1)
      | (go_at_call 39; refine (compare_own (by exact F1.o1) (by exact F1.o2) n1 n2).mono ?_; rw [HKA.out]; rintro e w10 ⟨rfl, hb10⟩; have F2 := F1.below (show Below w9.heap.size w9 w10 from ⟨hb10.os, hb10.tape, hb10.output, hb10.size, hb10.block⟩)))
  go_wp2
  go_ret
  exact ⟨by first | rfl | simp, hb.trans (F2.bel.mono hb.size)⟩

set_option maxHeartbeats 1600000 in
set_option maxRecDepth 100000 in
theorem order_eq_n (x y : Int) (A B C D : Option Addr) (ca cb cc cd : Nat) (s t r q X Y P U : List UInt8) (w : World) (bx : -9223372036854775808 ≤ x ∧ x ≤ 9223372036854775807) (bY : -9223372036854775808 ≤ y ∧ y ≤ 9223372036854775807)
    (hs : Rd w w.heap.size A s) (ht : Rd w w.heap.size B t) (hr : Rd w w.heap.size C r) (hq : Rd w w.heap.size D q)
    (ls : s.length ≤ 1048576) (lt : t.length ≤ 1048576) (lr : r.length ≤ 1048576) (lq : q.length ≤ 1048576) (hT : Tab w) (h0 : 0 < w.heap.size)
    (hX : key8 (off63 x) = X) (hY : key8 (off63 y) = Y) (hP : kt s = P) (hU : kt t = U) (hX8 : X.length = 8) (hY8 : Y.length = 8) (hks : P.length ≤ 2097154) (hkt : U.length ≤ 2097154)
    (hxy : x = y) (hKx : cmp X Y = (0 : Int)) (hd : cmp s t ≠ 0) (hTx : cmp P U = cmp s t)
    (hKa : x ≠ y → cmp (X ++ r) (Y ++ q) = cmp X Y) (hTa : cmp s t ≠ 0 → cmp (P ++ r) (U ++ q) = cmp s t) :
    Calls Tryd.prog 10 #[.agg #[.int .i64 x, .int .i64 y], .agg #[.slice A s.length ca, .slice B t.length cb], .agg #[.slice C r.length cc, .slice D q.length cd]] w fun e w' => e = .returned (.bool true) ∧ Below w.heap.size w w' := by
  have HS := Lib.hid hs
  have HT := Lib.hid ht
  have HR := Lib.hid hr
  have HQ := Lib.hid hq
  have HTab := Lib.hid hT
  have HX := Lib.hid hX
  have HY := Lib.hid hY
  have HP := Lib.hid hP
  have HU := Lib.hid hU
  have HKX := Lib.hid hKx
  have HTX := Lib.hid hTx
  have HTA := Lib.hid (hTa hd)
  have HX8 := Lib.hid hX8
  have HY8 := Lib.hid hY8
  have hD := cmp_rng s t
  obtain ⟨d, hdd⟩ : ∃ d, d = cmp s t := ⟨_, rfl⟩
  rw [← hdd] at hd hD
  have HD := Lib.hid hdd
  clear hs ht hr hq hT hX hY hP hU hKx hKa hTx hTa hX8 hY8 hdd
  subst hxy
  go_enter Tryd.func10, Tryd.ntmps10
  go_wp2_with fail
  refine (shown_any _ (HTab.out.below (below3 w _ _ _) h0) (Nat.lt_of_lt_of_le h0 (below3 w _ _ _).size)).mono ?_
  rintro e w1 ⟨rfl, hb1⟩
  obtain ⟨z0, z1, z2, z3, z4, z5, hb⟩ := after_three hb1
  clear hb1
  go_wp2_with fail
  refine (keyInt_any x _ bx.1 (by omega)).mono ?_
  rintro e w2 ⟨v2, rfl, o2, hb2⟩
  rw [HX.out] at o2
  obtain ⟨A2, c2, rfl, r2, _⟩ := o2.rdc
  go_wp2_with fail
  refine (keyInt_any x _ bY.1 (by omega)).mono ?_
  rintro e w3 ⟨v3, rfl, o3, hb3⟩
  rw [HY.out] at o3
  obtain ⟨A3, c3, rfl, r3, _⟩ := o3.rdc
  go_wp2_with fail
  refine (compare_any A2 A3 c2 c3 _ _ X Y w3 (r2.below hb3) r3 (by have := HX8.out; omega) (by have := HY8.out; omega)).mono ?_
  rintro e w4 ⟨rfl, hb4⟩
  rw [HKX.out]
  have b14 : Below w1.heap.size w1 w4 := (hb2.trans (hb3.mono hb2.size)).trans (hb4.mono (Nat.le_trans hb2.size hb3.size))
  have b04 : Below w.heap.size w w4 := hb.trans (b14.mono hb.size)
  go_wp2_with fail
  refine (keyText_any A ca s w4 ((HS.out.below b04).more b04.size) (by omega)).mono ?_
  rintro e w5 ⟨v5, rfl, o5, hb5⟩
  rw [HP.out] at o5
  obtain ⟨A5, c5, rfl, r5, _⟩ := o5.rdc
  have b05 : Below w.heap.size w w5 := b04.trans (hb5.mono b04.size)
  go_wp2_with fail
  refine (keyText_any B cb t w5 ((HT.out.below b05).more b05.size) (by omega)).mono ?_
  rintro e w6 ⟨v6, rfl, o6, hb6⟩
  rw [HU.out] at o6
  obtain ⟨A6, c6, rfl, r6, _⟩ := o6.rdc
  have b06 : Below w.heap.size w w6 := b05.trans (hb6.mono b05.size)
  go_wp2_with fail
  refine (compare_any A5 A6 c5 c6 _ _ P U w6 (r5.below hb6) r6 (by omega) (by omega)).mono ?_
  rintro e w7 ⟨rfl, hb7⟩
  rw [HTX.out, ← HD.out]
  have b07 : Below w.heap.size w w7 := b06.trans (hb7.mono b06.size)
  go_wp2_with fail
  refine (rcompare_any A B ca cb _ _ s t w7 (HS.out.below b07) (HT.out.below b07) (by omega) (by omega)).mono ?_
  rintro e w8 ⟨rfl, hb8⟩
  rw [← HD.out]
  have b08 : Below w.heap.size w w8 := b07.trans (hb8.mono b07.size)
  have b48 : Below w4.heap.size w4 w8 := ((hb5.trans (hb6.mono hb5.size)).trans (hb7.mono (Nat.le_trans hb5.size hb6.size))).trans (hb8.mono (Nat.le_trans (Nat.le_trans hb5.size hb6.size) hb7.size))
  have b18 : Below w1.heap.size w1 w8 := b14.trans (b48.mono b14.size)
  have b38 : Below w3.heap.size w3 w8 := hb4.trans (b48.mono hb4.size)
  have b28 : Below w2.heap.size w2 w8 := hb3.trans (b38.mono hb3.size)
  have b68 : Below w6.heap.size w6 w8 := hb7.trans (hb8.mono hb7.size)
  have b58 : Below w5.heap.size w5 w8 := hb6.trans (b68.mono hb6.size)
  have p2 := o2.below b28
  have p3 := o3.below b38
  have p5 := o5.below b58
  have p6 := o6.below b68
  have y4 := kept b18 z4
  have y5 := kept b18 z5
  have F0 : Four w1 w8 _ _ _ _ _ _ _ _ := ⟨p2, p3.mono hb2.size, p5.mono b14.size, p6.mono (Nat.le_trans b14.size hb5.size), apart_of o2 o3 (Nat.le_refl _), apart_of o2 o5 (Nat.le_trans hb3.size hb4.size), apart_of o2 o6 (Nat.le_trans (Nat.le_trans hb3.size hb4.size) hb5.size), apart_of o3 o5 hb4.size, apart_of o3 o6 (Nat.le_trans hb4.size hb5.size), apart_of o5 o6 (Nat.le_refl _), b18⟩
  have Rr := Lib.hid ((HR.out.below hb).more hb.size)
  have Rq := Lib.hid ((HQ.out.below hb).more hb.size)
  have m1 : X.length + r.length ≤ 4000000 := by have := HX8.out; omega
  have m2 : Y.length + q.length ≤ 4000000 := by have := HY8.out; omega
  have m3 : P.length + r.length ≤ 4000000 := by omega
  have m4 : U.length + q.length ≤ 4000000 := by omega
  have n1 : (X ++ r).length ≤ 4000000 := by rw [List.length_append]; exact m1
  have n2 : (Y ++ q).length ≤ 4000000 := by rw [List.length_append]; exact m2
  have n3 : (P ++ r).length ≤ 4000000 := by rw [List.length_append]; exact m3
  have n4 : (U ++ q).length ≤ 4000000 := by rw [List.length_append]; exact m4
  clear z0 z1 z2 z3 r2 r3 r5 r6 o2 o3 o5 o6 p2 p3 p5 p6
  go_wp2_with fail
  go_region_held3 (fun w' => w'.cell? ⟨w.heap.size + 1 + 1, 0, none⟩ = some (.slice C r.length cc) ∧ w'.cell? ⟨w.heap.size + 1 + 1, 1, none⟩ = some (.slice D q.length cd)) (first | exact ⟨kept F4.bel z4, kept F4.bel z5⟩ | exact ⟨kept F3.bel z4, kept F3.bel z5⟩ | exact ⟨kept F0.bel z4, kept F0.bel z5⟩ | go_keep)
    (first
      | (refine step_app_3 w1 (.slice A2 X.length c2) (.slice A3 Y.length c3) (.slice A5 P.length c5) (.slice A6 U.length c6) X Y P U r C cc ?hgdja (.tmp 81) (.tmp 83) ?hoja ?hsja ?hxja ?hTja ?hrja ?hlenja ?hhja; (case hgdja => rfl); (case hoja => rfl); (case hsja => rfl); (case hxja => rfl); (case hTja => first | exact F0.drew | exact F0 | exact F0.drew.drew); (case hrja => exact Rr.out); (case hlenja => exact m3); intro vP w11 F3)
      | (refine step_app_4 w1 (.slice A2 X.length c2) (.slice A3 Y.length c3) vP (.slice A6 U.length c6) X Y (P ++ r) U q D cd ?hgdjb (.tmp 85) (.tmp 87) ?hojb ?hsjb ?hxjb ?hTjb ?hrjb ?hlenjb ?hhjb; (case hgdjb => rfl); (case hojb => rfl); (case hsjb => rfl); (case hxjb => rfl); (case hTjb => first | exact F3.drew | exact F3 | exact F3.drew.drew); (case hrjb => exact Rq.out); (case hlenjb => exact m4); intro vU w11 F3)
      | (go_at_call 39; refine (compare_own (by exact F3.o3) (by exact F3.o4) n3 n4).mono ?_; rw [HTA.out, ← HD.out]; rintro e w12 ⟨rfl, hb12⟩; have F4 := F3.below (show Below w11.heap.size w11 w12 from ⟨hb12.os, hb12.tape, hb12.output, hb12.size, hb12.block⟩)))
  go_wp2
  go_ret
  exact ⟨by first | rfl | simp, hb.trans (F4.bel.mono hb.size)⟩

set_option maxHeartbeats 1600000 in
set_option maxRecDepth 100000 in
theorem order_eq_z (x y : Int) (A B C D : Option Addr) (ca cb cc cd : Nat) (s t r q X Y P U : List UInt8) (w : World) (bx : -9223372036854775808 ≤ x ∧ x ≤ 9223372036854775807) (bY : -9223372036854775808 ≤ y ∧ y ≤ 9223372036854775807)
    (hs : Rd w w.heap.size A s) (ht : Rd w w.heap.size B t) (hr : Rd w w.heap.size C r) (hq : Rd w w.heap.size D q)
    (ls : s.length ≤ 1048576) (lt : t.length ≤ 1048576) (lr : r.length ≤ 1048576) (lq : q.length ≤ 1048576) (hT : Tab w) (h0 : 0 < w.heap.size)
    (hX : key8 (off63 x) = X) (hY : key8 (off63 y) = Y) (hP : kt s = P) (hU : kt t = U) (hX8 : X.length = 8) (hY8 : Y.length = 8) (hks : P.length ≤ 2097154) (hkt : U.length ≤ 2097154)
    (hxy : x = y) (hKx : cmp X Y = (0 : Int)) (hd : cmp s t = 0) (hTx : cmp P U = cmp s t)
    (hKa : x ≠ y → cmp (X ++ r) (Y ++ q) = cmp X Y) (hTa : cmp s t ≠ 0 → cmp (P ++ r) (U ++ q) = cmp s t) :
    Calls Tryd.prog 10 #[.agg #[.int .i64 x, .int .i64 y], .agg #[.slice A s.length ca, .slice B t.length cb], .agg #[.slice C r.length cc, .slice D q.length cd]] w fun e w' => e = .returned (.bool true) ∧ Below w.heap.size w w' := by
  have HS := Lib.hid hs
  have HT := Lib.hid ht
  have HR := Lib.hid hr
  have HQ := Lib.hid hq
  have HTab := Lib.hid hT
  have HX := Lib.hid hX
  have HY := Lib.hid hY
  have HP := Lib.hid hP
  have HU := Lib.hid hU
  have HKX := Lib.hid hKx
  have HTX := Lib.hid hTx
  have HX8 := Lib.hid hX8
  have HY8 := Lib.hid hY8
  have hD := cmp_rng s t
  obtain ⟨d, hdd⟩ : ∃ d, d = cmp s t := ⟨_, rfl⟩
  rw [← hdd] at hd hD
  have HD := Lib.hid hdd
  clear hs ht hr hq hT hX hY hP hU hKx hKa hTx hTa hX8 hY8 hdd
  subst hxy
  go_enter Tryd.func10, Tryd.ntmps10
  go_wp2_with fail
  refine (shown_any _ (HTab.out.below (below3 w _ _ _) h0) (Nat.lt_of_lt_of_le h0 (below3 w _ _ _).size)).mono ?_
  rintro e w1 ⟨rfl, hb1⟩
  obtain ⟨z0, z1, z2, z3, z4, z5, hb⟩ := after_three hb1
  clear hb1
  go_wp2_with fail
  refine (keyInt_any x _ bx.1 (by omega)).mono ?_
  rintro e w2 ⟨v2, rfl, o2, hb2⟩
  rw [HX.out] at o2
  obtain ⟨A2, c2, rfl, r2, _⟩ := o2.rdc
  go_wp2_with fail
  refine (keyInt_any x _ bY.1 (by omega)).mono ?_
  rintro e w3 ⟨v3, rfl, o3, hb3⟩
  rw [HY.out] at o3
  obtain ⟨A3, c3, rfl, r3, _⟩ := o3.rdc
  go_wp2_with fail
  refine (compare_any A2 A3 c2 c3 _ _ X Y w3 (r2.below hb3) r3 (by have := HX8.out; omega) (by have := HY8.out; omega)).mono ?_
  rintro e w4 ⟨rfl, hb4⟩
  rw [HKX.out]
  have b14 : Below w1.heap.size w1 w4 := (hb2.trans (hb3.mono hb2.size)).trans (hb4.mono (Nat.le_trans hb2.size hb3.size))
  have b04 : Below w.heap.size w w4 := hb.trans (b14.mono hb.size)
  go_wp2_with fail
  refine (keyText_any A ca s w4 ((HS.out.below b04).more b04.size) (by omega)).mono ?_
  rintro e w5 ⟨v5, rfl, o5, hb5⟩
  rw [HP.out] at o5
  obtain ⟨A5, c5, rfl, r5, _⟩ := o5.rdc
  have b05 : Below w.heap.size w w5 := b04.trans (hb5.mono b04.size)
  go_wp2_with fail
  refine (keyText_any B cb t w5 ((HT.out.below b05).more b05.size) (by omega)).mono ?_
  rintro e w6 ⟨v6, rfl, o6, hb6⟩
  rw [HU.out] at o6
  obtain ⟨A6, c6, rfl, r6, _⟩ := o6.rdc
  have b06 : Below w.heap.size w w6 := b05.trans (hb6.mono b05.size)
  go_wp2_with fail
  refine (compare_any A5 A6 c5 c6 _ _ P U w6 (r5.below hb6) r6 (by omega) (by omega)).mono ?_
  rintro e w7 ⟨rfl, hb7⟩
  rw [HTX.out, ← HD.out]
  have b07 : Below w.heap.size w w7 := b06.trans (hb7.mono b06.size)
  go_wp2_with fail
  refine (rcompare_any A B ca cb _ _ s t w7 (HS.out.below b07) (HT.out.below b07) (by omega) (by omega)).mono ?_
  rintro e w8 ⟨rfl, hb8⟩
  rw [← HD.out]
  have b08 : Below w.heap.size w w8 := b07.trans (hb8.mono b07.size)
  have b48 : Below w4.heap.size w4 w8 := ((hb5.trans (hb6.mono hb5.size)).trans (hb7.mono (Nat.le_trans hb5.size hb6.size))).trans (hb8.mono (Nat.le_trans (Nat.le_trans hb5.size hb6.size) hb7.size))
  have b18 : Below w1.heap.size w1 w8 := b14.trans (b48.mono b14.size)
  have b38 : Below w3.heap.size w3 w8 := hb4.trans (b48.mono hb4.size)
  have b28 : Below w2.heap.size w2 w8 := hb3.trans (b38.mono hb3.size)
  have b68 : Below w6.heap.size w6 w8 := hb7.trans (hb8.mono hb7.size)
  have b58 : Below w5.heap.size w5 w8 := hb6.trans (b68.mono hb6.size)
  have p2 := o2.below b28
  have p3 := o3.below b38
  have p5 := o5.below b58
  have p6 := o6.below b68
  have y4 := kept b18 z4
  have y5 := kept b18 z5
  have F0 : Four w1 w8 _ _ _ _ _ _ _ _ := ⟨p2, p3.mono hb2.size, p5.mono b14.size, p6.mono (Nat.le_trans b14.size hb5.size), apart_of o2 o3 (Nat.le_refl _), apart_of o2 o5 (Nat.le_trans hb3.size hb4.size), apart_of o2 o6 (Nat.le_trans (Nat.le_trans hb3.size hb4.size) hb5.size), apart_of o3 o5 hb4.size, apart_of o3 o6 (Nat.le_trans hb4.size hb5.size), apart_of o5 o6 (Nat.le_refl _), b18⟩
  have Rr := Lib.hid ((HR.out.below hb).more hb.size)
  have Rq := Lib.hid ((HQ.out.below hb).more hb.size)
  have m1 : X.length + r.length ≤ 4000000 := by have := HX8.out; omega
  have m2 : Y.length + q.length ≤ 4000000 := by have := HY8.out; omega
  have m3 : P.length + r.length ≤ 4000000 := by omega
  have m4 : U.length + q.length ≤ 4000000 := by omega
  have n1 : (X ++ r).length ≤ 4000000 := by rw [List.length_append]; exact m1
  have n2 : (Y ++ q).length ≤ 4000000 := by rw [List.length_append]; exact m2
  have n3 : (P ++ r).length ≤ 4000000 := by rw [List.length_append]; exact m3
  have n4 : (U ++ q).length ≤ 4000000 := by rw [List.length_append]; exact m4
  clear z0 z1 z2 z3 r2 r3 r5 r6 o2 o3 o5 o6 p2 p3 p5 p6
  go_wp2_with fail
  go_ret
  exact ⟨by first | rfl | simp, hb.trans (F0.bel.mono hb.size)⟩

theorem law_order (x y : Int) (A B C D : Option Addr) (ca cb cc cd : Nat) (s t r q : List UInt8) (w : World) (bx : -9223372036854775808 ≤ x ∧ x ≤ 9223372036854775807) (bY : -9223372036854775808 ≤ y ∧ y ≤ 9223372036854775807)
    (hs : Rd w w.heap.size A s) (ht : Rd w w.heap.size B t) (hr : Rd w w.heap.size C r) (hq : Rd w w.heap.size D q)
    (ls : s.length ≤ 1048576) (lt : t.length ≤ 1048576) (lr : r.length ≤ 1048576) (lq : q.length ≤ 1048576) (hT : Tab w) (h0 : 0 < w.heap.size) :
    Calls Tryd.prog 10 #[.agg #[.int .i64 x, .int .i64 y], .agg #[.slice A s.length ca, .slice B t.length cb], .agg #[.slice C r.length cc, .slice D q.length cd]] w fun e w' => e = .returned (.bool true) ∧ Below w.heap.size w w' := by
  have hKx : cmp (key8 (off63 x)) (key8 (off63 y)) = if x < y then -1 else if y < x then 1 else 0 := by
    rw [cmp_key8 (by unfold off63; omega) (by unfold off63; omega)]
    unfold off63
    split <;> split <;> first | rfl | omega | (split <;> first | rfl | omega | (split <;> first | rfl | omega))
  have hKa : x ≠ y → cmp (key8 (off63 x) ++ r) (key8 (off63 y) ++ q) = cmp (key8 (off63 x)) (key8 (off63 y)) := fun h => cmp_app _ _ _ _ rfl (by rw [hKx]; split <;> first | decide | (split <;> first | decide | omega))
  have hTx := cmp_kt0 s t
  have hTa : cmp s t ≠ 0 → cmp (kt s ++ r) (kt t ++ q) = cmp s t := fun h => by rw [cmp_kt, if_neg h]
  have hes := esc_len s
  have het := esc_len t
  have hks : (kt s).length ≤ 2097154 := by simp [kt]; omega
  have hkt : (kt t).length ≤ 2097154 := by simp [kt]; omega
  rcases Int.lt_trichotomy x y with h | h | h
  · rw [if_pos h] at hKx
    by_cases hd : cmp s t = 0
    · exact order_lt_z x y A B C D ca cb cc cd s t r q _ _ _ _ w bx bY hs ht hr hq ls lt lr lq hT h0 rfl rfl rfl rfl rfl rfl hks hkt h hKx hd hTx hKa hTa
    · exact order_lt_n x y A B C D ca cb cc cd s t r q _ _ _ _ w bx bY hs ht hr hq ls lt lr lq hT h0 rfl rfl rfl rfl rfl rfl hks hkt h hKx hd hTx hKa hTa
  · rw [if_neg (by omega), if_neg (by omega)] at hKx
    by_cases hd : cmp s t = 0
    · exact order_eq_z x y A B C D ca cb cc cd s t r q _ _ _ _ w bx bY hs ht hr hq ls lt lr lq hT h0 rfl rfl rfl rfl rfl rfl hks hkt h hKx hd hTx hKa hTa
    · exact order_eq_n x y A B C D ca cb cc cd s t r q _ _ _ _ w bx bY hs ht hr hq ls lt lr lq hT h0 rfl rfl rfl rfl rfl rfl hks hkt h hKx hd hTx hKa hTa
  · rw [if_neg (by omega), if_pos h] at hKx
    by_cases hd : cmp s t = 0
    · exact order_gt_z x y A B C D ca cb cc cd s t r q _ _ _ _ w bx bY hs ht hr hq ls lt lr lq hT h0 rfl rfl rfl rfl rfl rfl hks hkt h hKx hd hTx hKa hTa
    · exact order_gt_n x y A B C D ca cb cc cd s t r q _ _ _ _ w bx bY hs ht hr hq ls lt lr lq hT h0 rfl rfl rfl rfl rfl rfl hks hkt h hKx hd hTx hKa hTa
end Go.Proofs.YtaojflmbfigplaaDoor
