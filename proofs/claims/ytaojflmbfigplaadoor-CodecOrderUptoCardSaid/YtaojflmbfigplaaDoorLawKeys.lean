/-
  The walk of the law CodecKeys (for texts within the second form's bound).
-/
import Derived.Test.YtaojflmbfigplaaDoorLawTexts
import Derived.Test.YtaojflmbfigplaaDoorKeyText
import Derived.Test.YtaojflmbfigplaaDoorTakeKeyInt
namespace Go.Proofs.YtaojflmbfigplaaDoor
open Go.RowKit

theorem be_key8 {U : Nat} (h : U < 2 ^ 64) : be (key8 U) = U := by
  simp only [be, key8, keyAt, List.foldl_cons, List.foldl_nil, by8_nat]
  omega
theorem tki_key {n : Int} (h0 : -9223372036854775808 ≤ n) (h1 : n < 9223372036854775808) (rest : List UInt8) : tki (key8 (off63 n) ++ rest) = (n, 8, 0) := by
  have hU : off63 n < 2 ^ 64 := by unfold off63; omega
  have ht : (key8 (off63 n) ++ rest).take 8 = key8 (off63 n) := by
    rw [show (8 : Nat) = (key8 (off63 n)).length from rfl, List.take_left]
  unfold tki
  rw [if_neg (by simp [key8]), ht, be_key8 hU]
  have : ((off63 n : Nat) : Int) = n + 9223372036854775808 := by unfold off63; omega
  rw [this]
  congr 1
  omega
theorem tkt_step {i : Nat} {out : List UInt8} {c : UInt8} {L : List UInt8} (hc : c.toNat ≠ 0) : tkt i out (c :: L) = tkt (i + 1) (out ++ [c]) L := by
  cases L with
  | nil => rfl
  | cons d t => simp only [tkt]; rw [if_pos hc]
theorem tkt_esc (rest : List UInt8) : ∀ (s : List UInt8) (i : Nat) (out : List UInt8), tkt i out (esc s ++ 0 :: 1 :: rest) = (out ++ s, i + (esc s).length + 2, 0)
  | [], i, out => by simp [esc, tkt]
  | c :: t, i, out => by
    have he : esc (c :: t) = (if c.toNat = 0 then [c, by8 255] else [c]) ++ esc t := by simp [esc]
    rw [he]
    by_cases h : c.toNat = 0
    · rw [if_pos h]
      have h2 : (by8 255).toNat = 255 := by rw [by8_nat]
      have hc : by8 0 = c := by apply UInt8.toNat_inj.1; rw [by8_nat, h]
      simp only [List.cons_append, List.nil_append, tkt, h, h2, ne_eq, not_true_eq_false, if_false, if_true]
      rw [tkt_esc rest t, hc]
      simp
      omega
    · rw [if_neg h]
      simp only [List.cons_append, List.nil_append]
      rw [tkt_step h, tkt_esc rest t]
      simp
      omega
theorem tkt_kt (s rest : List UInt8) : tkt 0 [] (kt s ++ rest) = (s, (kt s).length, 0) := by
  have := tkt_esc rest s 0 []
  unfold kt
  rw [List.append_assoc]
  simpa using this

set_option maxHeartbeats 3200000 in
set_option maxRecDepth 100000 in
theorem law_keys (n : Int) (A A' : Option Addr) (c c' : Nat) (s t : List UInt8) (w : World) (h0n : -9223372036854775808 ≤ n) (h1n : n ≤ 9223372036854775807) (hs : Rd w w.heap.size A s) (ht : Rd w w.heap.size A' t) (ls : s.length ≤ 1048576) (lt : t.length ≤ 1048576)
    (hT : Tab w) (h0 : 0 < w.heap.size) :
    Calls Tryd.prog 8 #[.int .i64 n, .slice A s.length c, .slice A' t.length c'] w fun e w' => e = .returned (.bool true) ∧ Below w.heap.size w w' := by
  have HS := Lib.hid hs
  have HR := Lib.hid ht
  have HTab := Lib.hid hT
  have HN0 := Lib.hid h0n
  have HN1 := Lib.hid (show n < 9223372036854775808 by omega)
  have HKI := Lib.hid (tki_key h0n (show n < 9223372036854775808 by omega) t)
  have HKT := Lib.hid (tkt_kt s t)
  obtain ⟨L, hL⟩ : ∃ L, L = kt s := ⟨_, rfl⟩
  rw [← hL] at HKT
  have hel := esc_len s
  have hLb : L.length ≤ 2097154 := by rw [hL]; simp [kt]; omega
  have HL := Lib.hid hL
  obtain ⟨K, hK⟩ : ∃ K, K = key8 (off63 n) := ⟨_, rfl⟩
  rw [← hK] at HKI
  have hK8 : K.length ≤ 8 := by rw [hK]; simp [key8]
  have HK := Lib.hid hK
  obtain ⟨M, hM⟩ : ∃ M, M = L ++ t := ⟨_, rfl⟩
  rw [← hM] at HKT
  have hMb : M.length ≤ 225179981367000 := by rw [hM]; simp; omega
  have HM := Lib.hid hM
  obtain ⟨J, hJ⟩ : ∃ J, J = K ++ t := ⟨_, rfl⟩
  rw [← hJ] at HKI
  have HJ := Lib.hid hJ
  clear hs ht hT hL hK hM hJ h0n h1n hel
  go_enter Tryd.func8, Tryd.ntmps8
  go_wp2_with fail
  refine (shown_any w HTab.out h0).mono ?_
  rintro e w1 ⟨rfl, hb1⟩
  have r1 := (HS.out.below hb1).more hb1.size
  go_wp2_with fail
  refine (lent_any A c s w1 r1 (by omega)).mono ?_
  rintro e w2 ⟨rfl, o2, hb2⟩
  obtain ⟨A2, c2, h2, r2, q2⟩ := o2.rdc
  injection h2 with h2 h4 h3
  clear h4
  subst h2 h3
  have r12 := (r1.below hb2).more hb2.size
  have b02 : Below w.heap.size w w2 := hb1.trans (hb2.mono hb1.size)
  go_wp2_with fail
  refine (keyInt_any n w2 HN0.out HN1.out).mono ?_
  rintro e w3 ⟨v3, rfl, o3, hb3⟩
  rw [← HK.out] at o3
  obtain ⟨A3, c3, rfl, r3, _⟩ := o3.rdc
  go_wp2_with fail
  refine (keyText_any (some ⟨w1.heap.size, 0, none⟩) _ s w3 ((rd_pre (r2.below hb3)).more hb3.size) (by omega)).mono ?_
  rintro e w4 ⟨v4, rfl, o4, hb4⟩
  rw [← HL.out] at o4
  obtain ⟨A4, c4, rfl, r4, _⟩ := o4.rdc
  go_wp2_with fail
  refine (rkeyInt_any n w4 HN0.out HN1.out).mono ?_
  rintro e w5 ⟨v5, rfl, o5, hb5⟩
  rw [← HK.out] at o5
  obtain ⟨A5, c5, rfl, r5, _⟩ := o5.rdc
  have b24 : Below w2.heap.size w2 w4 := hb3.trans (hb4.mono hb3.size)
  have b25 : Below w2.heap.size w2 w5 := b24.trans (hb5.mono b24.size)
  go_wp2_with fail
  refine (rkeyText_any A c s w5 ((r12.below b25).more b25.size) (by omega)).mono ?_
  rintro e w6 ⟨v6, rfl, o6, hb6⟩
  rw [← HL.out] at o6
  obtain ⟨A6, c6, rfl, r6, _⟩ := o6.rdc
  have b26 : Below w2.heap.size w2 w6 := b25.trans (hb6.mono b25.size)
  go_wp2_with fail
  refine (stays_any w1.heap.size _ c w2.heap.size w2.heap.size A s w6 (r2.below b26) (r12.below b26) (by simp at q2; omega) (by omega)).mono ?_
  rintro e w7 ⟨rfl, nd, rfl⟩
  obtain ⟨w7, hw7⟩ : ∃ w7, w7 = w6.drewN nd := ⟨_, rfl⟩
  have b67 : Below w6.heap.size w6 w7 := by rw [hw7]; exact below_drewN (Below.refl _ _) nd
  rw [← hw7]
  clear hw7
  have b57 : Below w5.heap.size w5 w7 := hb6.trans (b67.mono hb6.size)
  have b47 : Below w4.heap.size w4 w7 := hb5.trans (b57.mono hb5.size)
  have b37 : Below w3.heap.size w3 w7 := hb4.trans (b47.mono hb4.size)
  have b27 : Below w2.heap.size w2 w7 := hb3.trans (b37.mono hb3.size)
  have s3 := str_of (r3.below b37) c3
  have s4 := str_of (r4.below b47) c4
  have s5 := str_of (r5.below b57) c5
  have s6 := str_of (r6.below b67) c6
  go_wp2_with (at_builtin; refine app_bytes _ w7.heap.size _ [] K A3 c3 rfl (.tmp 58) (.tmp 59) rfl rfl rfl (own_made w7) (((r3.below b37).below ((Below.refl w3.heap.size w7).alloc b37.size _)).more (by have := b37.size; simp; omega)) ?e1 ?e2 ?_)
  case e1 => simp; omega
  case e2 => simp
  intro v8 w8 o8 hb8 _
  have b78 : Below w7.heap.size w7 w8 := ((Below.refl w7.heap.size w7).alloc (Nat.le_refl _) _).trans hb8
  have b28 : Below w2.heap.size w2 w8 := b27.trans (b78.mono b27.size)
  have b08 : Below w.heap.size w w8 := b02.trans (b28.mono b02.size)
  go_wp2_with (at_builtin; refine app_bytes _ w7.heap.size _ _ t A' c' rfl (.tmp 60) (.tmp 61) rfl rfl rfl o8 ((HR.out.below b08).more b08.size) ?f1 ?f2 ?_)
  case f1 => omega
  case f2 => exact b78.size
  intro v9 w9 o9 hb9 _
  have o9 : Own w9 w7.heap.size v9 (K ++ t) := by simpa using o9
  rw [← HJ.out] at o9
  obtain ⟨A9, c9, rfl, r9, q9⟩ := o9.rdc
  have b79 : Below w7.heap.size w7 w9 := b78.trans hb9
  have ht := takenKeyInt_any A9 c9 _ J w9 r9 q9
  rw [HKI.out] at ht
  have HT9 := Lib.hid ht
  clear ht
  go_wp2_with fail
  refine HT9.out.mono ?_
  rintro e w10 ⟨rfl, rfl⟩
  have b49 : Below w4.heap.size w4 w9 := b47.trans (b79.mono b47.size)
  have r49 := (r4.below b49).below ((Below.refl w4.heap.size w9).alloc b49.size (.cells #[] 5))
  go_wp2_with (at_builtin; refine app_bytes _ w9.heap.size _ [] L A4 c4 rfl (.tmp 68) (.tmp 69) rfl rfl rfl (own_made w9) (r49.more (by have := b49.size; simp; omega)) ?i1 ?i2 ?_)
  case i1 => simp; omega
  case i2 => simp
  intro v10 w10 o10 hb10 _
  have b910 : Below w9.heap.size w9 w10 := ((Below.refl w9.heap.size w9).alloc (Nat.le_refl _) _).trans hb10
  have b710 : Below w7.heap.size w7 w10 := b79.trans (b910.mono b79.size)
  have b210 : Below w2.heap.size w2 w10 := b27.trans (b710.mono b27.size)
  have b010 : Below w.heap.size w w10 := b02.trans (b210.mono b02.size)
  go_wp2_with (at_builtin; refine app_bytes _ w9.heap.size _ _ t A' c' rfl (.tmp 70) (.tmp 71) rfl rfl rfl o10 ((HR.out.below b010).more b010.size) ?j1 ?j2 ?_)
  case j1 => omega
  case j2 => exact b910.size
  intro v11 w11 o11 hb11 _
  have o11 : Own w11 w9.heap.size v11 (L ++ t) := by simpa using o11
  rw [← HM.out] at o11
  obtain ⟨A11, c11, rfl, r11, q11⟩ := o11.rdc
  have b911 : Below w9.heap.size w9 w11 := b910.trans hb11
  have ht := takenKeyText_any A11 c11 M w11 r11 hMb
  rw [HKT.out] at ht
  have HT11 := Lib.hid ht
  clear ht
  go_wp2_with fail
  refine HT11.out.mono ?_
  rintro e w12 ⟨v12, rfl, o12, hb12⟩
  obtain ⟨A12, c12, rfl, r12', _⟩ := o12.rdc
  have b912 : Below w9.heap.size w9 w12 := b911.trans (hb12.mono b911.size)
  have b712 : Below w7.heap.size w7 w12 := b79.trans (b912.mono b79.size)
  have b412 : Below w4.heap.size w4 w12 := b47.trans (b712.mono b47.size)
  have b312 : Below w3.heap.size w3 w12 := b37.trans (b712.mono b37.size)
  have g3 := World.ownsRow.lt o3
  have g4 := World.ownsRow.lt o4
  have z1 : w3.heap.size ≤ w11.heap.size := Nat.le_trans b37.size (Nat.le_trans b79.size b911.size)
  have z2 : w4.heap.size ≤ w11.heap.size := Nat.le_trans b47.size (Nat.le_trans b79.size b911.size)
  go_wp2_with fail
  refine (spoil_any w2.heap.size _ K w12 (o3.below b312) (Nat.le_trans hb3.size b312.size) (by omega)).mono ?_
  rintro e w13 ⟨⟨x, rfl⟩, hb13, hg13⟩
  have o13 := o12.grown hg13 (fun g hg => by have := (g3 g hg).2; omega)
  have o4' := (o4.below b412).grown hg13 (fun g hg => (g3 g hg).2)
  go_wp2_with fail
  refine (spoil_any w3.heap.size _ L w13 o4' (Nat.le_trans hb4.size (Nat.le_trans b412.size hb13.size)) (by omega)).mono ?_
  rintro e w14 ⟨⟨x', rfl⟩, hb14, hg14⟩
  have o14 := o13.grown hg14 (fun g hg => by have := (g4 g hg).2; omega)
  obtain ⟨A14, c14, h14, r14, _⟩ := o14.rdc
  injection h14 with h14 h14' h14''
  clear h14'
  subst h14 h14''
  have b214 : Below w2.heap.size w2 w14 := ((hb3.trans (b312.mono hb3.size)).trans hb13).trans (hb14.mono hb3.size)
  have s8 := str_of r14 c12
  have s9 := str_of (r12.below b214) c
  go_wp2
  go_ret
  exact ⟨by simp, b02.trans (b214.mono b02.size)⟩
end Go.Proofs.YtaojflmbfigplaaDoor
