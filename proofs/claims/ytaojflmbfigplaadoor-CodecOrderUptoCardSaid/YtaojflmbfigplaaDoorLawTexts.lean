/-
  The walk of the law CodecTexts.
-/
import Derived.Test.YtaojflmbfigplaaDoorTakeText
namespace Go.Proofs.YtaojflmbfigplaaDoor
open Go.RowKit

theorem Own.rdc {w : World} {base : Nat} {v : Value} {l : List UInt8} (h : Own w base v l) : ∃ A c, v = .slice A l.length c ∧ Rd w w.heap.size A l ∧ l.length ≤ c := by
  obtain ⟨A, c, rfl, hr⟩ := h.rd
  refine ⟨A, c, rfl, hr, ?_⟩
  rcases h.2 with ⟨he, _⟩ | ⟨g, cap, cur, he, _, _, hnc, _⟩
  · injection he with _ h1 h2; omega
  · injection he with _ h1 h2; omega

theorem tt_text {s : List UInt8} (hs : s.length ≤ 2097152) (rest : List UInt8) : tt (num s.length ++ s ++ rest) = (s, (num s.length ++ s).length, 0) := by
  have h := tn_num (n := s.length) (by omega) (s ++ rest)
  rw [← List.append_assoc] at h
  unfold tt
  rw [h]
  simp only [ne_eq, not_true_eq_false, if_false]
  rw [if_neg (by omega), if_neg (by simp), List.append_assoc, List.drop_left, List.take_left]
  simp

set_option maxHeartbeats 1600000 in
set_option maxRecDepth 100000 in
theorem law_texts_long (A A' : Option Addr) (c c' : Nat) (s : List UInt8) (n' : Nat) (w : World) (hs : Rd w w.heap.size A s) (ls : s.length ≤ 140737488351232) (hlong : 2097152 < s.length)
    (hT : Tab w) (h0 : 0 < w.heap.size) :
    Calls Tryd.prog 5 #[.slice A s.length c, .slice A' n' c'] w fun e w' => e = .returned (.bool true) ∧ Below w.heap.size w w' := by
  have HS := Lib.hid hs
  have HTab := Lib.hid hT
  clear hs hT
  go_enter Tryd.func5, Tryd.ntmps5
  go_wp2_with fail
  refine (shown_any w HTab.out h0).mono ?_
  rintro e w1 ⟨rfl, hb1⟩
  have r1 := (HS.out.below hb1).more hb1.size
  go_wp2_with fail
  refine (lent_any A c s w1 r1 ls).mono ?_
  rintro e w2 ⟨rfl, o2, hb2⟩
  go_wp2_with fail
  refine (rtext_long A c s.length w2 hlong).mono ?_
  rintro e w3 ⟨rfl, rfl⟩
  go_wp2_with fail
  refine (text_long _ _ s.length w2 hlong).mono ?_
  rintro e w3 ⟨rfl, rfl⟩
  go_wp2_with fail
  obtain ⟨A2, c2, h2, r2, q2⟩ := o2.rdc
  injection h2 with h2 h4 h3
  clear h4
  subst h2 h3
  refine (stays_any w1.heap.size _ c w2.heap.size w1.heap.size A s w2 r2 (r1.below hb2) (by simp at q2; omega) ls).mono ?_
  rintro e w3 ⟨rfl, n, rfl⟩
  have s0 : (convert 23 9 (.slice none 0 0)).run Tryd.prog (w2.drewN n) = .ok (.string ⟨#[]⟩) (w2.drewN n) := str_of (B := 0) (l := []) (.inl rfl) 0
  go_wp2
  go_ret
  exact ⟨rfl, below_drewN (hb1.trans (hb2.mono hb1.size)) n⟩

set_option maxHeartbeats 1600000 in
set_option maxRecDepth 100000 in
theorem law_texts_ok (A A' : Option Addr) (c c' : Nat) (s t : List UInt8) (w : World) (hs : Rd w w.heap.size A s) (ht : Rd w w.heap.size A' t) (lt : t.length ≤ 140737488351232) (hok : s.length ≤ 2097152)
    (hT : Tab w) (h0 : 0 < w.heap.size) :
    Calls Tryd.prog 5 #[.slice A s.length c, .slice A' t.length c'] w fun e w' => e = .returned (.bool true) ∧ Below w.heap.size w w' := by
  have HS := Lib.hid hs
  have HR := Lib.hid ht
  have HTab := Lib.hid hT
  have hnl := num_len s.length
  have HTT := Lib.hid (tt_text hok t)
  obtain ⟨L, hL⟩ : ∃ L, L = num s.length ++ s := ⟨_, rfl⟩
  rw [← hL] at HTT
  have hLl : L.length = (num s.length).length + s.length := by rw [hL]; simp
  have hLb : L.length ≤ 2097162 := by omega
  have HLL := Lib.hid hLl
  have HL := Lib.hid hL
  obtain ⟨M, hM⟩ : ∃ M, M = L ++ t := ⟨_, rfl⟩
  rw [← hM] at HTT
  have hMb : M.length ≤ 225179981367000 := by rw [hM]; simp; omega
  have HM := Lib.hid hM
  clear hs ht hT hL hLl hM
  go_enter Tryd.func5, Tryd.ntmps5
  go_wp2_with fail
  refine (shown_any w HTab.out h0).mono ?_
  rintro e w1 ⟨rfl, hb1⟩
  have r1 := (HS.out.below hb1).more hb1.size
  go_wp2_with fail
  refine (lent_any A c s w1 r1 (by omega)).mono ?_
  rintro e w2 ⟨rfl, o2, hb2⟩
  obtain ⟨A2, c2, h2, r2, q2⟩ := o2.rdc
  injection h2 with h2 h4 h3
  clear h4
  subst h2 h3
  have r12 := (r1.below hb2).more hb2.size
  go_wp2_with fail
  refine (rtext_ok A c s w2 r12 hok).mono ?_
  rintro e w3 ⟨v3, rfl, o3, hb3⟩
  rw [← HL.out] at o3
  obtain ⟨A3, c3, rfl, r3, _⟩ := o3.rdc
  go_wp2_with fail
  refine (text_ok (some ⟨w1.heap.size, 0, none⟩) _ s w3 ((rd_pre (r2.below hb3)).more hb3.size) hok).mono ?_
  rintro e w4 ⟨v4, rfl, o4, hb4⟩
  rw [← HL.out] at o4
  obtain ⟨A4, c4, rfl, r4, _⟩ := o4.rdc
  have b24 : Below w2.heap.size w2 w4 := hb3.trans (hb4.mono hb3.size)
  go_wp2_with fail
  refine (stays_any w1.heap.size _ c w2.heap.size w2.heap.size A s w4 (r2.below b24) (r12.below b24) (by simp at q2; omega) (by omega)).mono ?_
  rintro e w5 ⟨rfl, n, rfl⟩
  have s3 := str_of ((r3.below hb4).drewN n) c3
  have s4 := str_of (r4.drewN n) c4
  obtain ⟨w5, hw5⟩ : ∃ w5, w5 = w4.drewN n := ⟨_, rfl⟩
  have b45 : Below w4.heap.size w4 w5 := by rw [hw5]; exact below_drewN (Below.refl _ _) n
  rw [← hw5] at s3 s4
  rw [← hw5]
  clear hw5
  have r5 := (r4.below b45).more b45.size
  have b25 : Below w2.heap.size w2 w5 := b24.trans (b45.mono b24.size)
  go_wp2_with (at_builtin; refine app_bytes _ w5.heap.size _ [] L A4 c4 rfl (.tmp 55) (.tmp 56) rfl rfl rfl (own_made w5) ((r5.below ((Below.refl _ _).alloc (Nat.le_refl _) _)).more (by simp)) ?e1 ?e2 ?_)
  case e1 => simp; omega
  case e2 => simp
  intro v6 w6 o6 hb6 _
  obtain ⟨A6, c6, rfl, r6, _⟩ := o6.rdc
  have b56 : Below w5.heap.size w5 w6 := ((Below.refl w5.heap.size w5).alloc (Nat.le_refl _) _).trans hb6
  have b02 : Below w.heap.size w w2 := hb1.trans (hb2.mono hb1.size)
  have b06 : Below w.heap.size w w6 := (b02.trans (b25.mono b02.size)).trans (b56.mono (Nat.le_trans b02.size b25.size))
  go_wp2_with (at_builtin; refine app_bytes _ w5.heap.size _ _ t A' c' rfl (.tmp 57) (.tmp 58) rfl rfl rfl o6 ((HR.out.below b06).more b06.size) ?f1 ?f2 ?_)
  case f1 => omega
  case f2 => exact b56.size
  intro v7 w7 o7 hb7 _
  rw [← HM.out] at o7
  obtain ⟨A7, c7, rfl, r7, q7⟩ := o7.rdc
  have b57 : Below w5.heap.size w5 w7 := b56.trans hb7
  have ht := takenText_any A7 c7 M w7 r7 hMb q7
  rw [HTT.out] at ht
  have HTK := Lib.hid ht
  clear ht
  go_wp2_with fail
  refine HTK.out.mono ?_
  rintro e w8 ⟨v8, rfl, o8, hb8⟩
  obtain ⟨A8, c8, rfl, r8, _⟩ := o8.rdc
  have b58 : Below w5.heap.size w5 w8 := b57.trans (hb8.mono b57.size)
  have b48 : Below w4.heap.size w4 w8 := b45.trans (b58.mono b45.size)
  go_wp2_with fail
  refine (spoil_any w3.heap.size _ L w8 (o4.below b48) (Nat.le_trans hb4.size b48.size) (by omega)).mono ?_
  rintro e w9 ⟨⟨x, rfl⟩, hb9, hg9⟩
  have g4 := World.ownsRow.lt o4
  have z47 : w4.heap.size ≤ w7.heap.size := Nat.le_trans b45.size b57.size
  have o9 := o8.grown hg9 (fun g hg => by have := (g4 g hg).2; omega)
  obtain ⟨A9, c9, h9, r9, _⟩ := o9.rdc
  injection h9 with h9 h9' h9''
  clear h9'
  subst h9 h9''
  have b39 : Below w3.heap.size w3 w9 := (hb4.trans (b48.mono hb4.size)).trans hb9
  have b29 : Below w2.heap.size w2 w9 := hb3.trans (b39.mono hb3.size)
  have s8 := str_of r9 c8
  have s9 := str_of (r12.below b29) c
  go_wp2
  go_ret
  exact ⟨by simp, b02.trans (b29.mono b02.size)⟩

theorem law_texts (A A' : Option Addr) (c c' : Nat) (s t : List UInt8) (w : World) (hs : Rd w w.heap.size A s) (ht : Rd w w.heap.size A' t) (ls : s.length ≤ 140737488351232) (lt : t.length ≤ 140737488351232)
    (hT : Tab w) (h0 : 0 < w.heap.size) :
    Calls Tryd.prog 5 #[.slice A s.length c, .slice A' t.length c'] w fun e w' => e = .returned (.bool true) ∧ Below w.heap.size w w' := by
  by_cases h : s.length ≤ 2097152
  · exact law_texts_ok A A' c c' s t w hs ht lt h hT h0
  · exact law_texts_long A A' c c' s t.length w hs ls (by omega) hT h0
end Go.Proofs.YtaojflmbfigplaaDoor
