/-
  The law WalEncodes.
-/
import Derived.Test.YtfnifpgaieggbaaDoorCopied
import Derived.Test.YtfnifpgaieggbaaDoorRefBody
import Derived.Test.YtfnifpgaieggbaaDoorSameOne
import Derived.Test.YtfnifpgaieggbaaDoorShownW
set_option linter.unusedVariables false
namespace Go.Proofs.YtfnifpgaieggbaaDoor
open Go.RowKit

/-- what Encode's bytes are, none where it refuses -/
noncomputable def encL (seq : Nat) (l : List OpD) : List UInt8 := open Classical in if encE seq l = 0 then batB seq l else []
theorem EncAns.told {seq : Nat} {l : List OpD} {w w' : World} {e : Ending} (h : EncAns seq l w e w') : ∃ A c, e = .returned (.tuple #[.slice A (encL seq l).length c, .int .i64 (encE seq l)]) ∧ Rd w' w'.heap.size A (encL seq l) := by
  obtain ⟨v, rfl, h1, h2⟩ := h
  unfold encL
  by_cases h0 : encE seq l = 0
  · rw [if_pos h0]
    obtain ⟨A, c, rfl, hr⟩ := (h1 h0).rd
    exact ⟨A, c, rfl, hr⟩
  · rw [if_neg h0]
    rw [h2 h0]
    exact ⟨none, 0, rfl, .inl rfl⟩
theorem map_d_len {L : List OV} {l : List OpD} (h : L.map (·.d) = l) : L.length = l.length := by rw [← h]; simp

set_option maxHeartbeats 6400000 in
set_option maxRecDepth 100000 in
theorem law_encodes (sq : Nat) (l : List OpD) (A : Option Addr) (n c : Nat) (w : World) (hn : n = l.length) (hr : OpsRd w w.heap.size A l) (hs : SmallW l) (hq : sq < 18446744073709551616) (hT : Tab w) (h0 : 0 < w.heap.size) :
    Calls Tryd.prog 3 #[.agg #[.int .u64 sq, .slice A n c]] w fun e w' => e = .returned (.bool true) ∧ Below w.heap.size w w' := by
  have hb := below1' w (.cells #[.int .u64 sq, .slice A n c] 25)
  have B0 := Box.new w #[.int .u64 sq, .slice A n c] 25 _ rfl
  have HR := Lib.hid hr
  have HS := Lib.hid hs
  have HN := Lib.hid hn
  have HT := Lib.hid hT
  have H0 := Lib.hid h0
  have HQ := Lib.hid hq
  have HTa : Hid (∀ W, Below w.heap.size w W → Tab W ∧ 0 < W.heap.size) := fun W h => ⟨HT.out.below h H0.out, Nat.lt_of_lt_of_le H0.out h.size⟩
  have HSh := Lib.hid (shown_any (w.alloc (.cells #[.int .u64 sq, .slice A n c] 25)) (HTa.out _ hb).1 (HTa.out _ hb).2)
  obtain ⟨u, hu⟩ : ∃ u, u = w.heap.size := ⟨_, rfl⟩
  rw [← hu] at B0
  clear hr hs hn hT h0 hq
  go_enter Tryd.func3, Tryd.ntmps3
  go_wp2_with fail
  rw [← hu]
  clear hu
  refine HSh.out.mono ?_
  rintro e w1 ⟨rfl, h1⟩
  have hb1 := hb.trans (h1.mono hb.size)
  have B1 := Lib.hid (B0.keep h1)
  obtain ⟨x0, fx0⟩ := B1.out 0 _ rfl
  obtain ⟨x1, fx1⟩ := B1.out 1 _ rfl
  have HCo := Lib.hid (copied_any sq l A n c w1 HN.out ((HR.out.below hb1).more hb1.size) HS.out)
  have HB1 := Lib.hid hb1
  clear h1 hb hb1 B0 HSh
  go_wp2_with fail
  refine HCo.out.mono ?_
  rintro e w2 ⟨A', c', L, rfl, hG, hL, h2⟩
  have hoB := below1' w2 (.cells #[.int .u64 sq, .slice A' n c'] 25)
  have HGL := Lib.hid (And.intro hG hL)
  have O2 := Lib.hid (Box.new w2 #[.int .u64 sq, .slice A' n c'] 25 _ rfl)
  have B2 := Lib.hid ((B1.out.keep h2).keep hoB)
  have HB2 := Lib.hid ((HB1.out.trans (h2.mono HB1.out.size)).trans (hoB.mono (Nat.le_trans HB1.out.size h2.size)))
  have HOP := hG.ops
  rw [hL] at HOP
  have HOw := Lib.hid ((HOP.below hoB).more hoB.size)
  clear x0 x1 fx0 fx1
  have x0 := (B2.out 0 _ rfl).1
  have x1 := (B2.out 1 _ rfl).1
  obtain ⟨W2, hW2⟩ : ∃ x, x = w2.alloc (.cells #[.int .u64 sq, .slice A' n c'] 25) := ⟨_, rfl⟩
  obtain ⟨p, hp⟩ : ∃ p, p = w2.heap.size := ⟨_, rfl⟩
  rw [← hp] at O2
  rw [← hW2] at O2 B2 HB2 HOw
  clear B1 HCo hoB hG hL h2 HOP HB1
  have HE1 := Lib.hid (rencode_any sq l A n c W2 HN.out ((HR.out.below HB2.out).more HB2.out.size) HS.out HQ.out)
  go_wp2_with fail
  rw [← hp, ← hW2]
  clear hW2 hp
  refine HE1.out.mono ?_
  rintro e w3 ⟨ha, h3⟩
  obtain ⟨A3, c3, rfl, rd3⟩ := ha.told
  obtain ⟨EL, hEL⟩ : ∃ x, x = encL sq l := ⟨_, rfl⟩
  obtain ⟨m, hm⟩ : ∃ x, x = EL.length := ⟨_, rfl⟩
  obtain ⟨ee, hee⟩ : ∃ x, x = encE sq l := ⟨_, rfl⟩
  rw [← hEL] at rd3
  rw [← hEL, ← hm, ← hee]
  have HEL := Lib.hid (And.intro hEL (And.intro hm hee))
  have HR3 := Lib.hid rd3
  have HB3 := Lib.hid (HB2.out.trans (h3.mono HB2.out.size))
  have B3 := Lib.hid (B2.out.keep h3)
  have O3 := Lib.hid (O2.out.keep h3)
  have HO3 := Lib.hid ((HOw.out.below h3).more h3.size)
  clear x0 x1 HE1 B2 O2 HOw HB2 h3 ha rd3 hEL hm hee
  obtain ⟨x0, fx0⟩ := O3.out 0 _ rfl
  obtain ⟨x1, fx1⟩ := O3.out 1 _ rfl
  have HE2 := Lib.hid (encode_any sq l A' n c' w3 HN.out HO3.out HS.out HQ.out (HTa.out _ HB3.out).1 (HTa.out _ HB3.out).2)
  go_wp2_with fail
  refine HE2.out.mono ?_
  rintro e w4 ⟨ha, h4⟩
  obtain ⟨A4, c4, rfl, rd4⟩ := ha.told
  rw [← HEL.out.1] at rd4
  rw [← HEL.out.1, ← HEL.out.2.1, ← HEL.out.2.2]
  have HR4 := Lib.hid rd4
  have HR34 := Lib.hid ((HR3.out.below h4).more h4.size)
  have HB4 := Lib.hid (HB3.out.trans (h4.mono HB3.out.size))
  have B4 := Lib.hid (B3.out.keep h4)
  have O4 := Lib.hid (O3.out.keep h4)
  have HO4 := Lib.hid ((HO3.out.below h4).more h4.size)
  have HI4 := Lib.hid ((HR.out.below HB4.out).more HB4.out.size)
  clear x0 x1 fx0 fx1 HE2 B3 O3 HO3 HB3 h4 ha rd4 HR3
  obtain ⟨x0, fx0⟩ := O4.out 0 _ rfl
  obtain ⟨x1, fx1⟩ := O4.out 1 _ rfl
  have B4a := B4.out.keep (below1' w4 (.cells #[.int .u64 sq, .slice A' n c'] 25))
  have y0 := (B4a 0 _ rfl).1
  have y1 := (B4a 1 _ rfl).1
  clear B4a
  obtain ⟨W5, hW5⟩ : ∃ x, x = (w4.alloc (.cells #[.int .u64 sq, .slice A' n c'] 25)).alloc (.cells #[.int .u64 sq, .slice A n c] 25) := ⟨_, rfl⟩
  have hb5 : Below w4.heap.size w4 W5 := by rw [hW5]; exact (below1' w4 _).alloc (by simp) _
  have HB5 := Lib.hid (HB4.out.trans (hb5.mono HB4.out.size))
  have X5 : Hid (Box W5 w4.heap.size [.int .u64 sq, .slice A' n c']) := by
    show Box _ _ _
    rw [hW5]
    exact (Box.new w4 #[.int .u64 sq, .slice A' n c'] 25 _ rfl).keep (below1' _ _)
  have Y5 : Hid (Box W5 (w4.heap.size + 1) [.int .u64 sq, .slice A n c]) := by
    show Box _ _ _
    rw [hW5]
    have h := Box.new (w4.alloc (.cells #[.int .u64 sq, .slice A' n c'] 25)) #[.int .u64 sq, .slice A n c] 25 _ rfl
    rw [show (w4.alloc (.cells #[.int .u64 sq, .slice A' n c'] 25)).heap.size = w4.heap.size + 1 by simp] at h
    exact h
  have HR5 := Lib.hid ((HR4.out.below hb5).more hb5.size)
  have HR53 := Lib.hid ((HR34.out.below hb5).more hb5.size)
  have hln := HN.out
  have SM := same_one sq l A' A w4.heap.size (w4.heap.size + 1) c' c 1 1 W5 ((HO4.out.below hb5).more hb5.size) ((HI4.out.below hb5).more hb5.size) HS.out.n (X5.out 0 _ rfl).1 (by rw [← hln]; exact (X5.out 1 _ rfl).1) (Y5.out 0 _ rfl).1 (by rw [← hln]; exact (Y5.out 1 _ rfl).1)
  have HSM := Lib.hid SM
  clear SM hb5 hln
  go_wp2_with fail
  rw [← hW5]
  clear hW5
  refine HSM.out.mono ?_
  rintro e w6 ⟨rfl, h6⟩
  have HB6 := Lib.hid (HB5.out.trans (h6.mono HB5.out.size))
  have S4 := str_of (HR5.out.below h6) c4
  have S3 := str_of (HR53.out.below h6) c3
  rw [← HEL.out.2.1] at S3 S4
  clear x0 x1 y0 y1 fx0 fx1 h6 HSM
  go_wp2
  go_ret
  exact ⟨rfl, HB6.out⟩
end Go.Proofs.YtfnifpgaieggbaaDoor
