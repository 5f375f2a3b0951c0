/-
  The law's shown: the document's example.
-/
import Derived.Test.YtfnifpgaieggbaaDoorShownP
set_option linter.unusedVariables false
namespace Go.Proofs.YtfnifpgaieggbaaDoor
open Go.RowKit

set_option maxHeartbeats 3200000 in
set_option maxRecDepth 100000 in
theorem shown_any (w : World) (hT : Tab w) (h0 : 0 < w.heap.size) :
    Calls Tryd.prog 6 #[] w fun e w' => e = .returned (.bool true) ∧ Below w.heap.size w w' := by
  obtain ⟨Wa, hWa⟩ : ∃ x, x = w.alloc (.cells #[.int .u8 97] 5 (1, 2)) := ⟨_, rfl⟩
  obtain ⟨Wb, hWb⟩ : ∃ x, x = Wa.alloc (.cells #[.int .u8 120] 5 (1, 2)) := ⟨_, rfl⟩
  obtain ⟨Wc, hWc⟩ : ∃ x, x = Wb.alloc (.cells #[.int .u8 98] 5 (1, 2)) := ⟨_, rfl⟩
  have sa : Wa.heap.size = w.heap.size + 1 := by rw [hWa]; simp
  have sb : Wb.heap.size = w.heap.size + 1 + 1 := by rw [hWb]; simp [sa]
  have sc : Wc.heap.size = w.heap.size + 1 + 1 + 1 := by rw [hWc]; simp [sb]
  obtain ⟨Wd, hWd⟩ : ∃ x, x = Wc.alloc (.cells #[.bool false, .slice (some ⟨w.heap.size, 0, none⟩) 1 1, .slice (some ⟨w.heap.size + 1, 0, none⟩) 1 1, .bool true, .slice (some ⟨w.heap.size + 1 + 1, 0, none⟩) 1 1, .slice none 0 0] 43) := ⟨_, rfl⟩
  have ba : Below w.heap.size w Wa := by rw [hWa]; exact below1' _ _
  have bb : Below Wa.heap.size Wa Wb := by rw [hWb]; exact below1' _ _
  have bc' : Below Wb.heap.size Wb Wc := by rw [hWc]; exact below1' _ _
  have bd : Below Wc.heap.size Wc Wd := by rw [hWd]; exact below1' _ _
  have bbd := (bb.trans (bc'.mono bb.size)).trans (bd.mono (bb.trans (bc'.mono bb.size)).size)
  have bcd := bc'.trans (bd.mono bc'.size)
  have bwd := ba.trans (bbd.mono ba.size)
  have ra : Rd Wa Wa.heap.size (some ⟨w.heap.size, 0, none⟩) [97] := by have := rd_mark w [97] #[.int .u8 97] (1, 2) rfl; rw [← hWa] at this; rw [sa]; exact this
  have rb : Rd Wb Wb.heap.size (some ⟨w.heap.size + 1, 0, none⟩) [120] := by have := rd_mark Wa [120] #[.int .u8 120] (1, 2) rfl; rw [← hWb, sa] at this; rw [sb]; exact this
  have rc : Rd Wc Wc.heap.size (some ⟨w.heap.size + 1 + 1, 0, none⟩) [98] := by have := rd_mark Wb [98] #[.int .u8 98] (1, 2) rfl; rw [← hWc, sb] at this; rw [sc]; exact this
  have C := fun (j : Nat) (x : Value) (h : (#[.bool false, .slice (some ⟨w.heap.size, 0, none⟩) 1 1, .slice (some ⟨w.heap.size + 1, 0, none⟩) 1 1, .bool true, .slice (some ⟨w.heap.size + 1 + 1, 0, none⟩) 1 1, .slice none 0 0] : Array Value)[j]? = some x) => Cell.new Wc #[.bool false, .slice (some ⟨w.heap.size, 0, none⟩) 1 1, .slice (some ⟨w.heap.size + 1, 0, none⟩) 1 1, .bool true, .slice (some ⟨w.heap.size + 1 + 1, 0, none⟩) 1 1, .slice none 0 0] 43 j x h
  rw [← hWd, sc] at C
  have HO : OpsRd Wd Wd.heap.size (some ⟨w.heap.size + 1 + 1 + 1, 0, none⟩) ops0 := by
    refine .inr ⟨_, 0, rfl, by have := bd.size; have := (C 0 _ rfl).lt; omega, fun i hi => ?_⟩
    have hi2 : i = 0 ∨ i = 1 := by simp [ops0] at hi; omega
    rcases hi2 with rfl | rfl
    · exact ⟨_, 1, _, 1, (C 0 _ rfl).1, (C 1 _ rfl).1, (C 2 _ rfl).1, (ra.below bbd).more bbd.size, (rb.below bcd).more bcd.size⟩
    · exact ⟨_, 1, none, 0, (C 3 _ rfl).1, (C 4 _ rfl).1, (C 5 _ rfl).1, (rc.below bd).more bd.size, Rd.nil_ _ _ _⟩
  have EN := encode_any 1 ops0 (some ⟨w.heap.size + 1 + 1 + 1, 0, none⟩) 2 2 Wd rfl HO small0.w (by decide) (hT.below bwd h0) (Nat.lt_of_lt_of_le h0 bwd.size)
  have HEN := Lib.hid EN
  have HT := Lib.hid hT
  have H0 := Lib.hid h0
  have HBD := Lib.hid bwd
  have HWD : Hid (Wd = (((w.alloc (.cells #[.int .u8 97] 5 (1, 2))).alloc (.cells #[.int .u8 120] 5 (1, 2))).alloc (.cells #[.int .u8 98] 5 (1, 2))).alloc (.cells #[.bool false, .slice (some ⟨w.heap.size, 0, none⟩) 1 1, .slice (some ⟨w.heap.size + 1, 0, none⟩) 1 1, .bool true, .slice (some ⟨w.heap.size + 1 + 1, 0, none⟩) 1 1, .slice none 0 0] 43)) := by show _ = _; rw [hWd, hWc, hWb, hWa]
  clear EN HO C ra rb rc ba bb bc' bd bbd bcd bwd sa sb sc hWa hWb hWc hWd hT h0
  have kc := fun (w : World) (C : Array Value) (n c : Nat) => Lib.run_convert_bytes_const (P := Tryd.prog) w 28 5 C n c Tryd.underlying28 Tryd.underlying5
  have kc2 := kc (w.alloc (.cells #[.int .u8 97] 5 (1, 2))) #[.int .u8 120] 1 1
  have kc3 := kc ((w.alloc (.cells #[.int .u8 97] 5 (1, 2))).alloc (.cells #[.int .u8 120] 5 (1, 2))) #[.int .u8 98] 1 1
  have z2 : (w.alloc (.cells #[.int .u8 97] 5 (1, 2))).heap.size = w.heap.size + 1 := by simp
  have z3 : ((w.alloc (.cells #[.int .u8 97] 5 (1, 2))).alloc (.cells #[.int .u8 120] 5 (1, 2))).heap.size = w.heap.size + 1 + 1 := by simp
  rw [z2] at kc2
  rw [z3] at kc3
  clear z2 z3
  go_enter Tryd.func6, Tryd.ntmps6
  go_wp2_with fail
  rw [← HWD.out]
  refine HEN.out.mono ?_
  rintro e w1 ⟨⟨v, rfl, hok, _⟩, h1⟩
  have hE0 : encE 1 ops0 = 0 := encE_zero.2 enc0
  rw [hE0]
  have hO := hok hE0
  have hb1 := HBD.out.trans (h1.mono HBD.out.size)
  obtain ⟨vA, vc, rfl, hrd, hvc⟩ := hO.rdc
  have HRD := Lib.hid hrd
  have h16 : (batB 1 ops0).length = 16 := bat0_len
  obtain ⟨g, c', he, hg⟩ := hO.shape (by rw [h16]; decide)
  injection he with he1 he2 he3
  subst he1
  obtain ⟨S, hS⟩ := bat0
  have x0 : w1.cell? ⟨g, 0, none⟩ = some (.int .u8 66) := by
    have h := hO.cell 0 (by rw [h16]; decide)
    have e : (batB 1 ops0)[0]'(by rw [h16]; decide) = 66 := by simp only [hS, List.getElem_cons_zero]
    rw [e] at h
    exact h
  have x1 : w1.cell? ⟨g, 1, none⟩ = some (.int .u8 10) := by
    have h := hO.cell 1 (by rw [h16]; decide)
    have e : (batB 1 ops0)[1]'(by rw [h16]; decide) = 10 := by simp only [hS, List.getElem_cons_succ, List.getElem_cons_zero]
    rw [e] at h
    exact h
  rw [h16] at hvc
  rw [h16]
  obtain ⟨A6, hrun6, rd6⟩ := cut1_run (n := 16) (c := vc) (k := 6) h16.symm hrd (by omega) (by omega)
  rw [bat0_drop] at rd6
  have s6 := str_of rd6 (vc - 6)
  replace hrun6 : ∀ W' : World, (Instr.slice 28 (.slice (some ⟨g, 0, none⟩) 16 vc) (some (.int .i64 6)) none none).run Tryd.prog W' = .ok (.slice A6 10 (vc - 6)) W' := fun W' => hrun6 W'
  replace s6 : (convert 28 9 (.slice A6 10 (vc - 6))).run Tryd.prog w1 = .ok (.string ⟨#[1, 2, 0, 1, 97, 1, 120, 1, 1, 98]⟩) w1 := s6
  have HB1 := Lib.hid hb1
  have HS16 := Lib.hid h16
  obtain ⟨bb, hbb⟩ : ∃ x, x = batB 1 ops0 := ⟨_, rfl⟩
  have HBB := Lib.hid hbb
  rw [← hbb] at HRD HS16
  have hd1 := Lib.hid (below1' w1 (.cells #[] 5))
  clear rd6 hS hO hrd hok h1 hb1 h16 hbb HEN HWD hE0 he2 he3 hg
  go_wp2_with (at_builtin; refine app_bytes_at (w1.alloc (.cells #[] 5)) w1.heap.size (.slice (some ⟨w1.heap.size, 0, none⟩) 0 0) [] bb (some ⟨g, 0, none⟩) 16 vc HS16.out.symm rfl (.tmp 50) (.tmp 51) rfl rfl rfl (own_made w1) ((HRD.out.below hd1.out).more hd1.out.size) (by have := HS16.out; simp; omega) (by simp) ?_)
  intro v2 w2 o2 h2 _
  have hb2 := HB1.out.trans (((below1' w1 (.cells #[] 5)).trans (h2.mono (Nat.le_refl _))).mono HB1.out.size)
  have HB2 := Lib.hid hb2
  have HO2 := Lib.hid (Own.mono o2 (Nat.le_trans HB1.out.size (Nat.le_refl _)))
  clear o2 h2 hb2 hd1 x0 x1 hrun6 s6 HRD HB1
  have hd2 := Lib.hid (HB2.out.alloc HB2.out.size (.cells #[.int .u8 66, .int .u8 3] 5))
  go_wp2_with (at_builtin; refine app_bytes_at (w2.alloc (.cells #[.int .u8 66, .int .u8 3] 5)) w.heap.size v2 bb [66, 3] (some ⟨w2.heap.size, 0, none⟩) 2 2 rfl rfl (.tmp 52) (.tmp 53) rfl rfl rfl (HO2.out.alloc _) ((rd_lit w2 [66, 3] _ rfl).more (by simp)) (by have := HS16.out; simp; omega) hd2.out.size ?_)
  intro v3 w3 o3 h3 _
  have HB3 := Lib.hid (hd2.out.trans h3)
  obtain ⟨A3, c3, rfl, r3, hc3⟩ := o3.rdc
  have l3 : (bb ++ [66, 3]).length = 18 := by rw [List.length_append, HS16.out]; rfl
  rw [l3] at hc3
  rw [l3]
  have RP := replay_any (bb ++ [66, 3]) A3 18 c3 w3 l3.symm r3 (by rw [l3]; decide) (by rw [l3]; exact hc3) (HT.out.below HB3.out H0.out) (Nat.lt_of_lt_of_le H0.out HB3.out.size)
  rw [HBB.out, repl0] at RP
  have HRP := Lib.hid RP
  clear o3 h3 l3 r3 RP hd2 HO2 HB2 HS16 HBB hc3
  go_wp2_with fail
  refine HRP.out.mono ?_
  rintro e w4 ⟨⟨A4, c4, rfl⟩, h4⟩
  have HB4 := Lib.hid (HB3.out.trans (h4.mono HB3.out.size))
  clear HRP h4 HB3
  go_wp2_with fail
  refine (encode_any 1 [] none 0 0 w4 rfl (.inl rfl) ⟨by decide, (fun o h => nomatch h), (fun o h => nomatch h)⟩ (by decide) (HT.out.below HB4.out H0.out) (Nat.lt_of_lt_of_le H0.out HB4.out.size)).mono ?_
  rintro e w5 ⟨⟨v5, rfl, _, h5n⟩, h5⟩
  have e60 : encE 1 [] = 60 := by
    unfold encE
    rw [if_pos]
    rintro ⟨h, _⟩
    simp at h
  rw [e60] at h5n ⊢
  have HB5 := Lib.hid (HB4.out.trans (h5.mono HB4.out.size))
  clear h5 h5n e60 HB4
  go_wp2
  go_ret
  exact ⟨rfl, HB5.out⟩
end Go.Proofs.YtfnifpgaieggbaaDoor
