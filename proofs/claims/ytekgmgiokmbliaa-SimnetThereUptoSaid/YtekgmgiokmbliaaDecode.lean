/-
  The contract of Decode.
-/
import Derived.Test.YtekgmgiokmbliaaBack4
import Derived.Test.YtekgmgiokmbliaaEqual
import Derived.Test.YtekgmgiokmbliaaEncOk
import Derived.Test.YtekgmgiokmbliaaKeep
set_option linter.unusedVariables false
namespace Go.Proofs.Ytekgmgiokmbliaa
open Go.RowKit

set_option maxHeartbeats 6400000 in
set_option maxRecDepth 100000 in
theorem decode_gen (b : List UInt8) (A : Option Addr) (c : Nat) (w : World) (h : Rd w w.heap.size A b) (hl : b.length ≤ 140737488351232) (hsm : Small (pmsg (b, false)).1) (hc : b.length ≤ c) (hc2 : c ≤ 9223372036854775807) (hA : A = none → c = 0) :
    Calls Try.prog 27 #[.slice A b.length c] w fun e w' => ((∃ m a, decB b = some m ∧ e = .returned (.tuple #[msgV m a, .int .i64 0]) ∧ MRd w' w'.heap.size m a) ∨ (decB b = none ∧ e = .returned (.tuple #[.agg #[.int .i64 0, .int .i64 0, .int .i64 0, .int .i64 0, .int .i64 0, .int .i64 0, .int .i64 0, .int .i64 0, .bool false, .slice none 0 0, .slice none 0 0, .slice none 0 0], .int .i64 92]))) ∧ Below w.heap.size w w' := by
  have hb1 := below1' w (.cells #[.int .i64 0, .int .i64 0, .int .i64 0, .int .i64 0, .int .i64 0, .int .i64 0, .int .i64 0, .int .i64 0, .bool false, .slice none 0 0, .slice none 0 0, .slice none 0 0] 51)
  have R := fun (j : Nat) (x : Value) (h : (#[.int .i64 0, .int .i64 0, .int .i64 0, .int .i64 0, .int .i64 0, .int .i64 0, .int .i64 0, .int .i64 0, .bool false, .slice none 0 0, .slice none 0 0, .slice none 0 0] : Array Value)[j]? = some x) => Cell.new w #[.int .i64 0, .int .i64 0, .int .i64 0, .int .i64 0, .int .i64 0, .int .i64 0, .int .i64 0, .int .i64 0, .bool false, .slice none 0 0, .slice none 0 0, .slice none 0 0] 51 j x h
  have R0 := R 0 (.int .i64 0) rfl
  have R1 := R 1 (.int .i64 0) rfl
  have R2 := R 2 (.int .i64 0) rfl
  have R3 := R 3 (.int .i64 0) rfl
  have R4 := R 4 (.int .i64 0) rfl
  have R5 := R 5 (.int .i64 0) rfl
  have R6 := R 6 (.int .i64 0) rfl
  have R7 := R 7 (.int .i64 0) rfl
  have R8 := R 8 (.bool false) rfl
  have R9 := R 9 (.slice none 0 0) rfl
  have R10 := R 10 (.slice none 0 0) rfl
  have R11 := R 11 (.slice none 0 0) rfl
  have hsz : (w.alloc (.cells #[.int .i64 0, .int .i64 0, .int .i64 0, .int .i64 0, .int .i64 0, .int .i64 0, .int .i64 0, .int .i64 0, .bool false, .slice none 0 0, .slice none 0 0, .slice none 0 0] 51)).heap.size = w.heap.size + 1 := by simp
  have hb2 := below1' (w.alloc (.cells #[.int .i64 0, .int .i64 0, .int .i64 0, .int .i64 0, .int .i64 0, .int .i64 0, .int .i64 0, .int .i64 0, .bool false, .slice none 0 0, .slice none 0 0, .slice none 0 0] 51)) (.cells #[.slice A b.length c, .bool false] 78)
  have HG0 : RdrAt ((w.alloc (.cells #[.int .i64 0, .int .i64 0, .int .i64 0, .int .i64 0, .int .i64 0, .int .i64 0, .int .i64 0, .int .i64 0, .bool false, .slice none 0 0, .slice none 0 0, .slice none 0 0] 51)).alloc (.cells #[.slice A b.length c, .bool false] 78)) (w.alloc (.cells #[.int .i64 0, .int .i64 0, .int .i64 0, .int .i64 0, .int .i64 0, .int .i64 0, .int .i64 0, .int .i64 0, .bool false, .slice none 0 0, .slice none 0 0, .slice none 0 0] 51)).heap.size (w.alloc (.cells #[.int .i64 0, .int .i64 0, .int .i64 0, .int .i64 0, .int .i64 0, .int .i64 0, .int .i64 0, .int .i64 0, .bool false, .slice none 0 0, .slice none 0 0, .slice none 0 0] 51)).heap.size (b, false) :=
    ⟨⟨A, c, Cell.new _ _ _ 0 _ rfl, hc, hc2, ((h.below hb1).more (by simp)).below (below1' _ _), hA⟩, Cell.new _ _ _ 1 _ rfl, Nat.le_refl _⟩
  replace R0 := R0.keep hb2
  replace R1 := R1.keep hb2
  replace R2 := R2.keep hb2
  replace R3 := R3.keep hb2
  replace R4 := R4.keep hb2
  replace R5 := R5.keep hb2
  replace R6 := R6.keep hb2
  replace R7 := R7.keep hb2
  replace R8 := R8.keep hb2
  replace R9 := R9.keep hb2
  replace R10 := R10.keep hb2
  replace R11 := R11.keep hb2
  rw [hsz] at HG0
  have HRD := Lib.hid h
  have CO := Lib.hid (dmessage_any (w.heap.size + 1) _ (b, false) _ HG0 hl hsm.sm)
  have HB0 := Lib.hid (hb1.alloc (by simp) (.cells #[.slice A b.length c, .bool false] 78))
  have HSZ : Hid (((w.alloc (.cells #[.int .i64 0, .int .i64 0, .int .i64 0, .int .i64 0, .int .i64 0, .int .i64 0, .int .i64 0, .int .i64 0, .bool false, .slice none 0 0, .slice none 0 0, .slice none 0 0] 51)).alloc (.cells #[.slice A b.length c, .bool false] 78)).heap.size = w.heap.size + 2) := by show _ = _; simp
  obtain ⟨m, hm⟩ : ∃ x, x = (pmsg (b, false)).1 := ⟨_, rfl⟩
  obtain ⟨t, ht⟩ : ∃ x, x = (pmsg (b, false)).2 := ⟨_, rfl⟩
  have HSM : Hid (Small m) := by show Small m; rw [hm]; exact hsm
  have HDN : Hid (¬ (t = ([], false) ∧ RightP m ∧ encB m = b) → decB b = none) := by show _ → _; rw [hm, ht]; intro h; unfold decB; rw [if_neg h]
  clear h R hb1 hb2 HG0 hsz
  go_enter Try.func27, Try.ntmps27
  go_wp2_with fail
  refine CO.out.mono ?_
  rintro e w3 ⟨a, rfl, M3, S3, O3⟩
  rw [← ht] at S3
  rw [← hm] at M3 ⊢
  clear hm ht
  rw [show msgV m a = .agg #[.int .i64 m.kind, .int .i64 m.group, .int .i64 m.frm, .int .i64 m.dst, .int .i64 m.term, .int .i64 m.index, .int .i64 m.logTerm, .int .i64 m.commit, .bool m.ok, .slice a.e m.entries.length a.ec, .slice a.m m.members.length a.mc, .slice a.d m.data.length a.dc] from rfl]
  have HO3 := Lib.hid (HB0.out.trans (O3.below (B := w.heap.size) (by omega) HB0.out.size))
  have hgl := O3.size
  rw [HSZ.out] at hgl
  have MR := Lib.hid M3.rd
  replace R0 := R0.only O3 (by omega)
  replace R1 := R1.only O3 (by omega)
  replace R2 := R2.only O3 (by omega)
  replace R3 := R3.only O3 (by omega)
  replace R4 := R4.only O3 (by omega)
  replace R5 := R5.only O3 (by omega)
  replace R6 := R6.only O3 (by omega)
  replace R7 := R7.only O3 (by omega)
  replace R8 := R8.only O3 (by omega)
  replace R9 := R9.only O3 (by omega)
  replace R10 := R10.only O3 (by omega)
  replace R11 := R11.only O3 (by omega)
  have hb4 := below1' w3 (.cells #[.int .i64 m.kind, .int .i64 m.group, .int .i64 m.frm, .int .i64 m.dst, .int .i64 m.term, .int .i64 m.index, .int .i64 m.logTerm, .int .i64 m.commit, .bool m.ok, .slice a.e m.entries.length a.ec, .slice a.m m.members.length a.mc, .slice a.d m.data.length a.dc] 51)
  have S4 := S3.below hb4
  have HB4 := Lib.hid (HO3.out.alloc (by have := HO3.out.size; omega) (.cells #[.int .i64 m.kind, .int .i64 m.group, .int .i64 m.frm, .int .i64 m.dst, .int .i64 m.term, .int .i64 m.index, .int .i64 m.logTerm, .int .i64 m.commit, .bool m.ok, .slice a.e m.entries.length a.ec, .slice a.m m.members.length a.mc, .slice a.d m.data.length a.dc] 51))
  have HM4 := Lib.hid (M3.keep hb4)
  have MR4 := Lib.hid ((M3.rd.below hb4).more hb4.size)
  replace R0 := R0.keep hb4
  replace R1 := R1.keep hb4
  replace R2 := R2.keep hb4
  replace R3 := R3.keep hb4
  replace R4 := R4.keep hb4
  replace R5 := R5.keep hb4
  replace R6 := R6.keep hb4
  replace R7 := R7.keep hb4
  replace R8 := R8.keep hb4
  replace R9 := R9.keep hb4
  replace R10 := R10.keep hb4
  replace R11 := R11.keep hb4
  have hr4 : w.heap.size < (w3.alloc (.cells #[.int .i64 m.kind, .int .i64 m.group, .int .i64 m.frm, .int .i64 m.dst, .int .i64 m.term, .int .i64 m.index, .int .i64 m.logTerm, .int .i64 m.commit, .bool m.ok, .slice a.e m.entries.length a.ec, .slice a.m m.members.length a.mc, .slice a.d m.data.length a.dc] 51)).heap.size := by exact R0.lt
  have HBZ := Lib.hid (HB4.out.trans (Only.below (B := w.heap.size) (((((((((((((Only.refl w.heap.size _).set1 0 (.int .i64 0)).set1 1 (.int .i64 0)).set1 2 (.int .i64 0)).set1 3 (.int .i64 0)).set1 4 (.int .i64 0)).set1 5 (.int .i64 0)).set1 6 (.int .i64 0)).set1 7 (.int .i64 0)).set1 8 (.bool false)).set1 9 (.slice none 0 0)).set1 10 (.slice none 0 0)).set1 11 (.slice none 0 0)) (Nat.le_refl _) (Nat.le_of_lt hr4)))
  obtain ⟨t1, t2⟩ := t
  obtain ⟨A4, c4, Q0, _⟩ := S4.at_
  have Q1 := S4.bad
  simp only at Q0 Q1
  have MOVE := fun (_ : Unit) => True.intro
  clear hb4 S3 S4 O3 M3 CO MOVE
  obtain ⟨q0, fq0⟩ := Q0
  obtain ⟨q1, fq1⟩ := Q1
  cases t2
  case true =>
    obtain ⟨r0, fr0⟩ := R0
    obtain ⟨r1, fr1⟩ := R1
    obtain ⟨r2, fr2⟩ := R2
    obtain ⟨r3, fr3⟩ := R3
    obtain ⟨r4, fr4⟩ := R4
    obtain ⟨r5, fr5⟩ := R5
    obtain ⟨r6, fr6⟩ := R6
    obtain ⟨r7, fr7⟩ := R7
    obtain ⟨r8, fr8⟩ := R8
    obtain ⟨r9, fr9⟩ := R9
    obtain ⟨r10, fr10⟩ := R10
    obtain ⟨r11, fr11⟩ := R11
    go_wp2
    refine bodyPost_ret (v := .tuple #[.agg #[.int .i64 0, .int .i64 0, .int .i64 0, .int .i64 0, .int .i64 0, .int .i64 0, .int .i64 0, .int .i64 0, .bool false, .slice none 0 0, .slice none 0 0, .slice none 0 0], .int .i64 92]) (by rw [results_cell_tmp rfl]; go_simp) rfl ⟨.inr ⟨HDN.out (fun h => by injection h.1 with _ h; exact nomatch h), rfl⟩, HBZ.out⟩
  case false =>
    by_cases h0 : t1 = []
    rotate_left
    · have hpos : 0 < t1.length := List.length_pos_iff.2 h0
      obtain ⟨r0, fr0⟩ := R0
      obtain ⟨r1, fr1⟩ := R1
      obtain ⟨r2, fr2⟩ := R2
      obtain ⟨r3, fr3⟩ := R3
      obtain ⟨r4, fr4⟩ := R4
      obtain ⟨r5, fr5⟩ := R5
      obtain ⟨r6, fr6⟩ := R6
      obtain ⟨r7, fr7⟩ := R7
      obtain ⟨r8, fr8⟩ := R8
      obtain ⟨r9, fr9⟩ := R9
      obtain ⟨r10, fr10⟩ := R10
      obtain ⟨r11, fr11⟩ := R11
      go_wp2
      refine bodyPost_ret (v := .tuple #[.agg #[.int .i64 0, .int .i64 0, .int .i64 0, .int .i64 0, .int .i64 0, .int .i64 0, .int .i64 0, .int .i64 0, .bool false, .slice none 0 0, .slice none 0 0, .slice none 0 0], .int .i64 92]) (by rw [results_cell_tmp rfl]; go_simp) rfl ⟨.inr ⟨HDN.out (fun h => h0 (by injection h.1)), rfl⟩, HBZ.out⟩
    · subst h0
      simp only [List.length_nil] at q0
      have X0 := Cell.new w3 #[.int .i64 m.kind, .int .i64 m.group, .int .i64 m.frm, .int .i64 m.dst, .int .i64 m.term, .int .i64 m.index, .int .i64 m.logTerm, .int .i64 m.commit, .bool m.ok, .slice a.e m.entries.length a.ec, .slice a.m m.members.length a.mc, .slice a.d m.data.length a.dc] 51 0 _ rfl
      have X1 := Cell.new w3 #[.int .i64 m.kind, .int .i64 m.group, .int .i64 m.frm, .int .i64 m.dst, .int .i64 m.term, .int .i64 m.index, .int .i64 m.logTerm, .int .i64 m.commit, .bool m.ok, .slice a.e m.entries.length a.ec, .slice a.m m.members.length a.mc, .slice a.d m.data.length a.dc] 51 1 _ rfl
      have X2 := Cell.new w3 #[.int .i64 m.kind, .int .i64 m.group, .int .i64 m.frm, .int .i64 m.dst, .int .i64 m.term, .int .i64 m.index, .int .i64 m.logTerm, .int .i64 m.commit, .bool m.ok, .slice a.e m.entries.length a.ec, .slice a.m m.members.length a.mc, .slice a.d m.data.length a.dc] 51 2 _ rfl
      have X3 := Cell.new w3 #[.int .i64 m.kind, .int .i64 m.group, .int .i64 m.frm, .int .i64 m.dst, .int .i64 m.term, .int .i64 m.index, .int .i64 m.logTerm, .int .i64 m.commit, .bool m.ok, .slice a.e m.entries.length a.ec, .slice a.m m.members.length a.mc, .slice a.d m.data.length a.dc] 51 3 _ rfl
      have X4 := Cell.new w3 #[.int .i64 m.kind, .int .i64 m.group, .int .i64 m.frm, .int .i64 m.dst, .int .i64 m.term, .int .i64 m.index, .int .i64 m.logTerm, .int .i64 m.commit, .bool m.ok, .slice a.e m.entries.length a.ec, .slice a.m m.members.length a.mc, .slice a.d m.data.length a.dc] 51 4 _ rfl
      have X5 := Cell.new w3 #[.int .i64 m.kind, .int .i64 m.group, .int .i64 m.frm, .int .i64 m.dst, .int .i64 m.term, .int .i64 m.index, .int .i64 m.logTerm, .int .i64 m.commit, .bool m.ok, .slice a.e m.entries.length a.ec, .slice a.m m.members.length a.mc, .slice a.d m.data.length a.dc] 51 5 _ rfl
      have X6 := Cell.new w3 #[.int .i64 m.kind, .int .i64 m.group, .int .i64 m.frm, .int .i64 m.dst, .int .i64 m.term, .int .i64 m.index, .int .i64 m.logTerm, .int .i64 m.commit, .bool m.ok, .slice a.e m.entries.length a.ec, .slice a.m m.members.length a.mc, .slice a.d m.data.length a.dc] 51 6 _ rfl
      have X7 := Cell.new w3 #[.int .i64 m.kind, .int .i64 m.group, .int .i64 m.frm, .int .i64 m.dst, .int .i64 m.term, .int .i64 m.index, .int .i64 m.logTerm, .int .i64 m.commit, .bool m.ok, .slice a.e m.entries.length a.ec, .slice a.m m.members.length a.mc, .slice a.d m.data.length a.dc] 51 7 _ rfl
      have X8 := Cell.new w3 #[.int .i64 m.kind, .int .i64 m.group, .int .i64 m.frm, .int .i64 m.dst, .int .i64 m.term, .int .i64 m.index, .int .i64 m.logTerm, .int .i64 m.commit, .bool m.ok, .slice a.e m.entries.length a.ec, .slice a.m m.members.length a.mc, .slice a.d m.data.length a.dc] 51 8 _ rfl
      have X9 := Cell.new w3 #[.int .i64 m.kind, .int .i64 m.group, .int .i64 m.frm, .int .i64 m.dst, .int .i64 m.term, .int .i64 m.index, .int .i64 m.logTerm, .int .i64 m.commit, .bool m.ok, .slice a.e m.entries.length a.ec, .slice a.m m.members.length a.mc, .slice a.d m.data.length a.dc] 51 9 _ rfl
      have X10 := Cell.new w3 #[.int .i64 m.kind, .int .i64 m.group, .int .i64 m.frm, .int .i64 m.dst, .int .i64 m.term, .int .i64 m.index, .int .i64 m.logTerm, .int .i64 m.commit, .bool m.ok, .slice a.e m.entries.length a.ec, .slice a.m m.members.length a.mc, .slice a.d m.data.length a.dc] 51 10 _ rfl
      have X11 := Cell.new w3 #[.int .i64 m.kind, .int .i64 m.group, .int .i64 m.frm, .int .i64 m.dst, .int .i64 m.term, .int .i64 m.index, .int .i64 m.logTerm, .int .i64 m.commit, .bool m.ok, .slice a.e m.entries.length a.ec, .slice a.m m.members.length a.mc, .slice a.d m.data.length a.dc] 51 11 _ rfl
      by_cases hR : RightP m
      rotate_left
      · have C := Lib.hid (enc_bad m a _ MR4.out HSM.out hR)
        have x0 := X0.1
        have x1 := X1.1
        have x2 := X2.1
        have x3 := X3.1
        have x4 := X4.1
        have x5 := X5.1
        have x6 := X6.1
        have x7 := X7.1
        have x8 := X8.1
        have x9 := X9.1
        have x10 := X10.1
        have x11 := X11.1
        go_wp2_with fail
        refine C.out.mono ?_
        rintro e w5 ⟨rfl, b5⟩
        have HB5 := Lib.hid (HB4.out.trans (b5.mono (by have := HB4.out.size; omega)))
        clear x0 x1 x2 x3 x4 x5 x6 x7 x8 x9 x10 x11
        replace R0 := R0.keep b5
        replace R1 := R1.keep b5
        replace R2 := R2.keep b5
        replace R3 := R3.keep b5
        replace R4 := R4.keep b5
        replace R5 := R5.keep b5
        replace R6 := R6.keep b5
        replace R7 := R7.keep b5
        replace R8 := R8.keep b5
        replace R9 := R9.keep b5
        replace R10 := R10.keep b5
        replace R11 := R11.keep b5
        replace X0 := X0.keep b5
        replace X1 := X1.keep b5
        replace X2 := X2.keep b5
        replace X3 := X3.keep b5
        replace X4 := X4.keep b5
        replace X5 := X5.keep b5
        replace X6 := X6.keep b5
        replace X7 := X7.keep b5
        replace X8 := X8.keep b5
        replace X9 := X9.keep b5
        replace X10 := X10.keep b5
        replace X11 := X11.keep b5
        have HBW := Lib.hid (HB5.out.trans (Only.below (B := w.heap.size) (((((((((((((Only.refl w.heap.size _).set1 0 (.int .i64 0)).set1 1 (.int .i64 0)).set1 2 (.int .i64 0)).set1 3 (.int .i64 0)).set1 4 (.int .i64 0)).set1 5 (.int .i64 0)).set1 6 (.int .i64 0)).set1 7 (.int .i64 0)).set1 8 (.bool false)).set1 9 (.slice none 0 0)).set1 10 (.slice none 0 0)).set1 11 (.slice none 0 0)) (Nat.le_refl _) HB5.out.size))
        clear b5 C HBZ q0 fq0 q1 fq1
        obtain ⟨r0, fr0⟩ := R0
        obtain ⟨r1, fr1⟩ := R1
        obtain ⟨r2, fr2⟩ := R2
        obtain ⟨r3, fr3⟩ := R3
        obtain ⟨r4, fr4⟩ := R4
        obtain ⟨r5, fr5⟩ := R5
        obtain ⟨r6, fr6⟩ := R6
        obtain ⟨r7, fr7⟩ := R7
        obtain ⟨r8, fr8⟩ := R8
        obtain ⟨r9, fr9⟩ := R9
        obtain ⟨r10, fr10⟩ := R10
        obtain ⟨r11, fr11⟩ := R11
        go_wp2
        refine bodyPost_ret (v := .tuple #[.agg #[.int .i64 0, .int .i64 0, .int .i64 0, .int .i64 0, .int .i64 0, .int .i64 0, .int .i64 0, .int .i64 0, .bool false, .slice none 0 0, .slice none 0 0, .slice none 0 0], .int .i64 92]) (by rw [results_cell_tmp rfl]; go_simp) rfl ⟨.inr ⟨HDN.out (fun h => hR h.2.1), rfl⟩, HBW.out⟩
      · have C := Lib.hid (enc_ok m a _ MR4.out HSM.out hR)
        have x0 := X0.1
        have x1 := X1.1
        have x2 := X2.1
        have x3 := X3.1
        have x4 := X4.1
        have x5 := X5.1
        have x6 := X6.1
        have x7 := X7.1
        have x8 := X8.1
        have x9 := X9.1
        have x10 := X10.1
        have x11 := X11.1
        go_wp2_with fail
        refine C.out.mono ?_
        rintro e w5 ⟨v, rfl, o5, b5⟩
        obtain ⟨vA, vc, rfl, hrd⟩ := o5.rd
        have HB5 := Lib.hid (HB4.out.trans (b5.mono (by have := HB4.out.size; omega)))
        clear x0 x1 x2 x3 x4 x5 x6 x7 x8 x9 x10 x11
        replace R0 := R0.keep b5
        replace R1 := R1.keep b5
        replace R2 := R2.keep b5
        replace R3 := R3.keep b5
        replace R4 := R4.keep b5
        replace R5 := R5.keep b5
        replace R6 := R6.keep b5
        replace R7 := R7.keep b5
        replace R8 := R8.keep b5
        replace R9 := R9.keep b5
        replace R10 := R10.keep b5
        replace R11 := R11.keep b5
        replace X0 := X0.keep b5
        replace X1 := X1.keep b5
        replace X2 := X2.keep b5
        replace X3 := X3.keep b5
        replace X4 := X4.keep b5
        replace X5 := X5.keep b5
        replace X6 := X6.keep b5
        replace X7 := X7.keep b5
        replace X8 := X8.keep b5
        replace X9 := X9.keep b5
        replace X10 := X10.keep b5
        replace X11 := X11.keep b5
        have HM5 := Lib.hid (HM4.out.keep b5)
        have MR5 := Lib.hid ((MR4.out.below b5).more b5.size)
        have CE := Lib.hid (equal_any (encB m) b vA vc A c w5 hrd ((HRD.out.below HB5.out).more HB5.out.size))
        clear b5 C HBZ q0 fq0 q1 fq1 hrd o5
        go_wp2_with fail
        refine CE.out.mono ?_
        rintro e w6 ⟨rfl, b6⟩
        have HB6 := Lib.hid (HB5.out.trans (b6.mono HB5.out.size))
        have HM6 := Lib.hid (HM5.out.keep b6)
        have MR6 := Lib.hid ((MR5.out.below b6).more b6.size)
        replace R0 := R0.keep b6
        replace R1 := R1.keep b6
        replace R2 := R2.keep b6
        replace R3 := R3.keep b6
        replace R4 := R4.keep b6
        replace R5 := R5.keep b6
        replace R6 := R6.keep b6
        replace R7 := R7.keep b6
        replace R8 := R8.keep b6
        replace R9 := R9.keep b6
        replace R10 := R10.keep b6
        replace R11 := R11.keep b6
        replace X0 := X0.keep b6
        replace X1 := X1.keep b6
        replace X2 := X2.keep b6
        replace X3 := X3.keep b6
        replace X4 := X4.keep b6
        replace X5 := X5.keep b6
        replace X6 := X6.keep b6
        replace X7 := X7.keep b6
        replace X8 := X8.keep b6
        replace X9 := X9.keep b6
        replace X10 := X10.keep b6
        replace X11 := X11.keep b6
        clear b6 CE
        by_cases hE : encB m = b
        · have hd : decide (encB m = b) = true := by simp [hE]
          rw [hd]
          have HBW := Lib.hid (HB6.out.trans (Only.below (B := w.heap.size) (((((((((((((Only.refl w.heap.size _).set1 0 (.int .i64 m.kind)).set1 1 (.int .i64 m.group)).set1 2 (.int .i64 m.frm)).set1 3 (.int .i64 m.dst)).set1 4 (.int .i64 m.term)).set1 5 (.int .i64 m.index)).set1 6 (.int .i64 m.logTerm)).set1 7 (.int .i64 m.commit)).set1 8 (.bool m.ok)).set1 9 (.slice a.e m.entries.length a.ec)).set1 10 (.slice a.m m.members.length a.mc)).set1 11 (.slice a.d m.data.length a.dc)) (Nat.le_refl _) HB6.out.size))
          have HFIN := Lib.hid ((HM6.out.off (((((((((((((Only.refl w.heap.size _).set1 0 (.int .i64 m.kind)).set1 1 (.int .i64 m.group)).set1 2 (.int .i64 m.frm)).set1 3 (.int .i64 m.dst)).set1 4 (.int .i64 m.term)).set1 5 (.int .i64 m.index)).set1 6 (.int .i64 m.logTerm)).set1 7 (.int .i64 m.commit)).set1 8 (.bool m.ok)).set1 9 (.slice a.e m.entries.length a.ec)).set1 10 (.slice a.m m.members.length a.mc)).set1 11 (.slice a.d m.data.length a.dc)) (by rw [HSZ.out]; omega)).rd)
          obtain ⟨r0, fr0⟩ := R0
          obtain ⟨x0, fx0⟩ := X0
          obtain ⟨r1, fr1⟩ := R1
          obtain ⟨x1, fx1⟩ := X1
          obtain ⟨r2, fr2⟩ := R2
          obtain ⟨x2, fx2⟩ := X2
          obtain ⟨r3, fr3⟩ := R3
          obtain ⟨x3, fx3⟩ := X3
          obtain ⟨r4, fr4⟩ := R4
          obtain ⟨x4, fx4⟩ := X4
          obtain ⟨r5, fr5⟩ := R5
          obtain ⟨x5, fx5⟩ := X5
          obtain ⟨r6, fr6⟩ := R6
          obtain ⟨x6, fx6⟩ := X6
          obtain ⟨r7, fr7⟩ := R7
          obtain ⟨x7, fx7⟩ := X7
          obtain ⟨r8, fr8⟩ := R8
          obtain ⟨x8, fx8⟩ := X8
          obtain ⟨r9, fr9⟩ := R9
          obtain ⟨x9, fx9⟩ := X9
          obtain ⟨r10, fr10⟩ := R10
          obtain ⟨x10, fx10⟩ := X10
          obtain ⟨r11, fr11⟩ := R11
          obtain ⟨x11, fx11⟩ := X11
          go_wp2
          refine bodyPost_ret (v := .tuple #[.agg #[.int .i64 m.kind, .int .i64 m.group, .int .i64 m.frm, .int .i64 m.dst, .int .i64 m.term, .int .i64 m.index, .int .i64 m.logTerm, .int .i64 m.commit, .bool m.ok, .slice a.e m.entries.length a.ec, .slice a.m m.members.length a.mc, .slice a.d m.data.length a.dc], .int .i64 0]) (by rw [results_cell_tmp rfl]; go_simp) rfl ⟨.inl ⟨m, a, decB_some.2 ⟨hR, hE⟩, rfl, HFIN.out⟩, HBW.out⟩
        · have hd : decide (encB m = b) = false := by simp [hE]
          rw [hd]
          have HBW := Lib.hid (HB6.out.trans (Only.below (B := w.heap.size) (((((((((((((Only.refl w.heap.size _).set1 0 (.int .i64 0)).set1 1 (.int .i64 0)).set1 2 (.int .i64 0)).set1 3 (.int .i64 0)).set1 4 (.int .i64 0)).set1 5 (.int .i64 0)).set1 6 (.int .i64 0)).set1 7 (.int .i64 0)).set1 8 (.bool false)).set1 9 (.slice none 0 0)).set1 10 (.slice none 0 0)).set1 11 (.slice none 0 0)) (Nat.le_refl _) HB6.out.size))
          obtain ⟨r0, fr0⟩ := R0
          obtain ⟨r1, fr1⟩ := R1
          obtain ⟨r2, fr2⟩ := R2
          obtain ⟨r3, fr3⟩ := R3
          obtain ⟨r4, fr4⟩ := R4
          obtain ⟨r5, fr5⟩ := R5
          obtain ⟨r6, fr6⟩ := R6
          obtain ⟨r7, fr7⟩ := R7
          obtain ⟨r8, fr8⟩ := R8
          obtain ⟨r9, fr9⟩ := R9
          obtain ⟨r10, fr10⟩ := R10
          obtain ⟨r11, fr11⟩ := R11
          go_wp2
          refine bodyPost_ret (v := .tuple #[.agg #[.int .i64 0, .int .i64 0, .int .i64 0, .int .i64 0, .int .i64 0, .int .i64 0, .int .i64 0, .int .i64 0, .bool false, .slice none 0 0, .slice none 0 0, .slice none 0 0], .int .i64 92]) (by rw [results_cell_tmp rfl]; go_simp) rfl ⟨.inr ⟨HDN.out (fun h => hE h.2.2), rfl⟩, HBW.out⟩
theorem decode_any (b : List UInt8) (A : Option Addr) (c : Nat) (w : World) (h : Rd w w.heap.size A b) (hl : b.length ≤ 1048576) (hc : b.length ≤ c) (hc2 : c ≤ 9223372036854775807) (hA : A = none → c = 0) :
    Calls Try.prog 27 #[.slice A b.length c] w fun e w' => ((∃ m a, decB b = some m ∧ e = .returned (.tuple #[msgV m a, .int .i64 0]) ∧ MRd w' w'.heap.size m a) ∨ (decB b = none ∧ e = .returned (.tuple #[.agg #[.int .i64 0, .int .i64 0, .int .i64 0, .int .i64 0, .int .i64 0, .int .i64 0, .int .i64 0, .int .i64 0, .bool false, .slice none 0 0, .slice none 0 0, .slice none 0 0], .int .i64 92]))) ∧ Below w.heap.size w w' :=
  decode_gen b A c w h (by omega) (pmsg_small (b, false) hl) hc hc2 hA
/-- a message's bytes and more -/
theorem decode_more (b : List UInt8) (A : Option Addr) (c : Nat) (w : World) (h : Rd w w.heap.size A b) (m : Msg) (r : List UInt8) (hb : b = encB m ++ r) (hm : RightP m) (hs : Small m) (hr : r ≠ []) (hl : b.length ≤ 140737488351232) (hc : b.length ≤ c) (hc2 : c ≤ 9223372036854775807) (hA : A = none → c = 0) :
    Calls Try.prog 27 #[.slice A b.length c] w fun e w' => e = .returned (.tuple #[.agg #[.int .i64 0, .int .i64 0, .int .i64 0, .int .i64 0, .int .i64 0, .int .i64 0, .int .i64 0, .int .i64 0, .bool false, .slice none 0 0, .slice none 0 0, .slice none 0 0], .int .i64 92]) ∧ Below w.heap.size w w' := by
  refine (decode_gen b A c w h hl (by rw [hb, pmsg_encB hm]; exact hs) hc hc2 hA).mono fun e w' h => ⟨?_, h.2⟩
  rcases h.1 with ⟨m', a, h1, _⟩ | ⟨_, h1⟩
  · rw [hb, decB_more hm hr] at h1
    exact nomatch h1
  · exact h1
end Go.Proofs.Ytekgmgiokmbliaa
