/-
  isMessage.
-/
import Derived.Test.YtekgmgiokmbliaaIsZero
set_option linter.unusedVariables false
namespace Go.Proofs.Ytekgmgiokmbliaa
open Go.RowKit

theorem node_tells (n : Int) (w : World) : Calls Try.prog 31 #[.int .i64 n] w fun e w' => Tells e (NodeP n) ∧ w = w' :=
  (node_any n w).mono fun e w' ⟨h1, h2⟩ => ⟨by rw [h1]; exact .of (by simp [isNodeB, NodeP]), h2⟩
theorem rnode_tells (n : Int) (w : World) : Calls Try.prog 33 #[.int .i64 n] w fun e w' => Tells e (NodeP n) ∧ w = w' :=
  (rnode_any n w).mono fun e w' ⟨h1, h2⟩ => ⟨by rw [h1]; exact .of (by simp [isNodeB, NodeP]), h2⟩

theorem kindP_1 {m : Msg} (h : m.kind = 1) : KindP m ↔ (m.commit = 0 ∧ m.ok = false ∧ m.entries.length = 0 ∧ NoneP m) := by
  unfold KindP
  constructor
  · rintro (h' | h' | h' | h' | h')
    · exact h'.2
    all_goals exact absurd (h.symm.trans h'.1) (by decide)
  · exact fun h' => .inl ⟨h, h'⟩
theorem kindP_2 {m : Msg} (h : m.kind = 2) : KindP m ↔ (m.index = 0 ∧ m.logTerm = 0 ∧ m.commit = 0 ∧ m.entries.length = 0 ∧ NoneP m) := by
  unfold KindP
  constructor
  · rintro (h' | h' | h' | h' | h')
    · exact absurd (h.symm.trans h'.1) (by decide)
    · exact h'.2
    all_goals exact absurd (h.symm.trans h'.1) (by decide)
  · exact fun h' => .inr (.inl ⟨h, h'⟩)
theorem kindP_3 {m : Msg} (h : m.kind = 3) : KindP m ↔ (m.ok = false ∧ NoneP m ∧ m.logTerm ≤ m.term ∧ EntriesP m) := by
  unfold KindP
  constructor
  · rintro (h' | h' | h' | h' | h')
    · exact absurd (h.symm.trans h'.1) (by decide)
    · exact absurd (h.symm.trans h'.1) (by decide)
    · exact h'.2
    all_goals exact absurd (h.symm.trans h'.1) (by decide)
  · exact fun h' => .inr (.inr (.inl ⟨h, h'⟩))
theorem kindP_4 {m : Msg} (h : m.kind = 4) : KindP m ↔ (m.logTerm = 0 ∧ m.commit = 0 ∧ m.entries.length = 0 ∧ NoneP m) := by
  unfold KindP
  constructor
  · rintro (h' | h' | h' | h' | h')
    · exact absurd (h.symm.trans h'.1) (by decide)
    · exact absurd (h.symm.trans h'.1) (by decide)
    · exact absurd (h.symm.trans h'.1) (by decide)
    · exact h'.2
    · exact absurd (h.symm.trans h'.1) (by decide)
  · exact fun h' => .inr (.inr (.inr (.inl ⟨h, h'⟩)))
theorem kindP_5 {m : Msg} (h : m.kind = 5) : KindP m ↔ (m.commit = 0 ∧ m.ok = false ∧ m.entries.length = 0 ∧ MembersP m.members ∧ m.data.length ≤ 60000 ∧ m.logTerm ≤ m.term) := by
  unfold KindP
  constructor
  · rintro (h' | h' | h' | h' | h')
    · exact absurd (h.symm.trans h'.1) (by decide)
    · exact absurd (h.symm.trans h'.1) (by decide)
    · exact absurd (h.symm.trans h'.1) (by decide)
    · exact absurd (h.symm.trans h'.1) (by decide)
    · exact h'.2
  · exact fun h' => .inr (.inr (.inr (.inr ⟨h, h'⟩)))
theorem kindP_o {m : Msg} (h1 : ¬ m.kind = 1) (h2 : ¬ m.kind = 2) (h3 : ¬ m.kind = 3) (h4 : ¬ m.kind = 4) (h5 : ¬ m.kind = 5) : ¬ KindP m := by
  unfold KindP
  rintro (h' | h' | h' | h' | h')
  · exact h1 h'.1
  · exact h2 h'.1
  · exact h3 h'.1
  · exact h4 h'.1
  · exact h5 h'.1
theorem Small.ne {m : Msg} (h : Small m) : m.entries.length ≤ 1048576 ∧ m.members.length ≤ 1048576 ∧ m.data.length ≤ 1048576 := ⟨h.se, h.sm, h.sd⟩

set_option maxHeartbeats 6400000 in
set_option maxRecDepth 100000 in
theorem ismsg_any (m : Msg) (a : At) (w : World) (hr : MRd w w.heap.size m a) (hs : Small m) :
    Calls Try.prog 40 #[msgV m a] w fun e w' => Tells e (RightP m) ∧ Below w.heap.size w w' := by
  have hb := below1' w (.cells (msgC m a) 51)
  have HRd := Lib.hid hr
  have HS := Lib.hid hs
  obtain ⟨M, hM⟩ : ∃ M, M = m := ⟨_, rfl⟩
  obtain ⟨kind, group, frm, dst, term, index, logTerm, commit, ok, es, mem, dat⟩ := m
  have HM : Hid (M.kind = kind ∧ M.group = group ∧ M.frm = frm ∧ M.dst = dst ∧ M.term = term ∧ M.index = index ∧ M.logTerm = logTerm ∧ M.commit = commit ∧ M.ok = ok ∧ M.entries = es ∧ M.members = mem ∧ M.data = dat) := by subst hM; exact ⟨rfl, rfl, rfl, rfl, rfl, rfl, rfl, rfl, rfl, rfl, rfl, rfl⟩
  rw [← hM] at HRd HS
  have HV : Hid (msgV M a = .agg #[.int .i64 kind, .int .i64 group, .int .i64 frm, .int .i64 dst, .int .i64 term, .int .i64 index, .int .i64 logTerm, .int .i64 commit, .bool ok, .slice a.e es.length a.ec, .slice a.m mem.length a.mc, .slice a.d dat.length a.dc]) := by subst hM; rfl
  rw [← hM, HV.out]
  simp only [msgC] at hb
  clear hr hs hM
  obtain ⟨ne, hne⟩ : ∃ n, n = es.length := ⟨_, rfl⟩
  obtain ⟨nm, hnm⟩ : ∃ n, n = mem.length := ⟨_, rfl⟩
  obtain ⟨nd, hnd⟩ : ∃ n, n = dat.length := ⟨_, rfl⟩
  replace HV := HV.out
  rw [← hne, ← hnm, ← hnd] at HV hb
  rw [← hne, ← hnm, ← hnd]
  replace HV := Lib.hid HV
  have hnd2 : nd ≤ 1048576 := by have := HS.out.sd; rw [HM.out.2.2.2.2.2.2.2.2.2.2.2] at this; omega
  have HN := Lib.hid (And.intro hne (And.intro hnm hnd))
  clear hne hnm hnd
  have HNo : Hid (∀ {e : Ending}, e = .returned (.bool false) → ¬ RightP M → Tells e (RightP M)) := fun h h' => h ▸ .no h'
  by_cases hg1 : group < 1
  · have hnp : Hid (¬ RightP M) := fun h => by have := h.1.1.1; rw [HM.out.2.1] at this; omega
    go_enter Try.func40, Try.ntmps40
    go_wp2
    go_ret
    exact ⟨.no hnp.out, hb⟩
  by_cases hg2 : 255 < group
  · have hnp : Hid (¬ RightP M) := fun h => by have := h.1.1.2; rw [HM.out.2.1] at this; omega
    go_enter Try.func40, Try.ntmps40
    go_wp2
    go_ret
    exact ⟨.no hnp.out, hb⟩
  have hg1' : decide (group < 1) = false := by simp; omega
  have hg2' : decide (255 < group) = false := by simp; omega
  go_enter Try.func40, Try.ntmps40
  go_wp2_with fail
  refine (node_tells _ _).mono ?_
  rintro e w1 ⟨⟨b, rfl, h1⟩, rfl⟩
  have H1 := Lib.hid h1
  clear h1
  cases b with
  | false =>
    have hnp : Hid (¬ RightP M) := fun h => by have := H1.out.2 (HM.out.2.2.1 ▸ h.1.2.1); cases this
    go_wp2
    go_ret
    exact ⟨.no hnp.out, hb⟩
  | true =>
    replace H1 := Lib.hid (H1.out.1 rfl)
    go_wp2_with fail
    refine (node_tells _ _).mono ?_
    rintro e w1 ⟨⟨b, rfl, h1⟩, rfl⟩
    have H2 := Lib.hid h1
    clear h1
    cases b with
    | false =>
      have hnp : Hid (¬ RightP M) := fun h => by have := H2.out.2 (HM.out.2.2.2.1 ▸ h.1.2.2.1); cases this
      go_wp2
      go_ret
      exact ⟨.no hnp.out, hb⟩
    | true =>
      replace H2 := Lib.hid (H2.out.1 rfl)
      go_wp2_with fail
      refine (term_any _ _).mono ?_
      rintro e w1 ⟨⟨b, rfl, h1⟩, rfl⟩
      have H3 := Lib.hid h1
      clear h1
      cases b with
      | false =>
        have hnp : Hid (¬ RightP M) := fun h => by have := H3.out.2 (HM.out.2.2.2.2.1 ▸ h.1.2.2.2); cases this
        go_wp2
        go_ret
        exact ⟨.no hnp.out, hb⟩
      | true =>
        replace H3 := Lib.hid (H3.out.1 rfl)
        have HH : Hid (HeadP M) := by
          obtain ⟨e1, e2, e3, e4, e5, _⟩ := HM.out
          refine ⟨by rw [e2]; omega, e3 ▸ H1.out, e4 ▸ H2.out, e5 ▸ H3.out⟩
        clear H1 H2 H3
        go_wp2_with fail
        refine (count_any _ _).mono ?_
        rintro e w1 ⟨⟨b, rfl, h1⟩, rfl⟩
        have H1 := Lib.hid h1
        clear h1
        cases b with
        | false =>
          have hnp : Hid (¬ RightP M) := fun h => by have := H1.out.2 (HM.out.2.2.2.2.2.1 ▸ h.2.1.1); cases this
          go_wp2
          go_ret
          exact ⟨.no hnp.out, hb⟩
        | true =>
          replace H1 := Lib.hid (H1.out.1 rfl)
          go_wp2_with fail
          refine (count_any _ _).mono ?_
          rintro e w1 ⟨⟨b, rfl, h1⟩, rfl⟩
          have H2 := Lib.hid h1
          clear h1
          cases b with
          | false =>
            have hnp : Hid (¬ RightP M) := fun h => by have := H2.out.2 (HM.out.2.2.2.2.2.2.1 ▸ h.2.1.2.1); cases this
            go_wp2
            go_ret
            exact ⟨.no hnp.out, hb⟩
          | true =>
            replace H2 := Lib.hid (H2.out.1 rfl)
            go_wp2_with fail
            refine (count_any _ _).mono ?_
            rintro e w1 ⟨⟨b, rfl, h1⟩, rfl⟩
            have H3 := Lib.hid h1
            clear h1
            cases b with
            | false =>
              have hnp : Hid (¬ RightP M) := fun h => by have := H3.out.2 (HM.out.2.2.2.2.2.2.2.1 ▸ h.2.1.2.2); cases this
              go_wp2
              go_ret
              exact ⟨.no hnp.out, hb⟩
            | true =>
              replace H3 := Lib.hid (H3.out.1 rfl)
              have HC : Hid (CountsP M) := by
                obtain ⟨_, _, _, _, _, e5, e6, e7, _⟩ := HM.out
                exact ⟨e5 ▸ H1.out, e6 ▸ H2.out, e7 ▸ H3.out⟩
              have HK : Hid (RightP M ↔ KindP M) := ⟨fun h => h.2.2, fun h => ⟨HH.out, HC.out, h⟩⟩
              clear H1 H2 H3
              have HX : Hid (M.kind = kind ∧ M.term = term ∧ M.logTerm = logTerm ∧ M.commit = commit ∧ M.ok = ok ∧ M.index = index ∧ M.entries.length = ne ∧ M.members.length = nm ∧ M.data.length = nd) := by
                obtain ⟨h1, h2, h3, h4, h5, h6, h7, h8, h9, h10, h11, h12⟩ := HM.out
                obtain ⟨n1, n2, n3⟩ := HN.out
                exact ⟨h1, h5, h7, h8, h9, h6, by rw [h10, n1], by rw [h11, n2], by rw [h12, n3]⟩
              have HB2 : Hid (∀ (C : Array Value) (t : TypeId) (w3 : World), Below ((w.alloc (.cells #[.int .i64 kind, .int .i64 group, .int .i64 frm, .int .i64 dst, .int .i64 term, .int .i64 index, .int .i64 logTerm, .int .i64 commit, .bool ok, .slice a.e ne a.ec, .slice a.m nm a.mc, .slice a.d nd a.dc] 51)).alloc (.cells C t)).heap.size ((w.alloc (.cells #[.int .i64 kind, .int .i64 group, .int .i64 frm, .int .i64 dst, .int .i64 term, .int .i64 index, .int .i64 logTerm, .int .i64 commit, .bool ok, .slice a.e ne a.ec, .slice a.m nm a.mc, .slice a.d nd a.dc] 51)).alloc (.cells C t)) w3 → Below w.heap.size w w3) := fun C t w3 h3 => (hb.alloc hb.size _).trans (h3.mono (hb.alloc hb.size _).size)
              by_cases hk1 : kind = 1
              · subst hk1
                have KP := Lib.hid (kindP_1 HX.out.1)
                go_wp2_with fail
                refine (zero_any 0 0 0 0 0 0 0 commit ok ne nm nd a _).mono ?_
                rintro e w3 ⟨⟨b, rfl, hbb⟩, h3⟩
                have HBB := Lib.hid hbb
                have hbf : Hid (Below w.heap.size w w3) := HB2.out _ _ _ h3
                clear hbb h3
                go_wp2
                go_ret
                refine ⟨.of (HBB.out.trans (Iff.trans ?_ (HK.out.trans KP.out).symm)), hbf.out⟩
                obtain ⟨e0, e1, e2, e3, e4, e5, e6, e7, e8⟩ := HX.out
                unfold NoneP
                rw [e3, e4, e6, e7, e8]
                simp
              by_cases hk2 : kind = 2
              · subst hk2
                have KP := Lib.hid (kindP_2 HX.out.1)
                go_wp2_with fail
                refine (zero_any 0 0 0 0 0 index logTerm commit false ne nm nd a _).mono ?_
                rintro e w3 ⟨⟨b, rfl, hbb⟩, h3⟩
                have HBB := Lib.hid hbb
                have hbf : Hid (Below w.heap.size w w3) := HB2.out _ _ _ h3
                clear hbb h3
                go_wp2
                go_ret
                refine ⟨.of (HBB.out.trans (Iff.trans ?_ (HK.out.trans KP.out).symm)), hbf.out⟩
                obtain ⟨e0, e1, e2, e3, e4, e5, e6, e7, e8⟩ := HX.out
                unfold NoneP
                rw [e5, e2, e3, e6, e7, e8]
                simp
              by_cases hk3 : kind = 3
              · subst hk3
                have KP := Lib.hid (kindP_3 HX.out.1)
                by_cases hlt : term < logTerm
                · have hnp : Hid (¬ RightP M) := fun h => by
                    have h := (KP.out.1 (HK.out.1 h)).2.2.1
                    rw [HX.out.2.2.1, HX.out.2.1] at h
                    omega
                  have hb2 : Below w.heap.size w ((w.alloc (.cells #[.int .i64 3, .int .i64 group, .int .i64 frm, .int .i64 dst, .int .i64 term, .int .i64 index, .int .i64 logTerm, .int .i64 commit, .bool ok, .slice a.e ne a.ec, .slice a.m nm a.mc, .slice a.d nd a.dc] 51)).alloc (.cells #[.int .i64 0, .int .i64 0, .int .i64 0, .int .i64 0, .int .i64 0, .int .i64 index, .int .i64 logTerm, .int .i64 commit, .bool ok, .slice a.e ne a.ec, .slice a.m nm a.mc, .slice a.d nd a.dc] 51)) := hb.alloc hb.size _
                  go_wp2
                  go_ret
                  exact ⟨.no hnp.out, hb2⟩
                have hb2 : Below w.heap.size w ((w.alloc (.cells #[.int .i64 3, .int .i64 group, .int .i64 frm, .int .i64 dst, .int .i64 term, .int .i64 index, .int .i64 logTerm, .int .i64 commit, .bool ok, .slice a.e ne a.ec, .slice a.m nm a.mc, .slice a.d nd a.dc] 51)).alloc (.cells #[.int .i64 0, .int .i64 0, .int .i64 0, .int .i64 0, .int .i64 0, .int .i64 index, .int .i64 logTerm, .int .i64 commit, .bool ok, .slice a.e ne a.ec, .slice a.m nm a.mc, .slice a.d nd a.dc] 51)) := hb.alloc hb.size _
                have EN := entries_any M a _ ((HRd.out.below hb2).more hb2.size) HS.out HC.out.1
                rw [HV.out] at EN
                replace EN := Lib.hid EN
                have R := fun (j : Nat) (x : Value) (h : (#[.int .i64 0, .int .i64 0, .int .i64 0, .int .i64 0, .int .i64 0, .int .i64 index, .int .i64 logTerm, .int .i64 commit, .bool ok, .slice a.e ne a.ec, .slice a.m nm a.mc, .slice a.d nd a.dc] : Array Value)[j]? = some x) => Cell.new (w.alloc (.cells #[.int .i64 3, .int .i64 group, .int .i64 frm, .int .i64 dst, .int .i64 term, .int .i64 index, .int .i64 logTerm, .int .i64 commit, .bool ok, .slice a.e ne a.ec, .slice a.m nm a.mc, .slice a.d nd a.dc] 51)) #[.int .i64 0, .int .i64 0, .int .i64 0, .int .i64 0, .int .i64 0, .int .i64 index, .int .i64 logTerm, .int .i64 commit, .bool ok, .slice a.e ne a.ec, .slice a.m nm a.mc, .slice a.d nd a.dc] 51 j x h
                have R0 := R 0 _ rfl
                have R1 := R 1 _ rfl
                have R2 := R 2 _ rfl
                have R3 := R 3 _ rfl
                have R4 := R 4 _ rfl
                have R5 := R 5 _ rfl
                have R6 := R 6 _ rfl
                have R7 := R 7 _ rfl
                have R8 := R 8 _ rfl
                have R9 := R 9 _ rfl
                have R10 := R 10 _ rfl
                have R11 := R 11 _ rfl
                have hsz : (w.alloc (.cells #[.int .i64 3, .int .i64 group, .int .i64 frm, .int .i64 dst, .int .i64 term, .int .i64 index, .int .i64 logTerm, .int .i64 commit, .bool ok, .slice a.e ne a.ec, .slice a.m nm a.mc, .slice a.d nd a.dc] 51)).heap.size = w.heap.size + 1 := by simp
                rw [hsz] at R0 R1 R2 R3 R4 R5 R6 R7 R8 R9 R10 R11
                clear R hsz
                have hle : decide (term < logTerm) = false := by simp; omega
                go_wp2_with fail
                refine EN.out.mono ?_
                rintro e w2 ⟨⟨b, rfl, hbb⟩, h2⟩
                have HE := Lib.hid hbb
                have hb3 := hb2.trans (h2.mono hb2.size)
                cases b with
                | false =>
                  have hnp : Hid (¬ RightP M) := fun h => by
                    have h := (KP.out.1 (HK.out.1 h)).2.2.2
                    have := HE.out.2 h
                    cases this
                  clear R0 R1 R2 R3 R4 R5 R6 R7 R8 R9 R10 R11 hbb h2 EN
                  go_wp2
                  go_ret
                  exact ⟨.no hnp.out, hb3⟩
                | true =>
                  replace HE := Lib.hid (HE.out.1 rfl)
                  have r0 := (R0.keep h2).1
                  have r1 := (R1.keep h2).1
                  have r2 := (R2.keep h2).1
                  have r3 := (R3.keep h2).1
                  have r4 := (R4.keep h2).1
                  have r8 := (R8.keep h2).1
                  have r10 := (R10.keep h2).1
                  have r11 := (R11.keep h2).1
                  obtain ⟨r5, f5⟩ := R5.keep h2
                  obtain ⟨r6, f6⟩ := R6.keep h2
                  obtain ⟨r7, f7⟩ := R7.keep h2
                  obtain ⟨r9, f9⟩ := R9.keep h2
                  clear R0 R1 R2 R3 R4 R5 R6 R7 R8 R9 R10 R11 hbb h2 EN hb2
                  have hb4 : Hid (∀ x5 x6 x7 x9 : Value, Below w.heap.size w ((((w2.setCell ⟨w.heap.size + 1, 5, none⟩ x5).setCell ⟨w.heap.size + 1, 6, none⟩ x6).setCell ⟨w.heap.size + 1, 7, none⟩ x7).setCell ⟨w.heap.size + 1, 9, none⟩ x9)) := fun x5 x6 x7 x9 => (((hb3.setCell (by show w.heap.size ≤ w.heap.size + 1; omega) _).setCell (by show w.heap.size ≤ w.heap.size + 1; omega) _).setCell (by show w.heap.size ≤ w.heap.size + 1; omega) _).setCell (by show w.heap.size ≤ w.heap.size + 1; omega) _
                  go_wp2_with fail
                  refine (zero_any 0 0 0 0 0 0 0 0 ok 0 nm nd ⟨none, 0, a.m, a.mc, a.d, a.dc⟩ _).mono ?_
                  rintro e w3 ⟨⟨b, rfl, hbb⟩, h3⟩
                  have HBB := Lib.hid hbb
                  have hbf : Hid (Below w.heap.size w w3) := (hb4.out _ _ _ _).trans (h3.mono (hb4.out _ _ _ _).size)
                  clear hbb h3
                  go_wp2
                  go_ret
                  refine ⟨.of (HBB.out.trans (Iff.trans ?_ (HK.out.trans KP.out).symm)), hbf.out⟩
                  obtain ⟨e0, e1, e2, e3, e4, e5, e6, e7, e8⟩ := HX.out
                  unfold NoneP
                  rw [e1, e2, e4, e7, e8]
                  have hE := HE.out
                  have hl : logTerm ≤ term := by omega
                  simp [hE, hl]
              by_cases hk4 : kind = 4
              · subst hk4
                have KP := Lib.hid (kindP_4 HX.out.1)
                go_wp2_with fail
                refine (zero_any 0 0 0 0 0 0 logTerm commit false ne nm nd a _).mono ?_
                rintro e w3 ⟨⟨b, rfl, hbb⟩, h3⟩
                have HBB := Lib.hid hbb
                have hbf : Hid (Below w.heap.size w w3) := HB2.out _ _ _ h3
                clear hbb h3
                go_wp2
                go_ret
                refine ⟨.of (HBB.out.trans (Iff.trans ?_ (HK.out.trans KP.out).symm)), hbf.out⟩
                obtain ⟨e0, e1, e2, e3, e4, e5, e6, e7, e8⟩ := HX.out
                unfold NoneP
                rw [e2, e3, e6, e7, e8]
                simp
              by_cases hk5 : kind = 5
              · subst hk5
                have KP := Lib.hid (kindP_5 HX.out.1)
                have hb2 : Below w.heap.size w ((w.alloc (.cells #[.int .i64 5, .int .i64 group, .int .i64 frm, .int .i64 dst, .int .i64 term, .int .i64 index, .int .i64 logTerm, .int .i64 commit, .bool ok, .slice a.e ne a.ec, .slice a.m nm a.mc, .slice a.d nd a.dc] 51)).alloc (.cells #[.int .i64 0, .int .i64 0, .int .i64 0, .int .i64 0, .int .i64 0, .int .i64 index, .int .i64 logTerm, .int .i64 commit, .bool ok, .slice a.e ne a.ec, .slice a.m nm a.mc, .slice a.d nd a.dc] 51)) := hb.alloc hb.size _
                by_cases hlt : term < logTerm
                · have hnp : Hid (¬ RightP M) := fun h => by
                    have h := (KP.out.1 (HK.out.1 h)).2.2.2.2.2
                    rw [HX.out.2.2.1, HX.out.2.1] at h
                    omega
                  go_wp2
                  go_ret
                  exact ⟨.no hnp.out, hb2⟩
                have hle : decide (term < logTerm) = false := by simp; omega
                have ME := Lib.hid (members_any M.members a.m nm a.mc _ HX.out.2.2.2.2.2.2.2.1.symm ((HRd.out.rm.below hb2).more hb2.size) (by have := HS.out.sm; rw [HX.out.2.2.2.2.2.2.2.1] at this; omega))
                go_wp2_with fail
                refine ME.out.mono ?_
                rintro e w2 ⟨⟨b, rfl, hbb⟩, rfl⟩
                have HE := Lib.hid hbb
                cases b with
                | false =>
                  have hnp : Hid (¬ RightP M) := fun h => by
                    have h := (KP.out.1 (HK.out.1 h)).2.2.2.1
                    have := HE.out.2 h
                    cases this
                  clear hbb ME
                  go_wp2
                  go_ret
                  exact ⟨.no hnp.out, hb2⟩
                | true =>
                  replace HE := Lib.hid (HE.out.1 rfl)
                  clear hbb ME
                  by_cases hbig : 60000 < nd
                  · have hnp : Hid (¬ RightP M) := fun h => by
                      have h := (KP.out.1 (HK.out.1 h)).2.2.2.2.1
                      rw [HX.out.2.2.2.2.2.2.2.2] at h
                      omega
                    go_wp2
                    go_ret
                    exact ⟨.no hnp.out, hb2⟩
                  · go_wp2_with fail
                    refine (zero_any 0 0 0 0 0 0 0 commit ok ne 0 0 ⟨a.e, a.ec, none, 0, none, 0⟩ _).mono ?_
                    rintro e w3 ⟨⟨b, rfl, hbb⟩, h3⟩
                    have HBB := Lib.hid hbb
                    have hbf : Hid (Below w.heap.size w w3) := HB2.out _ _ _ h3
                    clear hbb h3
                    go_wp2
                    go_ret
                    refine ⟨.of (HBB.out.trans (Iff.trans ?_ (HK.out.trans KP.out).symm)), hbf.out⟩
                    obtain ⟨e0, e1, e2, e3, e4, e5, e6, e7, e8⟩ := HX.out
                    rw [e1, e2, e3, e4, e6, e8]
                    have hE := HE.out
                    have hl : logTerm ≤ term := by omega
                    have hd : nd ≤ 60000 := by omega
                    simp [hE, hl, hd]
              have hnp : Hid (¬ RightP M) := fun h => by
                obtain ⟨e0, _⟩ := HX.out
                rw [← e0] at hk1 hk2 hk3 hk4 hk5
                exact kindP_o hk1 hk2 hk3 hk4 hk5 h.2.2
              have hn1 : (kind == 1) = false := by rw [beq_eq_false_iff_ne]; exact hk1
              have hn2 : (kind == 2) = false := by rw [beq_eq_false_iff_ne]; exact hk2
              have hn3 : (kind == 3) = false := by rw [beq_eq_false_iff_ne]; exact hk3
              have hn4 : (kind == 4) = false := by rw [beq_eq_false_iff_ne]; exact hk4
              have hn5 : (kind == 5) = false := by rw [beq_eq_false_iff_ne]; exact hk5
              have hb2 : Below w.heap.size w ((w.alloc (.cells #[.int .i64 kind, .int .i64 group, .int .i64 frm, .int .i64 dst, .int .i64 term, .int .i64 index, .int .i64 logTerm, .int .i64 commit, .bool ok, .slice a.e ne a.ec, .slice a.m nm a.mc, .slice a.d nd a.dc] 51)).alloc (.cells #[.int .i64 0, .int .i64 0, .int .i64 0, .int .i64 0, .int .i64 0, .int .i64 index, .int .i64 logTerm, .int .i64 commit, .bool ok, .slice a.e ne a.ec, .slice a.m nm a.mc, .slice a.d nd a.dc] 51)) := hb.alloc hb.size _
              go_wp2
              go_ret
              exact ⟨.no hnp.out, hb2⟩
end Go.Proofs.Ytekgmgiokmbliaa
