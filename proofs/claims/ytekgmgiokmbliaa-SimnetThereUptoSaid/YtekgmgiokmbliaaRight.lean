/-
  The reference's Right.
-/
import Derived.Test.YtekgmgiokmbliaaIsMsg
set_option linter.unusedVariables false
namespace Go.Proofs.Ytekgmgiokmbliaa
open Go.RowKit

set_option maxHeartbeats 6400000 in
set_option maxRecDepth 100000 in
theorem right_any (m : Msg) (a : At) (w : World) (hr : MRd w w.heap.size m a) (hs : Small m) :
    Calls Try.prog 30 #[msgV m a] w fun e w' => Tells e (RightP m) ∧ Below w.heap.size w w' := by
  have hb := below1' w (.cells (msgC m a) 51)
  have HRd := Lib.hid hr
  have HS := Lib.hid hs
  obtain ⟨M, hM⟩ : ∃ M, M = m := ⟨_, rfl⟩
  obtain ⟨kind, group, frm, dst, term, index, logTerm, commit, ok, es, mem, dat⟩ := m
  have HM : Hid (M.kind = kind ∧ M.group = group ∧ M.frm = frm ∧ M.dst = dst ∧ M.term = term ∧ M.index = index ∧ M.logTerm = logTerm ∧ M.commit = commit ∧ M.ok = ok ∧ M.entries = es ∧ M.members = mem ∧ M.data = dat) := by subst hM; exact ⟨rfl, rfl, rfl, rfl, rfl, rfl, rfl, rfl, rfl, rfl, rfl, rfl⟩
  rw [← hM] at HRd HS
  have HV : Hid (msgV M a = .agg #[.int .i64 kind, .int .i64 group, .int .i64 frm, .int .i64 dst, .int .i64 term, .int .i64 index, .int .i64 logTerm, .int .i64 commit, .bool ok, .slice a.e es.length a.ec, .slice a.m mem.length a.mc, .slice a.d dat.length a.dc]) := by subst hM; rfl
  rw [← hM, HV.out]
  simp only [msgC] at hb
  clear hr hs hM HV
  obtain ⟨ne, hne⟩ : ∃ n, n = es.length := ⟨_, rfl⟩
  obtain ⟨nm, hnm⟩ : ∃ n, n = mem.length := ⟨_, rfl⟩
  obtain ⟨nd, hnd⟩ : ∃ n, n = dat.length := ⟨_, rfl⟩
  rw [← hne, ← hnm, ← hnd] at hb
  rw [← hne, ← hnm, ← hnd]
  have hnd2 : nd ≤ 1048576 := by have := HS.out.sd; rw [HM.out.2.2.2.2.2.2.2.2.2.2.2] at this; omega
  have HN := Lib.hid (And.intro hne (And.intro hnm hnd))
  clear hne hnm hnd
  go_enter Try.func30, Try.ntmps30
  go_wp2_with fail
  refine (rnode_tells _ _).mono ?_
  rintro e w1 ⟨⟨b1, rfl, h1⟩, rfl⟩
  have H1 := Lib.hid h1
  clear h1
  go_wp2_with fail
  refine (rnode_tells _ _).mono ?_
  rintro e w1 ⟨⟨b2, rfl, h1⟩, rfl⟩
  have H2 := Lib.hid h1
  clear h1
  go_wp2_with fail
  refine (rcount_any _ _).mono ?_
  rintro e w1 ⟨⟨b3, rfl, h1⟩, rfl⟩
  have H3 := Lib.hid h1
  clear h1
  go_wp2_with fail
  refine (rcount_any _ _).mono ?_
  rintro e w1 ⟨⟨b4, rfl, h1⟩, rfl⟩
  have H4 := Lib.hid h1
  clear h1
  go_wp2_with fail
  refine (rcount_any _ _).mono ?_
  rintro e w1 ⟨⟨b5, rfl, h1⟩, rfl⟩
  have H5 := Lib.hid h1
  clear h1
  go_wp2_with fail
  refine (rcount_any _ _).mono ?_
  rintro e w1 ⟨⟨b6, rfl, h1⟩, rfl⟩
  have H6 := Lib.hid h1
  clear h1
  rcases Bool.eq_false_or_eq_true b1 with hb1 | hb1
  rotate_left
  · subst hb1
    have hnp : Hid (¬ RightP M) := fun h => by have := H1.out.2 (HM.out.2.2.1 ▸ h.1.2.1); cases this
    go_wp2
    go_ret
    exact ⟨.no hnp.out, hb⟩
  subst hb1
  rcases Bool.eq_false_or_eq_true b2 with hb2 | hb2
  rotate_left
  · subst hb2
    have hnp : Hid (¬ RightP M) := fun h => by have := H2.out.2 (HM.out.2.2.2.1 ▸ h.1.2.2.1); cases this
    go_wp2
    go_ret
    exact ⟨.no hnp.out, hb⟩
  subst hb2
  rcases Bool.eq_false_or_eq_true b3 with hb3 | hb3
  rotate_left
  · subst hb3
    have hnp : Hid (¬ RightP M) := fun h => by have := H3.out.2 (HM.out.2.2.2.2.2.1 ▸ h.2.1.1); cases this
    go_wp2
    go_ret
    exact ⟨.no hnp.out, hb⟩
  subst hb3
  rcases Bool.eq_false_or_eq_true b4 with hb4 | hb4
  rotate_left
  · subst hb4
    have hnp : Hid (¬ RightP M) := fun h => by have := H4.out.2 (HM.out.2.2.2.2.2.2.1 ▸ h.2.1.2.1); cases this
    go_wp2
    go_ret
    exact ⟨.no hnp.out, hb⟩
  subst hb4
  rcases Bool.eq_false_or_eq_true b5 with hb5 | hb5
  rotate_left
  · subst hb5
    have hnp : Hid (¬ RightP M) := fun h => by have := H5.out.2 (HM.out.2.2.2.2.2.2.2.1 ▸ h.2.1.2.2); cases this
    go_wp2
    go_ret
    exact ⟨.no hnp.out, hb⟩
  subst hb5
  rcases Bool.eq_false_or_eq_true b6 with hb6 | hb6
  rotate_left
  · subst hb6
    have hnp : Hid (¬ RightP M) := fun h => by have h3 := h.1.2.2.2; rw [HM.out.2.2.2.2.1] at h3; have := H6.out.2 ⟨by omega, h3.2⟩; cases this
    go_wp2
    go_ret
    exact ⟨.no hnp.out, hb⟩
  subst hb6
  by_cases ht : term < 1
  · have hnp : Hid (¬ RightP M) := fun h => by have h3 := h.1.2.2.2.1; rw [HM.out.2.2.2.2.1] at h3; omega
    go_wp2
    go_ret
    exact ⟨.no hnp.out, hb⟩
  by_cases hg1 : group < 1
  · have hnp : Hid (¬ RightP M) := fun h => by have h3 := h.1.1.1; rw [HM.out.2.1] at h3; omega
    go_wp2
    go_ret
    exact ⟨.no hnp.out, hb⟩
  by_cases hg2 : 255 < group
  · have hnp : Hid (¬ RightP M) := fun h => by have h3 := h.1.1.2; rw [HM.out.2.1] at h3; omega
    go_wp2
    go_ret
    exact ⟨.no hnp.out, hb⟩
  have ht' : decide (term < 1) = false := by simp; omega
  have hg1' : decide (group < 1) = false := by simp; omega
  have hg2' : decide (255 < group) = false := by simp; omega
  have HH : Hid (HeadP M) := by
    obtain ⟨e1, e2, e3, e4, e5, _⟩ := HM.out
    refine ⟨by rw [e2]; omega, e3 ▸ H1.out.1 rfl, e4 ▸ H2.out.1 rfl, by rw [e5]; exact ⟨by omega, (H6.out.1 rfl).2⟩⟩
  have HC : Hid (CountsP M) := by
    obtain ⟨_, _, _, _, _, e5, e6, e7, _⟩ := HM.out
    exact ⟨e5 ▸ H3.out.1 rfl, e6 ▸ H4.out.1 rfl, e7 ▸ H5.out.1 rfl⟩
  have HK : Hid (RightP M ↔ KindP M) := ⟨fun h => h.2.2, fun h => ⟨HH.out, HC.out, h⟩⟩
  clear H1 H2 H3 H4 H5 H6
  have HX : Hid (M.kind = kind ∧ M.term = term ∧ M.logTerm = logTerm ∧ M.commit = commit ∧ M.ok = ok ∧ M.index = index ∧ M.entries.length = ne ∧ M.members.length = nm ∧ M.data.length = nd) := by
    obtain ⟨h1, h2, h3, h4, h5, h6, h7, h8, h9, h10, h11, h12⟩ := HM.out
    obtain ⟨n1, n2, n3⟩ := HN.out
    exact ⟨h1, h5, h7, h8, h9, h6, by rw [h10, n1], by rw [h11, n2], by rw [h12, n3]⟩
  clear hg1 hg2 ht
  by_cases hk1 : kind = 1
  · subst hk1
    have KP := Lib.hid (kindP_1 HX.out.1)
    have HBW := Lib.hid (fun C : Array Value => below1' w (.cells C 51))
    clear hb
    go_wp2
    all_goals
      go_ret
      refine ⟨.of (Iff.trans ?_ (HK.out.trans KP.out).symm), HBW.out _⟩
      obtain ⟨e0, e1, e2, e3, e4, e5, e6, e7, e8⟩ := HX.out
      unfold NoneP
      rw [e3, e4, e6, e7, e8]
      simp_all
  by_cases hk2 : kind = 2
  · subst hk2
    have KP := Lib.hid (kindP_2 HX.out.1)
    have HBW := Lib.hid (fun C : Array Value => below1' w (.cells C 51))
    clear hb
    go_wp2
    all_goals
      go_ret
      refine ⟨.of (Iff.trans ?_ (HK.out.trans KP.out).symm), HBW.out _⟩
      obtain ⟨e0, e1, e2, e3, e4, e5, e6, e7, e8⟩ := HX.out
      unfold NoneP
      rw [e5, e2, e3, e6, e7, e8]
      simp_all
  by_cases hk4 : kind = 4
  · subst hk4
    have KP := Lib.hid (kindP_4 HX.out.1)
    have HBW := Lib.hid (fun C : Array Value => below1' w (.cells C 51))
    clear hb
    go_wp2
    all_goals
      go_ret
      refine ⟨.of (Iff.trans ?_ (HK.out.trans KP.out).symm), HBW.out _⟩
      obtain ⟨e0, e1, e2, e3, e4, e5, e6, e7, e8⟩ := HX.out
      unfold NoneP
      rw [e2, e3, e6, e7, e8]
      simp_all
  by_cases hk5 : kind = 5
  · subst hk5
    have KP := Lib.hid (kindP_5 HX.out.1)
    have B := fun (j : Nat) (x : Value) (h : (#[.int .i64 5, .int .i64 group, .int .i64 frm, .int .i64 dst, .int .i64 term, .int .i64 index, .int .i64 logTerm, .int .i64 commit, .bool ok, .slice a.e ne a.ec, .slice a.m nm a.mc, .slice a.d nd a.dc] : Array Value)[j]? = some x) => Cell.new w #[.int .i64 5, .int .i64 group, .int .i64 frm, .int .i64 dst, .int .i64 term, .int .i64 index, .int .i64 logTerm, .int .i64 commit, .bool ok, .slice a.e ne a.ec, .slice a.m nm a.mc, .slice a.d nd a.dc] 51 j x h
    have B4 := B 4 _ rfl
    have B6 := B 6 _ rfl
    have B7 := B 7 _ rfl
    have B8 := B 8 _ rfl
    have B11 := B 11 _ rfl
    have ME := Lib.hid (rmembers_any M.members a.m nm a.mc _ HX.out.2.2.2.2.2.2.2.1.symm ((HRd.out.rm.below hb).more hb.size) (by have := HS.out.sm; rw [HX.out.2.2.2.2.2.2.2.1] at this; omega))
    clear B
    rcases hbI : (index == 0) with _ | _ <;> rcases hbM : ((nm : Int) == 0) with _ | _
    all_goals
      go_wp2_with fail
      refine ME.out.mono ?_
      rintro e w2 ⟨⟨b, rfl, hbb⟩, h2⟩
      have HE := Lib.hid hbb
      have x4 := (B4.keep h2).1
      have x6 := (B6.keep h2).1
      have x7 := (B7.keep h2).1
      have x8 := (B8.keep h2).1
      have x11 := (B11.keep h2).1
      have hb2 := hb.trans (h2.mono hb.size)
      clear hbb h2 ME B4 B6 B7 B8 B11
      go_wp2
      all_goals
        go_ret
        refine ⟨.of (Iff.trans ?_ (HK.out.trans KP.out).symm), hb2⟩
        obtain ⟨e0, e1, e2, e3, e4, e5, e6, e7, e8⟩ := HX.out
        rw [e1, e2, e3, e4, e6, e8, ← HE.out]
        simp_all <;> (try intros) <;> (try omega)
  by_cases hk3 : kind = 3
  · subst hk3
    rcases hbI : (index == 0) with _ | _
    all_goals
      have KP := Lib.hid (kindP_3 HX.out.1)
      by_cases hok : ok = true
      · subst hok
        have hnp : Hid (¬ RightP M) := fun h => by
          have h := (KP.out.1 (HK.out.1 h)).1
          rw [HX.out.2.2.2.2.1] at h
          cases h
        have HBW := Lib.hid (fun C : Array Value => below1' w (.cells C 51))
        clear hb
        go_wp2
        all_goals
          go_ret
          exact ⟨.no hnp.out, HBW.out _⟩
      have hok : ok = false := by simpa using hok
      subst hok
      by_cases hm : nm = 0
      rotate_left
      · have hnp : Hid (¬ RightP M) := fun h => by
          have h := (KP.out.1 (HK.out.1 h)).2.1.1
          rw [HX.out.2.2.2.2.2.2.2.1] at h
          exact hm h
        have hf : ((nm : Int) == 0) = false := by rw [beq_eq_false_iff_ne]; omega
        have HBW := Lib.hid (fun C : Array Value => below1' w (.cells C 51))
        clear hb
        go_wp2
        all_goals
          go_ret
          exact ⟨.no hnp.out, HBW.out _⟩
      subst hm
      by_cases hd : nd = 0
      rotate_left
      · have hnp : Hid (¬ RightP M) := fun h => by
          have h := (KP.out.1 (HK.out.1 h)).2.1.2
          rw [HX.out.2.2.2.2.2.2.2.2] at h
          exact hd h
        have hf : ((nd : Int) == 0) = false := by rw [beq_eq_false_iff_ne]; omega
        have HBW := Lib.hid (fun C : Array Value => below1' w (.cells C 51))
        clear hb
        go_wp2
        all_goals
          go_ret
          exact ⟨.no hnp.out, HBW.out _⟩
      subst hd
      by_cases hbig : 64 < ne
      · have hnp : Hid (¬ RightP M) := fun h => by
          have h := (KP.out.1 (HK.out.1 h)).2.2.2.1
          rw [HX.out.2.2.2.2.2.2.1] at h
          omega
        have HBW := Lib.hid (fun C : Array Value => below1' w (.cells C 51))
        clear hb
        go_wp2
        all_goals
          go_ret
          exact ⟨.no hnp.out, HBW.out _⟩
      have hbig' : decide (64 < (ne : Int)) = false := by simp; omega
      by_cases hlt : term < logTerm
      · have hnp : Hid (¬ RightP M) := fun h => by
          have h := (KP.out.1 (HK.out.1 h)).2.2.1
          rw [HX.out.2.2.1, HX.out.2.1] at h
          omega
        have HBW := Lib.hid (fun C : Array Value => below1' w (.cells C 51))
        clear hb
        go_wp2
        all_goals
          go_ret
          exact ⟨.no hnp.out, HBW.out _⟩
      have hle : decide (term < logTerm) = false := by simp; omega
      have hi : CountP index := by have := HC.out.1; rw [HX.out.2.2.2.2.2.1] at this; exact this
      have hi1 : 0 ≤ index := hi.1
      have hi2 : index ≤ 9007199254740991 := hi.2
      have HES : Hid (M.entries = es) := HM.out.2.2.2.2.2.2.2.2.2.1
      have HP : Hid (RightP M ↔ ∀ i (h : i < es.length), EntP es[i] ∧ es[i].index = index + 1 + i ∧ es[i].term ≤ term) := by
        refine HK.out.trans (KP.out.trans ?_)
        obtain ⟨e0, e1, e2, e3, e4, e5, e6, e7, e8⟩ := HX.out
        unfold NoneP EntriesP GoodE
        rw [HES.out, e1, e2, e4, e5, e7, e8]
        exact ⟨fun h => h.2.2.2.2, fun h => ⟨rfl, ⟨rfl, rfl⟩, by omega, by have := HN.out.1; omega, h⟩⟩
      have HE : Hid (Ents (w.alloc (.cells #[.int .i64 3, .int .i64 group, .int .i64 frm, .int .i64 dst, .int .i64 term, .int .i64 index, .int .i64 logTerm, .int .i64 commit, .bool false, .slice a.e ne a.ec, .slice a.m 0 a.mc, .slice a.d 0 a.dc] 51)) (w.alloc (.cells #[.int .i64 3, .int .i64 group, .int .i64 frm, .int .i64 dst, .int .i64 term, .int .i64 index, .int .i64 logTerm, .int .i64 commit, .bool false, .slice a.e ne a.ec, .slice a.m 0 a.mc, .slice a.d 0 a.dc] 51)).heap.size a.e es) := by
        have := (HRd.out.re.below hb).more hb.size
        rw [HES.out] at this
        exact this
      have HSE : Hid (∀ e ∈ es, e.data.length ≤ 1048576) := by have := HS.out.sed; rw [HES.out] at this; exact this
      have HNe : Hid (ne = es.length) := HN.out.1
      have B := fun (j : Nat) (x : Value) (h : (#[.int .i64 3, .int .i64 group, .int .i64 frm, .int .i64 dst, .int .i64 term, .int .i64 index, .int .i64 logTerm, .int .i64 commit, .bool false, .slice a.e ne a.ec, .slice a.m 0 a.mc, .slice a.d 0 a.dc] : Array Value)[j]? = some x) => Cell.new w #[.int .i64 3, .int .i64 group, .int .i64 frm, .int .i64 dst, .int .i64 term, .int .i64 index, .int .i64 logTerm, .int .i64 commit, .bool false, .slice a.e ne a.ec, .slice a.m 0 a.mc, .slice a.d 0 a.dc] 51 j x h
      have B4 := Lib.hid (B 4 _ rfl)
      have B5 := Lib.hid (B 5 _ rfl)
      have B9 := Lib.hid (B 9 _ rfl)
      clear B hi HK KP HX HM HN HH HC HES
      go_wp2
      obtain ⟨W, hW⟩ : ∃ W, W = w.alloc (.cells #[.int .i64 3, .int .i64 group, .int .i64 frm, .int .i64 dst, .int .i64 term, .int .i64 index, .int .i64 logTerm, .int .i64 commit, .bool false, .slice a.e ne a.ec, .slice a.m 0 a.mc, .slice a.d 0 a.dc] 51) := ⟨_, rfl⟩
      obtain ⟨r, hrr⟩ : ∃ r, r = w.heap.size := ⟨_, rfl⟩
      rw [← hW] at HE hb B4 B5 B9
      rw [← hrr] at B4 B5 B9
      rw [← hW, ← hrr]
      clear hW hrr
      go_loopw [13] (fun s13 wr => ∃ k : Nat, s13 = .int .i64 k ∧ k ≤ ne ∧ Below W.heap.size W wr ∧ Hid (∀ i (h : i < es.length), i < k → EntP es[i] ∧ es[i].index = index + 1 + i ∧ es[i].term ≤ term)) (fun s13 _ => ne - (intOf s13).toNat)
      case atStart => exact ⟨0, rfl, by omega, Below.refl _ _, fun i h hi => absurd hi (by omega)⟩
      case round =>
        obtain ⟨k, rfl, hk, hbk, HK⟩ := hrel
        have x9 := (B9.out.keep hbk).1
        by_cases hlt : k < ne
        · have hkl : k < es.length := by have := HNe.out; omega
          rcases HE.out with h0 | ⟨q, o, hA, hq, hc⟩
          · rw [h0] at hkl; simp at hkl
          rw [hA] at x9
          obtain ⟨D, c, c0, c1, c2, c3, hrd⟩ := hc k hkl
          have hsm := HSE.out _ (List.getElem_mem hkl)
          obtain ⟨y, hy⟩ : ∃ y, y = es[k] := ⟨_, rfl⟩
          rw [← hy] at c0 c1 c2 c3 hrd hsm
          have HY := Lib.hid hy
          obtain ⟨yi, yt, yk, yl⟩ := y
          simp only at c0 c1 c2 c3 hrd hsm
          have d0 := (hbk.cell (p := ⟨q, o + k * 4, none⟩) hq).trans c0
          have d1 := (hbk.cell (p := ⟨q, o + k * 4 + 1, none⟩) hq).trans c1
          have d2 := (hbk.cell (p := ⟨q, o + k * 4 + 2, none⟩) hq).trans c2
          have d3 := (hbk.cell (p := ⟨q, o + k * 4 + 3, none⟩) hq).trans c3
          have EN := Lib.hid (rentry_any yi yt yk D yl.length c yl wr rfl ((hrd.below hbk).more hbk.size))
          have HQ := Lib.hid hq
          clear hc c0 c1 c2 c3 hrd hsm hy hA
          go_wp2_with fail
          refine EN.out.mono ?_
          rintro e w2 ⟨⟨b, rfl, hbb⟩, h2⟩
          have HBB := Lib.hid hbb
          have hb2 := hbk.trans (h2.mono hbk.size)
          have x4 := (B4.out.keep hb2).1
          have x5 := (B5.out.keep hb2).1
          have z9 : w2.cell? ⟨r, 9, none⟩ = some (.slice (some ⟨q, o, none⟩) ne a.ec) := (h2.cell (p := ⟨r, 9, none⟩) (World.block_lt_of_cell? wr _ x9)).trans x9
          have e0 := (h2.cell (p := ⟨q, o + k * 4, none⟩) (World.block_lt_of_cell? wr _ d0)).trans d0
          have e1 := (h2.cell (p := ⟨q, o + k * 4 + 1, none⟩) (World.block_lt_of_cell? wr _ d1)).trans d1
          clear hbb EN d0 d1 d2 d3 h2 hbk x9
          have hbf : Hid (∀ d, Below w.heap.size w (w2.drewN d)) := fun d => below_drewN (hb.trans (hb2.mono hb.size)) d
          have i0 : (k : Int) < (ne : Int) := by omega
          have hk64 : k ≤ 64 := by omega
          have hw1 : IntKind.i64.wrap (index + 1) = index + 1 := IntWalk.i64_in _ (by omega)
          have hw2 : IntKind.i64.wrap (index + 1 + (k : Int)) = index + 1 + (k : Int) := IntWalk.i64_in _ (by omega)
          cases b with
          | false =>
            have hnp : Hid (¬ RightP M) := fun h => by
              have h3 := (HP.out.1 h k hkl).1
              rw [← HY.out] at h3
              have := HBB.out.2 h3
              cases this
            go_wp2_with fail
            go_quiet (fail)
            go_wp2
            go_ret
            exact ⟨.no hnp.out, hbf.out nq⟩
          | true =>
            have HE1 := Lib.hid (HBB.out.1 rfl)
            by_cases hix : yi = index + 1 + (k : Int)
            · by_cases hte : yt ≤ term
              · have hne : (yi != index + 1 + (k : Int)) = false := by simp [hix]
                have hgt : decide (term < yt) = false := by simp; omega
                have HN1 : Hid (∀ i (h : i < es.length), i < k + 1 → EntP es[i] ∧ es[i].index = index + 1 + i ∧ es[i].term ≤ term) := by
                  intro i h hi
                  by_cases hik : i = k
                  · subst hik
                    rw [← HY.out]
                    exact ⟨HE1.out, hix, hte⟩
                  · exact HK.out i h (by omega)
                clear hix
                go_wp2_with fail
                go_quiet (fail)
                go_wp2
                go_roundw
                case rel => exact ⟨k + 1, by go_num, by omega, below_drewN hb2 nq, HN1⟩
                case measure => simp [intOf]; omega
              · have hnp : Hid (¬ RightP M) := fun h => by
                  have h3 := (HP.out.1 h k hkl).2.2
                  rw [← HY.out] at h3
                  exact hte h3
                have hne : (yi != index + 1 + (k : Int)) = false := by simp [hix]
                have hgt : term < yt := by omega
                clear hix
                go_wp2_with fail
                go_quiet (fail)
                go_wp2
                go_ret
                exact ⟨.no hnp.out, hbf.out nq⟩
            · have hnp : Hid (¬ RightP M) := fun h => by
                have h3 := (HP.out.1 h k hkl).2.1
                rw [← HY.out] at h3
                exact hix h3
              have hne : (yi != index + 1 + (k : Int)) = true := by simpa using hix
              clear hix
              go_wp2_with fail
              go_quiet (fail)
              go_wp2
              go_ret
              exact ⟨.no hnp.out, hbf.out nq⟩
        · have hkn : k = ne := by omega
          subst hkn
          have hp : Hid (RightP M) := HP.out.2 (fun i h => HK.out i h (by have := HNe.out; omega))
          have hbf : Hid (Below w.heap.size w wr) := hb.trans (hbk.mono hb.size)
          go_wp2
          go_ret
          exact ⟨.yes hp.out, hbf.out⟩
  have hnp : Hid (¬ RightP M) := fun h => by
    obtain ⟨e0, _⟩ := HX.out
    rw [← e0] at hk1 hk2 hk3 hk4 hk5
    exact kindP_o hk1 hk2 hk3 hk4 hk5 h.2.2
  have hn1 : (kind == 1) = false := by rw [beq_eq_false_iff_ne]; exact hk1
  have hn2 : (kind == 2) = false := by rw [beq_eq_false_iff_ne]; exact hk2
  have hn3 : (kind == 3) = false := by rw [beq_eq_false_iff_ne]; exact hk3
  have hn4 : (kind == 4) = false := by rw [beq_eq_false_iff_ne]; exact hk4
  have hn5 : (kind == 5) = false := by rw [beq_eq_false_iff_ne]; exact hk5
  have HBW := Lib.hid (fun C : Array Value => below1' w (.cells C 51))
  go_wp2
  all_goals
    go_ret
    exact ⟨.no hnp.out, HBW.out _⟩
end Go.Proofs.Ytekgmgiokmbliaa
