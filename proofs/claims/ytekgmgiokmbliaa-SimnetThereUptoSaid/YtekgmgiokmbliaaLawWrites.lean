/-
  The law of SimnetWrites.
-/
import Derived.Test.YtekgmgiokmbliaaREnc
set_option linter.unusedVariables false
namespace Go.Proofs.Ytekgmgiokmbliaa
open Go.RowKit

def m0 : Msg := ⟨2, 1, 2, 1, 300, 0, 0, 0, true, [], [], []⟩
def a0 : At := ⟨none, 0, none, 0, none, 0⟩
theorem m0_right : RightP m0 := by
  refine ⟨⟨⟨by decide, by decide⟩, ⟨by decide, by decide⟩, ⟨by decide, by decide⟩, by decide, by decide⟩, ⟨⟨by decide, by decide⟩, ⟨by decide, by decide⟩, by decide, by decide⟩, .inr (.inl ⟨rfl, rfl, rfl, rfl, rfl, rfl, rfl⟩)⟩
theorem m0_bytes : encB m0 = [2, 1, 2, 1, 172, 2, 1] := by
  have h300 : vb 300 = [by8 172, by8 2] := by rw [vb_ge (by decide), vb_lt (by decide)]
  have h : encB m0 = [byI 2, byI 1, byI 2, byI 1] ++ vb 300 ++ [tb true] := rfl
  rw [h, h300]
  decide
theorem m0_small : Small m0 := ⟨by decide, (fun e h => nomatch h), by decide, by decide⟩
theorem m0_rd (w : World) : MRd w w.heap.size m0 a0 := ⟨.inl rfl, .inl rfl, Rd.nil_ _ _ _⟩

set_option maxHeartbeats 1600000 in
set_option maxRecDepth 100000 in
theorem coded_any (w : World) : Calls Try.prog 24 #[] w fun e w' => e = .returned (.bool true) ∧ Below w.heap.size w w' := by
  have EN := enc_ok m0 a0 w (m0_rd w) m0_small m0_right
  have hv : msgV m0 a0 = .agg #[.int .i64 2, .int .i64 1, .int .i64 2, .int .i64 1, .int .i64 300, .int .i64 0, .int .i64 0, .int .i64 0, .bool true, .slice none 0 0, .slice none 0 0, .slice none 0 0] := rfl
  rw [hv, m0_bytes] at EN
  have HEN := Lib.hid EN
  clear EN hv
  go_enter Try.func24, Try.ntmps24
  go_wp2_with fail
  refine HEN.out.mono ?_
  rintro e w2 ⟨v, rfl, o2, h2⟩
  obtain ⟨vA, vc, rfl, hrd⟩ := o2.rd
  have s5 := str_of hrd vc
  simp only [List.length_cons, List.length_nil, Nat.zero_add] at s5
  simp only [List.length_cons, List.length_nil, Nat.zero_add]
  clear hrd o2 HEN
  go_wp2
  go_ret
  exact ⟨rfl, h2⟩

set_option maxHeartbeats 3200000 in
set_option maxRecDepth 100000 in
theorem law_writes (m : Msg) (a : At) (w : World) (hr : MRd w w.heap.size m a) (hs : Small m) :
    Calls Try.prog 6 #[msgV m a] w fun e w' => e = .returned (.bool true) ∧ Below w.heap.size w w' := by
  have hb := below1' w (.cells (msgC m a) 51)
  have HRd : Hid (∀ W, Below w.heap.size w W → MRd W W.heap.size m a) := fun W hW => (hr.below hW).more hW.size
  have HS := Lib.hid hs
  obtain ⟨M, hM⟩ : ∃ M, M = m := ⟨_, rfl⟩
  have HV : Hid (msgV M a = .agg #[.int .i64 m.kind, .int .i64 m.group, .int .i64 m.frm, .int .i64 m.dst, .int .i64 m.term, .int .i64 m.index, .int .i64 m.logTerm, .int .i64 m.commit, .bool m.ok, .slice a.e m.entries.length a.ec, .slice a.m m.members.length a.mc, .slice a.d m.data.length a.dc]) := by rw [hM]; rfl
  rw [← hM] at HRd HS
  obtain ⟨kind, group, frm, dst, term, index, logTerm, commit, ok, es, mem, dat⟩ := m
  simp only [msgV, msgC] at hb HV ⊢
  obtain ⟨ne, hne⟩ : ∃ n, n = es.length := ⟨_, rfl⟩
  obtain ⟨nm, hnm⟩ : ∃ n, n = mem.length := ⟨_, rfl⟩
  obtain ⟨nd, hnd⟩ : ∃ n, n = dat.length := ⟨_, rfl⟩
  rw [← hne, ← hnm, ← hnd] at hb HV
  rw [← hne, ← hnm, ← hnd]
  have B := fun (j : Nat) (x : Value) (h : (#[.int .i64 kind, .int .i64 group, .int .i64 frm, .int .i64 dst, .int .i64 term, .int .i64 index, .int .i64 logTerm, .int .i64 commit, .bool ok, .slice a.e ne a.ec, .slice a.m nm a.mc, .slice a.d nd a.dc] : Array Value)[j]? = some x) => Cell.new w #[.int .i64 kind, .int .i64 group, .int .i64 frm, .int .i64 dst, .int .i64 term, .int .i64 index, .int .i64 logTerm, .int .i64 commit, .bool ok, .slice a.e ne a.ec, .slice a.m nm a.mc, .slice a.d nd a.dc] 51 j x h
  have B0 := B 0 (.int .i64 kind) rfl
  have B1 := B 1 (.int .i64 group) rfl
  have B2 := B 2 (.int .i64 frm) rfl
  have B3 := B 3 (.int .i64 dst) rfl
  have B4 := B 4 (.int .i64 term) rfl
  have B5 := B 5 (.int .i64 index) rfl
  have B6 := B 6 (.int .i64 logTerm) rfl
  have B7 := B 7 (.int .i64 commit) rfl
  have B8 := B 8 (.bool ok) rfl
  have B9 := B 9 (.slice a.e ne a.ec) rfl
  have B10 := B 10 (.slice a.m nm a.mc) rfl
  have B11 := B 11 (.slice a.d nd a.dc) rfl
  clear hr hs B hM hne hnm hnd
  go_enter Try.func6, Try.ntmps6
  go_wp2_with fail
  refine (coded_any _).mono ?_
  rintro e w1 ⟨rfl, h1⟩
  replace B0 := B0.keep h1
  replace B1 := B1.keep h1
  replace B2 := B2.keep h1
  replace B3 := B3.keep h1
  replace B4 := B4.keep h1
  replace B5 := B5.keep h1
  replace B6 := B6.keep h1
  replace B7 := B7.keep h1
  replace B8 := B8.keep h1
  replace B9 := B9.keep h1
  replace B10 := B10.keep h1
  replace B11 := B11.keep h1
  have hb1 := hb.trans (h1.mono hb.size)
  have HRd1 := Lib.hid (HRd.out w1 hb1)
  have hr0 := B0.lt
  obtain ⟨r, hrr⟩ : ∃ r, r = w.heap.size := ⟨_, rfl⟩
  rw [← hrr] at B0 B1 B2 B3 B4 B5 B6 B7 B8 B9 B10 B11 hr0
  rw [← hrr]
  have HRR := Lib.hid hrr
  have x0 := B0.1
  have x1 := B1.1
  have x2 := B2.1
  have x3 := B3.1
  have x4 := B4.1
  have x5 := B5.1
  have x6 := B6.1
  have x7 := B7.1
  have x8 := B8.1
  have x9 := B9.1
  have x10 := B10.1
  have x11 := B11.1
  clear hb HRd h1 hrr
  by_cases hP : RightP M
  · have EN := enc_ok M a w1 HRd1.out HS.out hP
    have RN := fun w2 hr2 => renc_ok M a w2 hr2 HS.out hP
    rw [show msgV M a = _ from HV.out] at EN RN
    replace EN := Lib.hid EN
    replace RN := Lib.hid RN
    clear hP
    go_wp2_with fail
    refine EN.out.mono ?_
    rintro e w2 ⟨v2, rfl, o2, h2⟩
    obtain ⟨A2, c2, rfl, hrd2⟩ := o2.rd
    replace x0 := (B0.keep h2).1
    replace x1 := (B1.keep h2).1
    replace x2 := (B2.keep h2).1
    replace x3 := (B3.keep h2).1
    replace x4 := (B4.keep h2).1
    replace x5 := (B5.keep h2).1
    replace x6 := (B6.keep h2).1
    replace x7 := (B7.keep h2).1
    replace x8 := (B8.keep h2).1
    replace x9 := (B9.keep h2).1
    replace x10 := (B10.keep h2).1
    replace x11 := (B11.keep h2).1
    have hb2 := hb1.trans (h2.mono hb1.size)
    have RN2 := Lib.hid (RN.out w2 ((HRd1.out.below h2).more h2.size))
    have HR2 := Lib.hid hrd2
    obtain ⟨L, hL⟩ : ∃ L, L = encB M := ⟨_, rfl⟩
    rw [← hL] at RN2 HR2
    rw [← hL]
    clear o2 h2 hrd2 EN RN hb1 hL
    go_wp2_with fail
    refine RN2.out.mono ?_
    rintro e w3 ⟨v3, rfl, o3, h3⟩
    obtain ⟨A3, c3, rfl, hrd3⟩ := o3.rd
    have hb3 := hb2.trans (h3.mono hb2.size)
    have s2 := str_of (HR2.out.below h3) c2
    have s3 := str_of hrd3 c3
    have hbf : Hid (Below w.heap.size w w3) := hb3
    obtain ⟨n, hn⟩ : ∃ n, n = L.length := ⟨_, rfl⟩
    rw [← hn] at s2 s3
    rw [← hn]
    clear o3 h3 hrd3 RN2 hb2 hb3 hn x0 x1 x2 x3 x4 x5 x6 x7 x8 x9 x10 x11 B0 B1 B2 B3 B4 B5 B6 B7 B8 B9 B10 B11
    go_wp2
    go_ret
    exact ⟨rfl, hbf.out⟩
  · have EN := enc_bad M a w1 HRd1.out HS.out hP
    have RN := fun w2 hr2 => renc_bad M a w2 hr2 HS.out hP
    rw [show msgV M a = _ from HV.out] at EN RN
    replace EN := Lib.hid EN
    replace RN := Lib.hid RN
    clear hP
    go_wp2_with fail
    refine EN.out.mono ?_
    rintro e w2 ⟨rfl, h2⟩
    replace x0 := (B0.keep h2).1
    replace x1 := (B1.keep h2).1
    replace x2 := (B2.keep h2).1
    replace x3 := (B3.keep h2).1
    replace x4 := (B4.keep h2).1
    replace x5 := (B5.keep h2).1
    replace x6 := (B6.keep h2).1
    replace x7 := (B7.keep h2).1
    replace x8 := (B8.keep h2).1
    replace x9 := (B9.keep h2).1
    replace x10 := (B10.keep h2).1
    replace x11 := (B11.keep h2).1
    have hb2 := hb1.trans (h2.mono hb1.size)
    have RN2 := Lib.hid (RN.out w2 ((HRd1.out.below h2).more h2.size))
    clear h2 EN RN hb1
    go_wp2_with fail
    refine RN2.out.mono ?_
    rintro e w3 ⟨rfl, h3⟩
    have hb3 := hb2.trans (h3.mono hb2.size)
    have s2 := str_of (Rd.nil_ w3 w3.heap.size none) 0
    simp only [List.length_nil] at s2
    have hbf : Hid (Below w.heap.size w w3) := hb3
    clear h3 RN2 hb2 hb3 x0 x1 x2 x3 x4 x5 x6 x7 x8 x9 x10 x11 B0 B1 B2 B3 B4 B5 B6 B7 B8 B9 B10 B11
    go_wp2
    go_ret
    exact ⟨rfl, hbf.out⟩
end Go.Proofs.Ytekgmgiokmbliaa
