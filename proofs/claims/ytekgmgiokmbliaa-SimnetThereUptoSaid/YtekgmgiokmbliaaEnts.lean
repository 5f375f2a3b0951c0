/-
  The reference's Entry; isEntries.
-/
import Derived.Test.YtekgmgiokmbliaaEntry
set_option linter.unusedVariables false
namespace Go.Proofs.Ytekgmgiokmbliaa
open Go.RowKit

set_option maxHeartbeats 1600000 in
set_option maxRecDepth 100000 in
theorem rentry_any (i t k : Int) (A : Option Addr) (n c : Nat) (l : List UInt8) (w : World) (hn : n = l.length) (hr : Rd w w.heap.size A l) :
    Calls Try.prog 54 #[entV i t k A n c] w fun e w' => Tells e (EntP ⟨i, t, k, l⟩) ∧ Below w.heap.size w w' := by
  unfold entV
  have hb := below1' w (.cells #[.int .i64 i, .int .i64 t, .int .i64 k, .slice A n c] 74)
  have HR := Lib.hid ((hr.below hb).more hb.size)
  have HN := Lib.hid hn
  clear hr hn
  go_enter Try.func54, Try.ntmps54
  go_wp2_with fail
  refine (rcount_any _ _).mono ?_
  rintro e w1 ⟨⟨b, rfl, hC⟩, rfl⟩
  have HC := Lib.hid hC
  clear hC
  go_wp2_with fail
  refine (rcount_any _ _).mono ?_
  rintro e w1 ⟨⟨b2, rfl, hT⟩, rfl⟩
  have HT := Lib.hid hT
  clear hT
  cases b with
  | false =>
    go_wp2
    go_ret
    exact ⟨.no (fun h => by have := HC.out.2 h.2.1; cases this), hb⟩
  | true =>
    replace HC := Lib.hid (HC.out.1 rfl)
    cases b2 with
    | false =>
      go_wp2
      go_ret
      exact ⟨.no (fun h => by have h1 : 1 ≤ t ∧ t ≤ 9007199254740991 := h.1; have := HT.out.2 ⟨by omega, h1.2⟩; cases this), hb⟩
    | true =>
      by_cases ht1 : t < 1
      · go_wp2
        go_ret
        exact ⟨.no (fun h => by have := h.1.1; simp only at this; omega), hb⟩
      replace HT : Hid (1 ≤ t ∧ t ≤ 9007199254740991) := ⟨by omega, (HT.out.1 (by trivial)).2⟩
      by_cases hk1 : k = 1
      · subst hk1
        go_wp2
        go_ret
        refine ⟨.of (Iff.trans ?_ (entP_1 HT.out HC.out).symm), hb⟩
        have hn := HN.out
        rw [← hn]
        simp
      · by_cases hk2 : k = 2
        · subst hk2
          go_wp2
          go_ret
          refine ⟨.of (Iff.trans ?_ (entP_2 HT.out HC.out).symm), hb⟩
          have hn := HN.out
          simp; omega
        · by_cases hk3 : k = 3
          · subst hk3
            have NU := Lib.hid (rmemberbytes_any l A n c _ HN.out HR.out)
            go_wp2_with fail
            refine NU.out.mono ?_
            rintro e w2 ⟨⟨b, rfl, hbb⟩, h2⟩
            have h3 := hb.trans (h2.mono hb.size)
            have HBB := Lib.hid hbb
            clear hbb h2 NU
            go_wp2
            go_ret
            exact ⟨.of (Iff.trans HBB.out (entP_3 HT.out HC.out).symm), h3⟩
          · have hn1 : (k == 1) = false := by rw [beq_eq_false_iff_ne]; exact hk1
            have hn2 : (k == 2) = false := by rw [beq_eq_false_iff_ne]; exact hk2
            have hn3 : (k == 3) = false := by rw [beq_eq_false_iff_ne]; exact hk3
            go_wp2
            go_ret
            exact ⟨.no (entP_o hk1 hk2 hk3), hb⟩

/-- the slice at A reads as these entries -/
def Ents (w : World) (B : Nat) (A : Option Addr) (es : List Ent) : Prop := es = [] ∨ ∃ g o, A = some ⟨g, o, none⟩ ∧ g < B ∧ ∀ i (h : i < es.length), ∃ D c,
  w.cell? ⟨g, o + i * 4, none⟩ = some (.int .i64 es[i].index) ∧ w.cell? ⟨g, o + i * 4 + 1, none⟩ = some (.int .i64 es[i].term) ∧ w.cell? ⟨g, o + i * 4 + 2, none⟩ = some (.int .i64 es[i].kind) ∧ w.cell? ⟨g, o + i * 4 + 3, none⟩ = some (.slice D es[i].data.length c) ∧ Rd w B D es[i].data
theorem Ents.below {w w' : World} {B : Nat} {A : Option Addr} {es : List Ent} (h : Ents w B A es) (hb : Below B w w') : Ents w' B A es := by
  rcases h with h | ⟨g, o, hA, hg, hc⟩
  · exact .inl h
  · refine .inr ⟨g, o, hA, hg, fun i hi => ?_⟩
    obtain ⟨D, c, h0, h1, h2, h3, h4⟩ := hc i hi
    exact ⟨D, c, (hb.cell (p := ⟨g, o + i * 4, none⟩) hg).trans h0, (hb.cell (p := ⟨g, o + i * 4 + 1, none⟩) hg).trans h1, (hb.cell (p := ⟨g, o + i * 4 + 2, none⟩) hg).trans h2, (hb.cell (p := ⟨g, o + i * 4 + 3, none⟩) hg).trans h3, h4.below hb⟩
theorem Ents.more {w : World} {B B' : Nat} {A : Option Addr} {es : List Ent} (h : Ents w B A es) (hB : B ≤ B') : Ents w B' A es := by
  rcases h with h | ⟨g, o, hA, hg, hc⟩
  · exact .inl h
  · refine .inr ⟨g, o, hA, by omega, fun i hi => ?_⟩
    obtain ⟨D, c, h0, h1, h2, h3, h4⟩ := hc i hi
    exact ⟨D, c, h0, h1, h2, h3, h4.more hB⟩

/-- where a message's lists lie -/
structure At where
  e : Option Addr
  ec : Nat
  m : Option Addr
  mc : Nat
  d : Option Addr
  dc : Nat
def msgC (m : Msg) (a : At) : Array Value := #[.int .i64 m.kind, .int .i64 m.group, .int .i64 m.frm, .int .i64 m.dst, .int .i64 m.term, .int .i64 m.index, .int .i64 m.logTerm, .int .i64 m.commit, .bool m.ok, .slice a.e m.entries.length a.ec, .slice a.m m.members.length a.mc, .slice a.d m.data.length a.dc]
def msgV (m : Msg) (a : At) : Value := .agg (msgC m a)
/-- its lists read -/
structure MRd (w : World) (B : Nat) (m : Msg) (a : At) : Prop where
  re : Ents w B a.e m.entries
  rm : RdI w B a.m m.members
  rd : Rd w B a.d m.data
theorem MRd.below {w w' : World} {B : Nat} {m : Msg} {a : At} (h : MRd w B m a) (hb : Below B w w') : MRd w' B m a := ⟨h.re.below hb, h.rm.below hb, h.rd.below hb⟩
theorem MRd.more {w : World} {B B' : Nat} {m : Msg} {a : At} (h : MRd w B m a) (hB : B ≤ B') : MRd w B' m a := ⟨h.re.more hB, h.rm.more hB, h.rd.more hB⟩
/-- no list is large -/
structure Small (m : Msg) : Prop where
  se : m.entries.length ≤ 1048576
  sed : ∀ e ∈ m.entries, e.data.length ≤ 1048576
  sm : m.members.length ≤ 1048576
  sd : m.data.length ≤ 1048576

set_option maxHeartbeats 3200000 in
set_option maxRecDepth 100000 in
theorem entries_any (m : Msg) (a : At) (w : World) (hr : MRd w w.heap.size m a) (hs : Small m) (hi : CountP m.index) :
    Calls Try.prog 60 #[msgV m a] w fun e w' => Tells e (EntriesP m) ∧ Below w.heap.size w w' := by
  obtain ⟨kind, group, frm, dst, term, index, logTerm, commit, ok, es, mem, dat⟩ := m
  have hb := below1' w (.cells (msgC ⟨kind, group, frm, dst, term, index, logTerm, commit, ok, es, mem, dat⟩ a) 51)
  have B4 := Lib.hid (Cell.new w (msgC ⟨kind, group, frm, dst, term, index, logTerm, commit, ok, es, mem, dat⟩ a) 51 4 (.int .i64 term) rfl)
  have B5 := Lib.hid (Cell.new w (msgC ⟨kind, group, frm, dst, term, index, logTerm, commit, ok, es, mem, dat⟩ a) 51 5 (.int .i64 index) rfl)
  have HE := Lib.hid ((hr.re.below hb).more hb.size)
  have HS := Lib.hid hs.sed
  have hi1 : 0 ≤ index := hi.1
  have hi2 : index ≤ 9007199254740991 := hi.2
  have HP := Lib.hid (show EntriesP ⟨kind, group, frm, dst, term, index, logTerm, commit, ok, es, mem, dat⟩ ↔ (es.length ≤ 64 ∧ ∀ i (h : i < es.length), EntP es[i] ∧ es[i].index = index + 1 + i ∧ es[i].term ≤ term) from Iff.rfl)
  obtain ⟨P, hP⟩ : ∃ P, P = EntriesP ⟨kind, group, frm, dst, term, index, logTerm, commit, ok, es, mem, dat⟩ := ⟨_, rfl⟩
  rw [← hP] at HP
  rw [← hP]
  simp only [msgV, msgC] at hb B4 B5 HE HS ⊢
  clear hr hs hi hP
  obtain ⟨n, hn⟩ : ∃ n, n = es.length := ⟨_, rfl⟩
  rw [← hn] at hb B4 B5 HE ⊢
  have HN := Lib.hid hn
  clear hn
  by_cases hbig : 64 < n
  · have hnp : Hid (¬ P) := fun h => by have := (HP.out.1 h).1; have := HN.out; omega
    go_enter Try.func60, Try.ntmps60
    go_wp2
    go_ret
    exact ⟨.no hnp.out, hb⟩
  obtain ⟨W, hW⟩ : ∃ W, W = w.alloc (.cells #[.int .i64 kind, .int .i64 group, .int .i64 frm, .int .i64 dst, .int .i64 term, .int .i64 index, .int .i64 logTerm, .int .i64 commit, .bool ok, .slice a.e n a.ec, .slice a.m mem.length a.mc, .slice a.d dat.length a.dc] 51) := ⟨_, rfl⟩
  obtain ⟨r, hrr⟩ : ∃ r, r = w.heap.size := ⟨_, rfl⟩
  have hrW : r < W.heap.size := by rw [hW, hrr]; simp
  rw [← hW] at HE hb
  rw [← hW, ← hrr] at B4 B5
  have HW := Lib.hid hW
  have HRR := Lib.hid hrr
  clear hW hrr
  go_enter Try.func60, Try.ntmps60
  go_wp2
  rw [← HW.out, ← HRR.out]
  go_loopw [12] (fun s12 wr => ∃ k : Nat, s12 = .int .i64 k ∧ k ≤ n ∧ Below W.heap.size W wr ∧ Hid (∀ i (h : i < es.length), i < k → EntP es[i] ∧ es[i].index = index + 1 + i ∧ es[i].term ≤ term)) (fun s12 _ => n - (intOf s12).toNat)
  case atStart => exact ⟨0, rfl, by omega, Below.refl _ _, fun i h hi => absurd hi (by omega)⟩
  case round =>
    obtain ⟨k, rfl, hk, hbk, HK⟩ := hrel
    by_cases hlt : k < n
    · have hkl : k < es.length := by have := HN.out; omega
      rcases HE.out with h0 | ⟨q, o, hA, hq, hc⟩
      · rw [h0] at hkl; simp at hkl
      rw [hA]
      obtain ⟨D, c, c0, c1, c2, c3, hrd⟩ := hc k hkl
      have hsm := HS.out _ (List.getElem_mem hkl)
      obtain ⟨y, hy⟩ : ∃ y, y = es[k] := ⟨_, rfl⟩
      rw [← hy] at c0 c1 c2 c3 hrd hsm
      have HY := Lib.hid hy
      obtain ⟨yi, yt, yk, yl⟩ := y
      simp only at c0 c1 c2 c3 hrd hsm
      have d0 := (hbk.cell (p := ⟨q, o + k * 4, none⟩) hq).trans c0
      have d1 := (hbk.cell (p := ⟨q, o + k * 4 + 1, none⟩) hq).trans c1
      have d2 := (hbk.cell (p := ⟨q, o + k * 4 + 2, none⟩) hq).trans c2
      have d3 := (hbk.cell (p := ⟨q, o + k * 4 + 3, none⟩) hq).trans c3
      have hV := below1' wr (.cells #[.int .i64 yi, .int .i64 yt, .int .i64 yk, .slice D yl.length c] 74)
      have V0 := Cell.new wr #[.int .i64 yi, .int .i64 yt, .int .i64 yk, .slice D yl.length c] 74 0 _ rfl
      have V1 := Cell.new wr #[.int .i64 yi, .int .i64 yt, .int .i64 yk, .slice D yl.length c] 74 1 _ rfl
      have EN := Lib.hid (entry_any yi yt yk D yl.length c yl _ rfl (((hrd.below hbk).below (hV.mono hbk.size)).more (Nat.le_trans hbk.size hV.size)) hsm)
      have hbV := hbk.trans (hV.mono hbk.size)
      clear hc c0 c1 c2 c3 hrd hsm hy hV hbk hA
      go_wp2_with fail
      refine EN.out.mono ?_
      rintro e w2 ⟨⟨b, rfl, hbb⟩, h2⟩
      have HBB := Lib.hid hbb
      have v0 := (V0.keep h2).1
      have v1 := (V1.keep h2).1
      have hb2 := hbV.trans (h2.mono hbV.size)
      have x4 := (B4.out.keep hb2).1
      have x5 := (B5.out.keep hb2).1
      obtain ⟨u, hu⟩ : ∃ u, u = wr.heap.size := ⟨_, rfl⟩
      rw [← hu] at v0 v1
      rw [← hu]
      clear hbb V0 V1 EN d0 d1 d2 d3 hu h2 hbV
      have hbf : Hid (Below w.heap.size w w2) := hb.trans (hb2.mono hb.size)
      cases b with
      | false =>
        have hnp : Hid (¬ P) := fun h => by
          have h3 := ((HP.out.1 h).2 k hkl).1
          rw [← HY.out] at h3
          have := HBB.out.2 h3
          cases this
        go_wp2
        go_ret
        exact ⟨.no hnp.out, hbf.out⟩
      | true =>
        have HE1 := Lib.hid (HBB.out.1 rfl)
        by_cases hix : yi = index + 1 + (k : Int)
        · by_cases hte : yt ≤ term
          · have hne : (yi != index + 1 + (k : Int)) = false := by simp [hix]
            have hgt : decide (term < yt) = false := by simp; omega
            have HN1 : Hid (∀ i (h : i < es.length), i < k + 1 → EntP es[i] ∧ es[i].index = index + 1 + i ∧ es[i].term ≤ term) := by
              intro i h hi
              by_cases hik : i = k
              · subst hik
                rw [← HY.out]
                exact ⟨HE1.out, hix, hte⟩
              · exact HK.out i h (by omega)
            clear hix
            go_wp2
            go_roundw
            case rel => exact ⟨k + 1, by go_num, by omega, hb2, HN1⟩
            case measure => simp [intOf]; omega
          · have hnp : Hid (¬ P) := fun h => by
              have h3 := ((HP.out.1 h).2 k hkl).2.2
              rw [← HY.out] at h3
              exact hte h3
            have hne : (yi != index + 1 + (k : Int)) = false := by simp [hix]
            have hgt : term < yt := by omega
            clear hix
            go_wp2
            go_ret
            exact ⟨.no hnp.out, hbf.out⟩
        · have hnp : Hid (¬ P) := fun h => by
            have h3 := ((HP.out.1 h).2 k hkl).2.1
            rw [← HY.out] at h3
            exact hix h3
          have hne : (yi != index + 1 + (k : Int)) = true := by simpa using hix
          clear hix
          go_wp2
          go_ret
          exact ⟨.no hnp.out, hbf.out⟩
    · have hkn : k = n := by omega
      subst hkn
      have hp : Hid P := HP.out.2 ⟨by have := HN.out; omega, fun i h => HK.out i h (by have := HN.out; omega)⟩
      have hbf : Hid (Below w.heap.size w wr) := hb.trans (hbk.mono hb.size)
      go_wp2
      go_ret
      exact ⟨.yes hp.out, hbf.out⟩
end Go.Proofs.Ytekgmgiokmbliaa
