/-
  The law of SimnetThere.
-/
import Derived.Test.YtekgmgiokmbliaaLawReads
set_option linter.unusedVariables false
namespace Go.Proofs.Ytekgmgiokmbliaa
open Go.RowKit

theorem ents_len : ∀ {es : List Ent}, (∀ e ∈ es, EntP e) → (es.flatMap entB).length ≤ es.length * 12100
  | [], _ => Nat.zero_le _
  | e :: es, h => by
    have h1 := h e (by simp)
    have h2 := ents_len (es := es) (fun x hx => h x (List.mem_cons_of_mem _ hx))
    have h3 := h1.data
    have h4 := vb_nine (n := e.term.toNat) (by have := h1.1; omega)
    have h5 := vb_nine (n := e.data.length) (by omega)
    rw [List.flatMap_cons, List.length_append, List.length_cons]
    have : (entB e).length ≤ 12100 := by
      unfold entB vi
      simp only [List.length_append, List.length_cons, List.length_nil]
      omega
    omega
theorem encB_len {m : Msg} (h : RightP m) : (encB m).length ≤ 1048576 := by
  obtain ⟨⟨hg, hf, hd, ht⟩, ⟨hi, hl, hc⟩, hk⟩ := h
  unfold KindP NoneP at hk
  unfold CountP at hi hl hc
  have v1 := vb_nine (n := m.term.toNat) (by omega)
  have v2 := vb_nine (n := m.index.toNat) (by omega)
  have v3 := vb_nine (n := m.logTerm.toNat) (by omega)
  have v4 := vb_nine (n := m.commit.toNat) (by omega)
  unfold encB headB restB vi
  rcases hk with h1 | h1 | h1 | h1 | h1
  · rw [if_pos h1.1]
    simp only [List.length_append, List.length_cons, List.length_nil]
    omega
  · rw [if_neg (by omega), if_pos h1.1]
    simp only [List.length_append, List.length_cons, List.length_nil]
    omega
  · rw [if_neg (by omega), if_neg (by omega), if_pos h1.1]
    obtain ⟨h2, h3⟩ := h1.2.2.2.2
    have h4 := ents_len (es := m.entries) (fun e he => by
      obtain ⟨i, hi, rfl⟩ := List.mem_iff_getElem.1 he
      exact (h3 i hi).1)
    have v5 := vb_nine (n := m.entries.length) (by omega)
    simp only [List.length_append, List.length_cons, List.length_nil]
    omega
  · rw [if_neg (by omega), if_neg (by omega), if_neg (by omega), if_pos h1.1]
    simp only [List.length_append, List.length_cons, List.length_nil]
    omega
  · rw [if_neg (by omega), if_neg (by omega), if_neg (by omega), if_neg (by omega), if_pos h1.1]
    have h2 := h1.2.2.2.2.1.2.five
    have h3 := h1.2.2.2.2.2.1
    have v5 := vb_nine (n := m.members.length) (by omega)
    have v6 := vb_nine (n := m.data.length) (by omega)
    simp only [List.length_append, List.length_cons, List.length_nil, List.length_map]
    omega
theorem decB_less {m : Msg} (h : RightP m) {k : Nat} (hk : k < (encB m).length) : decB ((encB m).take k) = none := by
  rcases h0 : decB ((encB m).take k) with _ | m'
  · rfl
  · obtain ⟨h1, h2⟩ := decB_some.1 h0
    have h3 := decB_more h1 (r := (encB m).drop k) (fun e => by have := congrArg List.length e; simp at this; omega)
    rw [h2, List.take_append_drop, decB_some.2 ⟨h, rfl⟩] at h3
    exact nomatch h3
theorem app_bytes_at {ops : Array Oper} {rest : List Oper} {o : Oper} {a : Act} {Q : Exit → Act → World → Prop} (w : World) (base : Nat) (v : Value) (l m : List UInt8) (A : Option Addr) (n c : Nat) (hn : n = m.length) (hgd : o.guard = none) (s x : Operand)
    (ho : o.op = .call { callee := .builtin .append, args := #[s, x], argTypes := #[30, 30] })
    (hs : a.eval s = v) (hx : a.eval x = .slice A n c) (hown : Own w base v l) (hr : Rd w w.heap.size A m) (hlen : l.length + m.length ≤ 225179981368000) (hbase : base ≤ w.heap.size)
    (h : ∀ v' w', Own w' base v' (l ++ m) → Below base w w' → w.grownBy w' v.ownBlock → wpList Try.prog ops Q rest (a.put o.dst v') w') : wpList Try.prog ops Q (o :: rest) a w := by
  subst hn
  exact app_bytes w base v l m A c hgd s x ho hs hx hown hr hlen hbase h
/-- bytes of one's own, and their room -/
theorem Own.room {w : World} {base : Nat} {v : Value} {l : List UInt8} (h : Own w base v l) : ∃ A c, v = .slice A l.length c ∧ Rd w w.heap.size A l ∧ l.length ≤ c ∧ c ≤ 9223372036854775807 ∧ (A = none → c = 0) := by
  obtain ⟨A, c, rfl, hr⟩ := h.rd
  refine ⟨A, c, rfl, hr, ?_⟩
  rcases h.2 with ⟨he, hn⟩ | ⟨g, cap, cur, he, _, _, hnc, hm, _⟩
  · injection he with h0 h1 h2
    subst h2
    exact ⟨by omega, by omega, fun _ => rfl⟩
  · injection he with h0 h1 h2
    subst h2
    unfold maxLen at hm
    exact ⟨hnc, by omega, fun h => by rw [h0] at h; cases h⟩
theorem decode_back {m : Msg} (hm : RightP m) (b : List UInt8) (hb : b = encB m) (n : Nat) (hn : n = b.length) (A : Option Addr) (c : Nat) (w : World) (h : Rd w w.heap.size A b) (hc : b.length ≤ c) (hc2 : c ≤ 9223372036854775807) (hA : A = none → c = 0) :
    Calls Try.prog 27 #[.slice A n c] w fun e w' => ∃ a, e = .returned (.tuple #[msgV m a, .int .i64 0]) ∧ MRd w' w'.heap.size m a ∧ Below w.heap.size w w' := by
  subst hn
  refine (decode_any b A c w h (by rw [hb]; exact encB_len hm) hc hc2 hA).mono fun e w' h => ?_
  have h0 : decB b = some m := decB_some.2 ⟨hm, hb.symm⟩
  rcases h.1 with ⟨m', a, h1, h2, h3⟩ | ⟨h1, _⟩
  · rw [h0] at h1
    injection h1 with h1
    subst h1
    exact ⟨a, h2, h3, h.2⟩
  · rw [h0] at h1
    exact nomatch h1
theorem decode_none (b : List UInt8) (hD : decB b = none) (n : Nat) (hn : n = b.length) (A : Option Addr) (c : Nat) (w : World) (h : Rd w w.heap.size A b) (hl : b.length ≤ 1048576) (hc : b.length ≤ c) (hc2 : c ≤ 9223372036854775807) (hA : A = none → c = 0) :
    Calls Try.prog 27 #[.slice A n c] w fun e w' => e = .returned (.tuple #[.agg #[.int .i64 0, .int .i64 0, .int .i64 0, .int .i64 0, .int .i64 0, .int .i64 0, .int .i64 0, .int .i64 0, .bool false, .slice none 0 0, .slice none 0 0, .slice none 0 0], .int .i64 92]) ∧ Below w.heap.size w w' := by
  subst hn
  refine (decode_any b A c w h hl hc hc2 hA).mono fun e w' h => ⟨?_, h.2⟩
  rcases h.1 with ⟨m', a, h1, _⟩ | ⟨_, h1⟩
  · rw [hD] at h1
    exact nomatch h1
  · exact h1

set_option maxHeartbeats 6400000 in
set_option maxRecDepth 100000 in
theorem law_there (m : Msg) (a : At) (A : Option Addr) (c : Nat) (more : List UInt8) (less : Int) (w : World) (hr : MRd w w.heap.size m a) (hs : Small m) (hmr : Rd w w.heap.size A more) (hml : more.length ≤ 1048576) :
    Calls Try.prog 8 #[msgV m a, .slice A more.length c, .int .i64 less] w fun e w' => e = .returned (.bool true) ∧ Below w.heap.size w w' := by
  have hb := below1' w (.cells #[.int .i64 m.kind, .int .i64 m.group, .int .i64 m.frm, .int .i64 m.dst, .int .i64 m.term, .int .i64 m.index, .int .i64 m.logTerm, .int .i64 m.commit, .bool m.ok, .slice a.e m.entries.length a.ec, .slice a.m m.members.length a.mc, .slice a.d m.data.length a.dc] 51)
  have X0 := Box.new w #[.int .i64 m.kind, .int .i64 m.group, .int .i64 m.frm, .int .i64 m.dst, .int .i64 m.term, .int .i64 m.index, .int .i64 m.logTerm, .int .i64 m.commit, .bool m.ok, .slice a.e m.entries.length a.ec, .slice a.m m.members.length a.mc, .slice a.d m.data.length a.dc] 51 [.int .i64 m.kind, .int .i64 m.group, .int .i64 m.frm, .int .i64 m.dst, .int .i64 m.term, .int .i64 m.index, .int .i64 m.logTerm, .int .i64 m.commit, .bool m.ok, .slice a.e m.entries.length a.ec, .slice a.m m.members.length a.mc, .slice a.d m.data.length a.dc] rfl
  have HR := Lib.hid (fun W (hW : Below w.heap.size w W) => (hr.below hW).more hW.size)
  have HM := Lib.hid (fun W (hW : Below w.heap.size w W) => (hmr.below hW).more hW.size)
  have HS := Lib.hid hs
  rw [show msgV m a = .agg #[.int .i64 m.kind, .int .i64 m.group, .int .i64 m.frm, .int .i64 m.dst, .int .i64 m.term, .int .i64 m.index, .int .i64 m.logTerm, .int .i64 m.commit, .bool m.ok, .slice a.e m.entries.length a.ec, .slice a.m m.members.length a.mc, .slice a.d m.data.length a.dc] from rfl]
  obtain ⟨nm, hnm⟩ : ∃ x, x = more.length := ⟨_, rfl⟩
  rw [← hnm] at hml
  rw [← hnm]
  have HNM := Lib.hid hnm
  clear hr hs hmr hnm
  go_enter Try.func8, Try.ntmps8
  go_wp2_with fail
  refine (coded_any _).mono ?_
  rintro e w1 ⟨rfl, h1⟩
  have hb1 := hb.trans (h1.mono hb.size)
  have X1 := X0.keep h1
  obtain ⟨r, hrr⟩ : ∃ r, r = w.heap.size := ⟨_, rfl⟩
  rw [← hrr] at X1
  rw [← hrr]
  have HRR := Lib.hid hrr
  have RT := Lib.hid (right_any m a w1 (HR.out w1 hb1) HS.out)
  clear hb h1 X0 hrr
  have x0 := (X1 0 (.int .i64 m.kind) rfl).1
  have x1 := (X1 1 (.int .i64 m.group) rfl).1
  have x2 := (X1 2 (.int .i64 m.frm) rfl).1
  have x3 := (X1 3 (.int .i64 m.dst) rfl).1
  have x4 := (X1 4 (.int .i64 m.term) rfl).1
  have x5 := (X1 5 (.int .i64 m.index) rfl).1
  have x6 := (X1 6 (.int .i64 m.logTerm) rfl).1
  have x7 := (X1 7 (.int .i64 m.commit) rfl).1
  have x8 := (X1 8 (.bool m.ok) rfl).1
  have x9 := (X1 9 (.slice a.e m.entries.length a.ec) rfl).1
  have x10 := (X1 10 (.slice a.m m.members.length a.mc) rfl).1
  have x11 := (X1 11 (.slice a.d m.data.length a.dc) rfl).1
  go_wp2_with fail
  refine RT.out.mono ?_
  rintro e w2 ⟨⟨bb, rfl, hbb⟩, h2⟩
  have X2 := X1.keep h2
  have hb2 := hb1.trans (h2.mono hb1.size)
  clear x0 x1 x2 x3 x4 x5 x6 x7 x8 x9 x10 x11 X1 hb1 RT h2
  by_cases hP : RightP m
  rotate_left
  · have hbf : bb = false := by
      cases bb with
      | false => rfl
      | true => exact absurd (hbb.1 rfl) hP
    subst hbf
    have EB := Lib.hid (enc_bad m a w2 (HR.out w2 hb2) HS.out hP)
    have x0 := (X2 0 (.int .i64 m.kind) rfl).1
    have x1 := (X2 1 (.int .i64 m.group) rfl).1
    have x2 := (X2 2 (.int .i64 m.frm) rfl).1
    have x3 := (X2 3 (.int .i64 m.dst) rfl).1
    have x4 := (X2 4 (.int .i64 m.term) rfl).1
    have x5 := (X2 5 (.int .i64 m.index) rfl).1
    have x6 := (X2 6 (.int .i64 m.logTerm) rfl).1
    have x7 := (X2 7 (.int .i64 m.commit) rfl).1
    have x8 := (X2 8 (.bool m.ok) rfl).1
    have x9 := (X2 9 (.slice a.e m.entries.length a.ec) rfl).1
    have x10 := (X2 10 (.slice a.m m.members.length a.mc) rfl).1
    have x11 := (X2 11 (.slice a.d m.data.length a.dc) rfl).1
    clear hP hbb
    go_wp2_with fail
    refine EB.out.mono ?_
    rintro e w3 ⟨rfl, h3⟩
    have hb3 := hb2.trans (h3.mono hb2.size)
    clear x0 x1 x2 x3 x4 x5 x6 x7 x8 x9 x10 x11 EB
    go_wp2
    go_ret
    exact ⟨rfl, hb3⟩
  · have hbt : bb = true := hbb.2 hP
    subst hbt
    have HP := Lib.hid hP
    have EN := Lib.hid (enc_ok m a w2 (HR.out w2 hb2) HS.out hP)
    have x0 := (X2 0 (.int .i64 m.kind) rfl).1
    have x1 := (X2 1 (.int .i64 m.group) rfl).1
    have x2 := (X2 2 (.int .i64 m.frm) rfl).1
    have x3 := (X2 3 (.int .i64 m.dst) rfl).1
    have x4 := (X2 4 (.int .i64 m.term) rfl).1
    have x5 := (X2 5 (.int .i64 m.index) rfl).1
    have x6 := (X2 6 (.int .i64 m.logTerm) rfl).1
    have x7 := (X2 7 (.int .i64 m.commit) rfl).1
    have x8 := (X2 8 (.bool m.ok) rfl).1
    have x9 := (X2 9 (.slice a.e m.entries.length a.ec) rfl).1
    have x10 := (X2 10 (.slice a.m m.members.length a.mc) rfl).1
    have x11 := (X2 11 (.slice a.d m.data.length a.dc) rfl).1
    clear hP hbb
    go_wp2_with fail
    refine EN.out.mono ?_
    rintro e w3 ⟨v, rfl, o3, h3⟩
    have hb3 := hb2.trans (h3.mono hb2.size)
    have X3 := X2.keep h3
    obtain ⟨vA, vc, rfl, hrd, hvc, hvm, hvA⟩ := o3.room
    obtain ⟨L, hL⟩ : ∃ x, x = encB m := ⟨_, rfl⟩
    rw [← hL] at hrd hvc
    rw [← hL]
    have HL := Lib.hid hL
    have HLl : Hid (L.length ≤ 1048576) := by show _ ≤ _; rw [hL]; exact encB_len HP.out
    have HLR := Lib.hid (fun W (hW : Below w3.heap.size w3 W) => (hrd.below hW).more hW.size)
    have HV := Lib.hid (And.intro hvc (And.intro hvm hvA))
    obtain ⟨n, hn⟩ : ∃ x, x = L.length := ⟨_, rfl⟩
    have DB := Lib.hid (decode_back HP.out L hL n hn vA vc w3 hrd hvc hvm hvA)
    rw [← hn]
    have HN := Lib.hid hn
    clear x0 x1 x2 x3 x4 x5 x6 x7 x8 x9 x10 x11 X2 EN h3 o3 hL hrd hvc hvm hvA hn
    go_wp2_with fail
    refine DB.out.mono ?_
    rintro e w4 ⟨a2, rfl, MR4, h4⟩
    rw [show msgV m a2 = .agg #[.int .i64 m.kind, .int .i64 m.group, .int .i64 m.frm, .int .i64 m.dst, .int .i64 m.term, .int .i64 m.index, .int .i64 m.logTerm, .int .i64 m.commit, .bool m.ok, .slice a2.e m.entries.length a2.ec, .slice a2.m m.members.length a2.mc, .slice a2.d m.data.length a2.dc] from rfl]
    have hq := below1' w4 (.cells #[.int .i64 m.kind, .int .i64 m.group, .int .i64 m.frm, .int .i64 m.dst, .int .i64 m.term, .int .i64 m.index, .int .i64 m.logTerm, .int .i64 m.commit, .bool m.ok, .slice a2.e m.entries.length a2.ec, .slice a2.m m.members.length a2.mc, .slice a2.d m.data.length a2.dc] 51)
    have hb4 := hb3.trans (h4.mono hb3.size)
    have hb5 := hb4.trans (hq.mono hb4.size)
    have X4 := (X3.keep h4).keep hq
    have hL5 := Lib.hid (h4.trans (hq.mono h4.size))
    have SM := Lib.hid (samemsg_any m a2 a _ ((MR4.below hq).more hq.size) (HR.out _ hb5) HS.out)
    have x0 := (X4 0 (.int .i64 m.kind) rfl).1
    have x1 := (X4 1 (.int .i64 m.group) rfl).1
    have x2 := (X4 2 (.int .i64 m.frm) rfl).1
    have x3 := (X4 3 (.int .i64 m.dst) rfl).1
    have x4 := (X4 4 (.int .i64 m.term) rfl).1
    have x5 := (X4 5 (.int .i64 m.index) rfl).1
    have x6 := (X4 6 (.int .i64 m.logTerm) rfl).1
    have x7 := (X4 7 (.int .i64 m.commit) rfl).1
    have x8 := (X4 8 (.bool m.ok) rfl).1
    have x9 := (X4 9 (.slice a.e m.entries.length a.ec) rfl).1
    have x10 := (X4 10 (.slice a.m m.members.length a.mc) rfl).1
    have x11 := (X4 11 (.slice a.d m.data.length a.dc) rfl).1
    clear X3 DB MR4 h4 hq hb4
    go_wp2_with fail
    refine SM.out.mono ?_
    rintro e w6 ⟨rfl, h6⟩
    have hb6 := hb5.trans (h6.mono hb5.size)
    have hL6 := Lib.hid (hL5.out.trans (h6.mono hL5.out.size))
    clear x0 x1 x2 x3 x4 x5 x6 x7 x8 x9 x10 x11 X4 SM h6 hb5 hL5
    by_cases h0 : nm = 0
    · have hgt : decide ((0 : Int) < (nm : Int)) = false := by simp; omega
      have HNn := HN.out
      by_cases hge : 0 ≤ less
      · obtain ⟨k, rfl⟩ : ∃ k : Nat, less = (k : Int) := ⟨less.toNat, by omega⟩
        by_cases hk : k < n
        · have hki : (k : Int) < (n : Int) := by omega
          have hk0 : (0 : Int) ≤ (k : Int) := by omega
          have hrun := cut0_run (A := vA) (n := n) (c := vc) (e := k) (by have := HV.out.1; omega)
          have hkL : k < (encB m).length := by rw [← HL.out]; omega
          have DN := Lib.hid (decode_none (L.take k) (by rw [HL.out]; exact decB_less HP.out hkL) k (by rw [List.length_take]; omega) vA vc _ (rd_take (HLR.out _ hL6.out) k) (by rw [List.length_take]; have := HLl.out; omega) (by rw [List.length_take]; have := HV.out.1; omega) HV.out.2.1 HV.out.2.2)
          clear HNn hkL hge hk
          go_wp2_with fail
          refine DN.out.mono ?_
          rintro e w20 ⟨rfl, h20⟩
          have hq := below1' w20 (.cells #[.int .i64 0, .int .i64 0, .int .i64 0, .int .i64 0, .int .i64 0, .int .i64 0, .int .i64 0, .int .i64 0, .bool false, .slice none 0 0, .slice none 0 0, .slice none 0 0] 51)
          have hb20 := hb6.trans (h20.mono hb6.size)
          have hb21 := hb20.trans (hq.mono hb20.size)
          clear DN h20 hq hb20
          go_wp2
          go_ret
          exact ⟨rfl, hb21⟩
        · have hki : (n : Int) ≤ (k : Int) := by omega
          have hk0 : (0 : Int) ≤ (k : Int) := by omega
          clear HNn hge
          go_wp2
          go_ret
          exact ⟨rfl, hb6⟩
      · have hk0 : decide ((0 : Int) ≤ less) = false := by simp; omega
        clear HNn hge
        go_wp2
        go_ret
        exact ⟨rfl, hb6⟩
    · have hgt : (0 : Int) < (nm : Int) := by omega
      have hE := below1' w6 (.cells #[] 5)
      have HO := Lib.hid (own_made w6)
      have HR7 := Lib.hid (HLR.out _ (hL6.out.trans (hE.mono hL6.out.size)))
      have hlen : Hid (([] : List UInt8).length + L.length ≤ 225179981368000) := by have := HLl.out; show _ ≤ _; simp only [List.length_nil]; omega
      have hlen2 : Hid ((([] : List UInt8) ++ L).length + more.length ≤ 225179981368000) := by have := HLl.out; have := HNM.out; show _ ≤ _; simp only [List.nil_append]; omega
      go_wp2_with (at_builtin; refine app_bytes_at _ w6.heap.size (.slice (some ⟨w6.heap.size, 0, none⟩) 0 0) [] L vA n vc HN.out rfl (.tmp 55) (.tmp 56) rfl rfl rfl HO.out HR7.out hlen.out (by simp) ?_)
      intro v8 w8 o8 b8 g8
      have HB8 := Lib.hid (Below.trans (hE) (b8.mono (Nat.le_refl _)))
      have hb8 := hb6.trans (HB8.out.mono hb6.size)
      have HO8 := Lib.hid o8
      have HM8 := Lib.hid (HM.out w8 hb8)
      have hs8 := Lib.hid HB8.out.size
      clear o8 b8 g8 hE HO HR7
      go_wp2_with (at_builtin; refine app_bytes_at w8 w6.heap.size v8 ([] ++ L) more A nm c HNM.out rfl (.tmp 57) (.tmp 58) rfl rfl rfl HO8.out HM8.out hlen2.out hs8.out ?_)
      intro v9 w9 o9 b9 g9
      obtain ⟨vA9, vc9, rfl, hrd9, hvc9, hvm9, hvA9⟩ := o9.room
      have HB9 := Lib.hid (HB8.out.trans (b9.mono (Nat.le_refl _)))
      have hb9 := hb6.trans (HB9.out.mono hb6.size)
      have hL9 := Lib.hid (hL6.out.trans (HB9.out.mono hL6.out.size))
      have DM := Lib.hid (decode_more (L ++ more) vA9 vc9 w9 hrd9 m more (by rw [HL.out]) HP.out HS.out (fun e => by have := HNM.out; rw [e] at this; exact h0 this) (by have := HLl.out; have := HNM.out; rw [List.length_append]; omega) hvc9 hvm9 hvA9)
      obtain ⟨n9, hn9⟩ : ∃ x, x = (L ++ more).length := ⟨_, rfl⟩
      rw [← hn9] at DM
      rw [← hn9]
      clear o9 b9 g9 hrd9 hvc9 hvm9 hvA9 HO8 HM8 hs8 HB8 hb8 hn9
      go_wp2_with fail
      refine DM.out.mono ?_
      rintro e w10 ⟨rfl, h10⟩
      have hq := below1' w10 (.cells #[.int .i64 0, .int .i64 0, .int .i64 0, .int .i64 0, .int .i64 0, .int .i64 0, .int .i64 0, .int .i64 0, .bool false, .slice none 0 0, .slice none 0 0, .slice none 0 0] 51)
      have hb10 := (hb9.trans (h10.mono hb9.size))
      have hb11 := hb10.trans (hq.mono hb10.size)
      have hL10 := hL9.out.trans (h10.mono hL9.out.size)
      have hL11 := Lib.hid (hL10.trans (hq.mono hL10.size))
      clear DM h10 hq hb10 hb9 hL9 hL10 HB9 hb6 hL6
      have HNn := HN.out
      by_cases hge : 0 ≤ less
      · obtain ⟨k, rfl⟩ : ∃ k : Nat, less = (k : Int) := ⟨less.toNat, by omega⟩
        by_cases hk : k < n
        · have hki : (k : Int) < (n : Int) := by omega
          have hk0 : (0 : Int) ≤ (k : Int) := by omega
          have hrun := cut0_run (A := vA) (n := n) (c := vc) (e := k) (by have := HV.out.1; omega)
          have hkL : k < (encB m).length := by rw [← HL.out]; omega
          have DN := Lib.hid (decode_none (L.take k) (by rw [HL.out]; exact decB_less HP.out hkL) k (by rw [List.length_take]; omega) vA vc _ (rd_take (HLR.out _ hL11.out) k) (by rw [List.length_take]; have := HLl.out; omega) (by rw [List.length_take]; have := HV.out.1; omega) HV.out.2.1 HV.out.2.2)
          clear HNn hkL hge hk
          go_wp2_with fail
          refine DN.out.mono ?_
          rintro e w20 ⟨rfl, h20⟩
          have hq := below1' w20 (.cells #[.int .i64 0, .int .i64 0, .int .i64 0, .int .i64 0, .int .i64 0, .int .i64 0, .int .i64 0, .int .i64 0, .bool false, .slice none 0 0, .slice none 0 0, .slice none 0 0] 51)
          have hb20 := hb11.trans (h20.mono hb11.size)
          have hb21 := hb20.trans (hq.mono hb20.size)
          clear DN h20 hq hb20
          go_wp2
          go_ret
          exact ⟨rfl, hb21⟩
        · have hki : (n : Int) ≤ (k : Int) := by omega
          have hk0 : (0 : Int) ≤ (k : Int) := by omega
          clear HNn hge
          go_wp2
          go_ret
          exact ⟨rfl, hb11⟩
      · have hk0 : decide ((0 : Int) ≤ less) = false := by simp; omega
        clear HNn hge
        go_wp2
        go_ret
        exact ⟨rfl, hb11⟩
end Go.Proofs.Ytekgmgiokmbliaa
