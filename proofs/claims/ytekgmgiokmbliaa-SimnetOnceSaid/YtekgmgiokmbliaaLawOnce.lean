/-
  The walk of the law SimnetOnce.
-/
import Derived.Test.YtekgmgiokmbliaaOnce
import Derived.Test.YtekgmgiokmbliaaAwake
import Derived.Test.YtekgmgiokmbliaaOpenSteps
set_option linter.unusedVariables false
namespace Go.Proofs.Ytekgmgiokmbliaa
open Go.RowKit

/-- what is known of the contents at step k -/
structure Pur (last : Int) (C S : List Cn) (G : List Int) (k : Nat) : Prop where
  good : GoodC C last
  l0 : 0 ≤ last
  lk : last ≤ k
  cl : C.length ≤ k
  sl : S.length ≤ k
  gl : G.length ≤ k
  rises : S.Pairwise (fun a b => a.1 < b.1)
  top : ∀ s ∈ S, s.1 ≤ last
  all : ∀ c ∈ C, c ∈ S
  out : ∀ x ∈ G, x ≤ last ∧ ∀ c ∈ C, c.1 ≠ x
theorem Pur.start : Pur 0 [] [] [] 0 := ⟨⟨List.Pairwise.nil, fun c h => (by cases h)⟩, by omega, by omega, by simp, by simp, by simp, List.Pairwise.nil, fun c h => (by cases h), fun c h => (by cases h), fun c h => (by cases h)⟩
theorem Pur.next {last : Int} {C S : List Cn} {G : List Int} {k : Nat} (h : Pur last C S G k) : Pur last C S G (k + 1) :=
  ⟨h.good, h.l0, by have := h.lk; omega, by have := h.cl; omega, by have := h.sl; omega, by have := h.gl; omega, h.rises, h.top, h.all, h.out⟩
theorem Pur.sent {last : Int} {C S : List Cn} {G : List Int} {k : Nat} (h : Pur last C S G k) {f t kk : Int} {l : List UInt8} (hok : okB f t kk l.length = true) :
    Pur (last + 1) (C ++ [(last + 1, f, t, kk, l)]) (S ++ [(last + 1, f, t, kk, l)]) G (k + 1) := by
  refine ⟨h.good.snoc hok h.l0, by have := h.l0; omega, by have := h.lk; omega, by have := h.cl; simp; omega, by have := h.sl; simp; omega, by have := h.gl; omega,
    List.pairwise_append.2 ⟨h.rises, List.pairwise_singleton _ _, fun a ha b hb => ?_⟩, fun s hs => ?_, fun c hc => ?_, fun x hx => ?_⟩
  · rw [List.mem_singleton.1 hb]; have := h.top a ha; simp only; omega
  · rcases List.mem_append.1 hs with hs | hs
    · have := h.top s hs; omega
    · rw [List.mem_singleton.1 hs]; simp
  · rcases List.mem_append.1 hc with hc | hc
    · exact List.mem_append.2 (.inl (h.all c hc))
    · exact List.mem_append.2 (.inr hc)
  · obtain ⟨h1, h2⟩ := h.out x hx
    refine ⟨by omega, fun c hc => ?_⟩
    rcases List.mem_append.1 hc with hc | hc
    · exact h2 c hc
    · rw [List.mem_singleton.1 hc]; simp only; omega
theorem pairwise_erase {C : List Cn} (h : C.Pairwise (fun a b => a.1 < b.1)) {k : Nat} {c : Cn} (hc : C[k]? = some c) : ∀ d ∈ C.eraseIdx k, d.1 ≠ c.1 := by
  intro d hd
  obtain ⟨hk, rfl⟩ := List.getElem?_eq_some_iff.1 hc
  rw [List.mem_eraseIdx_iff_getElem] at hd
  obtain ⟨i, hi, hik, rfl⟩ := hd
  have P := List.pairwise_iff_getElem.1 h
  rcases Nat.lt_or_gt_of_ne hik with h1 | h1
  · have := P i k hi hk h1; omega
  · have := P k i hk hi h1; omega
theorem Pur.gone {last : Int} {C S : List Cn} {G : List Int} {k : Nat} (h : Pur last C S G k) {j : Nat} {c : Cn} (hc : C[j]? = some c) : Pur last (C.eraseIdx j) S (G ++ [c.1]) (k + 1) := by
  have hm := List.mem_of_getElem? hc
  refine ⟨h.good.erase j, h.l0, by have := h.lk; omega, ?_, by have := h.sl; omega, by have := h.gl; simp; omega, h.rises, h.top, fun d hd => h.all d ((List.eraseIdx_sublist C j).subset hd), fun x hx => ?_⟩
  · have := (List.eraseIdx_sublist C j).length_le; have := h.cl; omega
  · rcases List.mem_append.1 hx with hx | hx
    · obtain ⟨h1, h2⟩ := h.out x hx
      exact ⟨h1, fun d hd => h2 d ((List.eraseIdx_sublist C j).subset hd)⟩
    · rw [List.mem_singleton.1 hx]
      exact ⟨(h.good.2 c hm).1.2, pairwise_erase h.good.1 hc⟩

set_option maxHeartbeats 6400000 in
set_option maxRecDepth 100000 in
theorem law_once (A : Option Addr) (n c : Nat) (f : Nat → St) (w : World) (hS : Steps w A n f) (hn : n ≤ maxLen) :
    Calls Try.prog 5 #[.slice A n c] w fun e w' => e = .returned (.bool true) ∧ Below w.heap.size w w' := by
  have HS := Lib.hid hS
  have hn' : n ≤ 9223372036854775807 := hn
  clear hS hn
  go_enter Try.func5, Try.ntmps5
  go_wp2_with fail
  refine (awake_any _).mono ?_
  rintro e w1 ⟨rfl, h1⟩
  go_wp2_with fail
  refine (new_any _).mono ?_
  rintro e w2 ⟨rfl, N2, h2⟩
  obtain ⟨g, hg⟩ : ∃ g, g = w1.heap.size := ⟨_, rfl⟩
  have hgw : w.heap.size ≤ g := by have := h1.size; omega
  have hb := h1.trans (h2.mono h1.size)
  rw [← hg] at N2
  rw [← hg]
  have hg2 := N2.c0.lt
  have M0 : Hid (Mem w.heap.size g w2 g none 0 [] [] [] (.slice none 0 0) (.slice none 0 0)) :=
    ⟨⟨fun b => b = g, Line.new N2 rfl (fun b h => by rw [h]; exact hg2), fun b h => (by cases h), fun b h => (by cases h)⟩, ⟨[], World.ownsRow_nil _ _ _ _, rfl, fun p h => by cases h⟩, World.ownsRow_nil _ _ _ _, fun h => (by cases h), fun b h => (by cases h), fun h => (by cases h), fun b h => (by cases h), fun b h => (by cases h), hgw, Nat.le_of_lt hg2⟩
  clear hg h1 h2 N2
  go_wp2
  go_loopw [5, 6, 7] (fun s5 s6 s7 wr => ∃ (k : Nat) (row : Option Nat) (last : Int) (C S : List Cn) (G : List Int), s7 = .int .i64 k ∧ k ≤ n ∧ k ≤ 300 ∧ Hid (Mem w.heap.size g wr g row last C S G s5 s6) ∧ Hid (Pur last C S G k) ∧ Below w.heap.size w wr) (fun _ _ s7 _ => n - (intOf s7).toNat)
  case atStart => exact ⟨0, none, 0, [], [], [], rfl, by omega, by omega, M0, Lib.hid Pur.start, hb⟩
  case round =>
    clear hb M0
    obtain ⟨k, row, last, C, S, G, rfl, hk, hk3, HM, HP, hb⟩ := hrel
    by_cases hlt : k < n
    · by_cases h3 : k < 300
      · -- ROUND
        rcases HS.out with h0 | ⟨gs, os, rfl, hst⟩
        · omega
        have st := hst k hlt
        clear hst
        have hgs : gs < w.heap.size := World.block_lt_of_cell? w _ st.c0
        obtain ⟨⟨what, id, i, fr, to, kd, sA, sc, l⟩, hfk⟩ : ∃ q, q = f k := ⟨_, rfl⟩
        rw [← hfk] at st
        clear hfk
        have c0 := (hb.cell (p := ⟨gs, os + k * 7, none⟩) hgs).trans st.c0
        have c1 := (hb.cell (p := ⟨gs, os + k * 7 + 1, none⟩) hgs).trans st.c1
        have c2 := (hb.cell (p := ⟨gs, os + k * 7 + 2, none⟩) hgs).trans st.c2
        have c3 := (hb.cell (p := ⟨gs, os + k * 7 + 3, none⟩) hgs).trans st.c3
        have c4 := (hb.cell (p := ⟨gs, os + k * 7 + 4, none⟩) hgs).trans st.c4
        have c5 := (hb.cell (p := ⟨gs, os + k * 7 + 5, none⟩) hgs).trans st.c5
        have c6 := (hb.cell (p := ⟨gs, os + k * 7 + 6, none⟩) hgs).trans st.c6
        simp only at c0 c1 c2 c3 c4 c5 c6
        obtain ⟨As, cs, rfl⟩ := HM.out.sent.form
        obtain ⟨Ag, cg, rfl⟩ := OwnI.form HM.out.gone
        have B0 := Cell.new wr #[.int .i64 what, .int .i64 id, .int .i64 i, .int .i64 fr, .int .i64 to, .int .i64 kd, .slice sA l.length sc] 34 0 (.int .i64 what) rfl
        have B1 := Cell.new wr #[.int .i64 what, .int .i64 id, .int .i64 i, .int .i64 fr, .int .i64 to, .int .i64 kd, .slice sA l.length sc] 34 1 (.int .i64 id) rfl
        have B2 := Cell.new wr #[.int .i64 what, .int .i64 id, .int .i64 i, .int .i64 fr, .int .i64 to, .int .i64 kd, .slice sA l.length sc] 34 2 (.int .i64 i) rfl
        have B3 := Cell.new wr #[.int .i64 what, .int .i64 id, .int .i64 i, .int .i64 fr, .int .i64 to, .int .i64 kd, .slice sA l.length sc] 34 3 (.int .i64 fr) rfl
        have B4 := Cell.new wr #[.int .i64 what, .int .i64 id, .int .i64 i, .int .i64 fr, .int .i64 to, .int .i64 kd, .slice sA l.length sc] 34 4 (.int .i64 to) rfl
        have B5 := Cell.new wr #[.int .i64 what, .int .i64 id, .int .i64 i, .int .i64 fr, .int .i64 to, .int .i64 kd, .slice sA l.length sc] 34 5 (.int .i64 kd) rfl
        have B6 := Cell.new wr #[.int .i64 what, .int .i64 id, .int .i64 i, .int .i64 fr, .int .i64 to, .int .i64 kd, .slice sA l.length sc] 34 6 (.slice sA l.length sc) rfl
        replace B0 := Lib.hid B0
        replace B1 := Lib.hid B1
        replace B2 := Lib.hid B2
        replace B3 := Lib.hid B3
        replace B4 := Lib.hid B4
        replace B5 := Lib.hid B5
        replace B6 := Lib.hid B6
        have HLW : Hid (g < wr.heap.size ∧ ∀ r, row = some r → r < wr.heap.size) := by
          obtain ⟨M, hL, _⟩ := HM.out.line
          exact ⟨hL.lt.2.1, fun r hr => (hL.lt.2.2 r hr).2⟩
        have HGW : Hid (∀ b, (Value.slice Ag G.length cg).ownBlock = some b → b < wr.heap.size) := fun b hb => (HM.out.gone.lt b hb).2
        have hV := below1' wr (.cells #[.int .i64 what, .int .i64 id, .int .i64 i, .int .i64 fr, .int .i64 to, .int .i64 kd, .slice sA l.length sc] 34)
        have HMV := Lib.hid (HM.out.below hV)
        have hbV := Lib.hid (hb.trans (hV.mono hb.size))
        have hbs := Lib.hid hb
        clear hV hb HM
        have HST := Lib.hid st
        clear st
        by_cases hd0 : what = 0
        · subst hd0
          by_cases hok : okB fr to kd l.length = true
          · obtain ⟨M, hL, hM1, hM2⟩ := HMV.out.line
            have hll := hL.lt
            have SL := Lib.hid (send_line M g g row last C i fr to kd sA l.length sc l _ hL hok rfl ((HST.out.rd.below hbV.out).more hbV.out.size) HST.out.nil (by
              rintro q o rfl h0
              have hqw : q < w.heap.size := by
                rcases HST.out.rd with h | ⟨q', o', e, hq', _⟩
                · exact absurd h h0
                · injection e with e; injection e with e; omega
              exact ⟨by omega, fun e => by have := (hll.2.2 q e.symm).1; omega⟩) (by have := HP.out.cl; omega) HP.out.l0 (by have := HP.out.lk; omega))
            have HOK := Lib.hid hok
            have HM1 := Lib.hid hM1
            have HM2 := Lib.hid hM2
            have HLL := Lib.hid hll
            have HLB := Lib.hid (fun w' (T : Two g row _ w') => hL.below2 T hgw hbV.out.size)
            clear hL hM1 hM2 hok hll
            go_wp2_with fail
            refine SL.out.mono ?_
            rintro e w4 ⟨row', rfl, L4, T4, h4⟩
            have hx1 : wr.heap.size ≠ g := by have := HLW.out.1; omega
            have hx2 : some wr.heap.size ≠ row := fun e => by have := HLW.out.2 _ e.symm; omega
            replace B2 := B2.out.two T4 hx1 hx2
            replace B3 := B3.out.two T4 hx1 hx2
            replace B4 := B4.out.two T4 hx1 hx2
            replace B5 := B5.out.two T4 hx1 hx2
            replace B6 := B6.out.two T4 hx1 hx2
            have HM4 := Lib.hid (HMV.out.turn HM1.out HM2.out (fun b h => .inl h) L4 T4 h4 HLL.out.1 (fun r hr => (HLL.out.2.2 r hr).1))
            have hb4 := hbV.out.trans (HLB.out w4 T4)
            clear L4 T4 h4 SL HMV HM1 HM2 HLL HLB hbV
            obtain ⟨bx, hbx⟩ : ∃ bx, bx = wr.heap.size := ⟨_, rfl⟩
            rw [← hbx] at B2 B3 B4 B5 B6
            rw [← hbx]
            clear hbx hx1 hx2 B0 B1 c0 c1 c2 c3 c4 c5 c6
            obtain ⟨b2, f2⟩ := B2
            obtain ⟨b3, f3⟩ := B3
            obtain ⟨b4, f4⟩ := B4
            obtain ⟨b5, f5⟩ := B5
            obtain ⟨b6, f6⟩ := B6
            have hY := below1' w4 (.cells #[.int .i64 (last + 1), .int .i64 fr, .int .i64 to, .int .i64 kd, .slice sA l.length sc] 32)
            have HM5 := Lib.hid (HM4.out.below hY)
            have hb5 := Lib.hid (hb4.trans (hY.mono hb4.size))
            obtain ⟨P, hO, hSP, hPb⟩ := HM5.out.sent
            have HO := Lib.hid hO
            have HSP := Lib.hid hSP
            have HPb := Lib.hid hPb
            have HlS : Hid (S.length = (P.map (·.1)).length) := by show S.length = _; rw [hSP]; simp
            have HS3 : Hid (S.length < 1000) := by have := HP.out.sl; show _ < _; omega
            have hgw4 : Hid (g ≤ (w4.alloc (.cells #[.int .i64 (last + 1), .int .i64 fr, .int .i64 to, .int .i64 kd, .slice sA l.length sc] 32)).heap.size) := HM5.out.hw
            clear hO hSP hPb hb4 hY
            go_wp2_with (at_builtin; refine app_ev _ g (.slice As S.length cs) S.length (P.map (·.1)) (last + 1, fr, to, kd, .slice sA l.length sc) rfl (.tmp 57) (.tmp 59) rfl rfl (w4.heap.size + 1) (by simp) rfl HO.out HlS.out rfl HS3.out hgw4.out ?_)
            intro gq cap w6 O6 hgr hl6 hlt6
            have hY2 := below1' (w4.alloc (.cells #[.int .i64 (last + 1), .int .i64 fr, .int .i64 to, .int .i64 kd, .slice sA l.length sc] 32)) (.cells #[.int .i64 (last + 1), .int .i64 fr, .int .i64 to, .int .i64 kd, .slice sA l.length sc] 32)
            have HM6 := HM5.out.below hY2
            have hb6 := (hb5.out.trans (hY2.mono hb5.out.size)).trans (HM6.belowS hgr)
            have HMF := Lib.hid (HM6.appS (sv' := .slice (some ⟨gq, 0, none⟩) (S.length + 1) cap) (last + 1, fr, to, kd, l) sA sc P HSP.out (fun p hp => by
              obtain ⟨A, c, hv, hr⟩ := HPb.out p hp
              exact ⟨A, c, hv, hr.below (hY2.mono (Nat.le_trans HM5.out.hB HM5.out.hw))⟩) O6 (HST.out.rd.below hb6) hgr (fun b hb => by
              injection hb with hb
              rcases hl6 with h | h
              · exact .inl (by rw [h]; exact congrArg some hb)
              · refine .inr ?_
                have hb : gq = b := hb
                simp only [World.size_alloc]
                omega) (fun b hb => by injection hb with hb; have hb : gq = b := hb; omega))
            clear HM6 hY2 O6 hgr hl6 hlt6 HO HSP HPb HlS HS3 hgw4 HM5 HM4 hb5
            go_wp2
            go_roundw
            case rel => exact ⟨k + 1, row', last + 1, _, _, G, by go_num, by omega, by omega, HMF, HP.out.sent HOK.out, hb6⟩
            case measure => simp [intOf]; omega
          · have hok : okB fr to kd l.length = false := by simpa using hok
            obtain ⟨M, hL, _, _⟩ := HMV.out.line
            have SB := Lib.hid (send_bad M g g row last C i fr to kd sA l.length sc _ hL HST.out.len hok)
            clear hL
            go_wp2_with fail
            refine SB.out.mono ?_
            rintro e w4 ⟨rfl, h4⟩
            have HM4 := Lib.hid (HMV.out.below h4)
            have hb4 := hbV.out.trans (h4.mono hbV.out.size)
            clear h4 SB hok HMV hbV
            go_wp2
            go_roundw
            case rel => exact ⟨k + 1, row, last, C, S, G, by go_num, by omega, by omega, HM4, HP.out.next, hb4⟩
            case measure => simp [intOf]; omega
        · by_cases hd3 : what = 3
          · subst hd3
            obtain ⟨M, hL, hM1, hM2⟩ := HMV.out.line
            have hll := hL.lt
            by_cases hin : ∃ c ∈ C, c.1 = id
            · have DL := Lib.hid (double_line M g g row last C id _ hL HP.out.good HP.out.l0 (by have := HP.out.lk; omega) (by have := HP.out.cl; omega) ⟨HST.out.lo, HST.out.hi⟩ hin)
              have HM1 := Lib.hid hM1
              have HM2 := Lib.hid hM2
              have HLL := Lib.hid hll
              have HLB := Lib.hid (fun w' (T : Two g row _ w') => hL.below2 T hgw hbV.out.size)
              clear hL hM1 hM2 hll hin
              go_wp2_with fail
              refine DL.out.mono ?_
              rintro e w4 ⟨⟨ci, cf, ct, ck, cl⟩, row', hcC, hci, rfl, L4, T4, h4⟩
              have hci : ci = id := hci
              subst hci
              have hx1 : wr.heap.size ≠ g := by have := HLW.out.1; omega
              have hx2 : some wr.heap.size ≠ row := fun e => by have := HLW.out.2 _ e.symm; omega
              replace B1 := B1.out.two T4 hx1 hx2
              have HM4 := Lib.hid (HMV.out.turn HM1.out HM2.out (fun b h => .inl h) L4 T4 h4 HLL.out.1 (fun r hr => (HLL.out.2.2 r hr).1))
              have hb4 := hbV.out.trans (HLB.out w4 T4)
              have hcS := HP.out.all _ hcC
              obtain ⟨j0, hj0, hcj⟩ := List.getElem_of_mem hcS
              have HOK : Hid (okB cf ct ck cl.length = true) := by
                obtain ⟨_, g1, g2, g3, g4⟩ := HP.out.good.2 _ hcC
                simp only at g1 g2 g3 g4
                show okB _ _ _ _ = true
                simp only [okB, g1, g2, Bool.true_and, Bool.and_eq_true, decide_eq_true_eq]
                exact ⟨g3, g4⟩
              have HUN : Hid (∀ j (h : j < S.length), j < j0 → S[j].1 ≠ ci) := fun j h hj => by
                have := List.pairwise_iff_getElem.1 HP.out.rises j j0 h hj0 hj
                rw [hcj] at this
                simp only at this
                omega
              have HCJ := Lib.hid hcj
              obtain ⟨bx, hbx⟩ : ∃ bx, bx = wr.heap.size := ⟨_, rfl⟩
              rw [← hbx] at B1
              rw [← hbx]
              replace B1 := Lib.hid B1
              clear hbx L4 T4 h4 DL HMV HM1 HM2 HLL HLB hbV B0 B2 B3 B4 B5 B6 c0 c1 c2 c3 c4 c5 c6 hcS hcC hcj hx1 hx2
              go_wp2
              go_loopw [5, 14] (fun s5 s14 wq => ∃ j : Nat, s5 = .slice As S.length cs ∧ s14 = .int .i64 j ∧ j ≤ j0 ∧ Hid (Mem w.heap.size g wq g row' (last + 1) (C ++ [(last + 1, cf, ct, ck, cl)]) S G (.slice As S.length cs) (.slice Ag G.length cg)) ∧ Hid (Cell wq bx 1 (.int .i64 ci)) ∧ Below w.heap.size w wq) (fun _ s14 _ => S.length - (intOf s14).toNat)
              case atStart => exact ⟨0, rfl, rfl, by omega, HM4, B1, hb4⟩
              case round =>
                clear hb4 HM4 B1
                obtain ⟨j, rfl, rfl, hj, HM4, B1, hb4⟩ := hrel
                have hjl : j < S.length := by omega
                have hj1000 : j < 1000 := by have := HP.out.sl; omega
                obtain ⟨P, hO, hSP, hPb⟩ := HM4.out.sent
                have hjP : j < P.length := by rw [hSP] at hjl; simpa using hjl
                rcases hO.evs with h0 | ⟨q, rfl, hq, hc⟩
                · have : P.length = 0 := by simpa using congrArg List.length h0
                  omega
                obtain ⟨c0, c1, c2, c3, c4⟩ := hc j (by simpa using hjP)
                rw [evAt_map hjP] at c0 c1 c2 c3 c4
                obtain ⟨bA, bc, hbv, hbr⟩ := hPb _ (List.getElem_mem hjP)
                have hSj : S[j] = cn P[j] := by simp [hSP]
                obtain ⟨p, hp⟩ : ∃ p, p = P[j] := ⟨_, rfl⟩
                rw [← hp] at c0 c1 c2 c3 c4 hbv hbr hSj
                obtain ⟨⟨qi, qf, qt, qn, qv⟩, ql⟩ := p
                simp only at c0 c1 c2 c3 c4 hbv hbr
                subst hbv
                clear hp hc
                have HQ := Lib.hid (And.intro hO (And.intro hSP (And.intro hPb (And.intro hbr hSj))))
                clear hO hSP hPb hbr hSj
                obtain ⟨b1, f1⟩ := B1.out
                by_cases hlt0 : j < j0
                · have hne : ¬ qi = ci := by
                    have := HUN.out j hjl hlt0
                    rw [HQ.out.2.2.2.2] at this
                    exact this
                  have hneb : (qi == ci) = false := by rw [beq_eq_false_iff_ne]; exact hne
                  go_wp2
                  go_quiet (fail)
                  have hdn := below_toN (Below.refl wr.heap.size wr) nq
                  have HM5 := Lib.hid (HM4.out.below hdn)
                  have hb5 := hb4.trans (hdn.mono hb4.size)
                  have B1' : Hid (Cell (wr.drewN nq) bx 1 (.int .i64 ci)) := B1.out.keep hdn
                  clear hdn
                  go_wp2
                  go_roundw
                  case rel => exact ⟨j + 1, rfl, by go_num, by omega, HM5, B1', hb5⟩
                  case measure => simp [intOf]; omega
                · obtain rfl : j = j0 := by omega
                  have heq : ((qi, qf, qt, qn, ql) : Cn) = (ci, cf, ct, ck, cl) := HQ.out.2.2.2.2.symm.trans HCJ.out
                  injection heq with e1 e2
                  injection e2 with e2 e3
                  injection e3 with e3 e4
                  injection e4 with e4 e5
                  subst e1 e2 e3 e4 e5
                  clear hlt0
                  go_wp2
                  go_quiet (fail)
                  obtain ⟨wd, hwd⟩ : ∃ wd, wd = wr.drewN nq := ⟨_, rfl⟩
                  have hdn : Below wr.heap.size wr wd := by rw [hwd]; exact below_toN (Below.refl wr.heap.size wr) nq
                  rw [← hwd]
                  clear hwd
                  replace c0 := (hdn.cell (p := ⟨q, j * 5, none⟩) hq).trans c0
                  replace c1 := (hdn.cell (p := ⟨q, j * 5 + 1, none⟩) hq).trans c1
                  replace c2 := (hdn.cell (p := ⟨q, j * 5 + 2, none⟩) hq).trans c2
                  replace c3 := (hdn.cell (p := ⟨q, j * 5 + 3, none⟩) hq).trans c3
                  replace c4 := (hdn.cell (p := ⟨q, j * 5 + 4, none⟩) hq).trans c4
                  clear b1 f1 B1
                  have HMd := HM4.out.below hdn
                  have hbd := hb4.trans (hdn.mono hb4.size)
                  have hY := below1' wd (.cells #[.int .i64 (last + 1), .int .i64 qf, .int .i64 qt, .int .i64 qn, .slice bA ql.length bc] 32)
                  have HM5 := Lib.hid (HMd.below hY)
                  have hb5 := Lib.hid (hbd.trans (hY.mono hbd.size))
                  have HO : Hid (OwnF (wd.alloc (.cells #[.int .i64 (last + 1), .int .i64 qf, .int .i64 qt, .int .i64 qn, .slice bA ql.length bc] 32)) g (.slice (some ⟨q, 0, none⟩) S.length cs) (P.map (·.1))) := (OwnF.below HQ.out.1 hdn).below hY
                  have HlS : Hid (S.length = (P.map (·.1)).length) := by show S.length = _; rw [HQ.out.2.1]; simp
                  have HS3 : Hid (S.length < 1000) := by have := HP.out.sl; show _ < _; omega
                  have hgw4 : Hid (g ≤ (wd.alloc (.cells #[.int .i64 (last + 1), .int .i64 qf, .int .i64 qt, .int .i64 qn, .slice bA ql.length bc] 32)).heap.size) := HM5.out.hw
                  have HPb : Hid (∀ p ∈ P, ∃ A c, p.1.2.2.2.2 = Value.slice A p.2.length c ∧ Rd (wd.alloc (.cells #[.int .i64 (last + 1), .int .i64 qf, .int .i64 qt, .int .i64 qn, .slice bA ql.length bc] 32)) w.heap.size A p.2) := fun p hp => by
                    obtain ⟨A, c, hv, hr⟩ := HQ.out.2.2.1 p hp
                    exact ⟨A, c, hv, (hr.below (hdn.mono (Nat.le_trans HM4.out.hB HM4.out.hw))).below (hY.mono (Nat.le_trans HMd.hB HMd.hw))⟩
                  have HBR : Hid (Rd (wd.alloc (.cells #[.int .i64 (last + 1), .int .i64 qf, .int .i64 qt, .int .i64 qn, .slice bA ql.length bc] 32)) w.heap.size bA ql) := (HQ.out.2.2.2.1.below (hdn.mono (Nat.le_trans HM4.out.hB HM4.out.hw))).below (hY.mono (Nat.le_trans HMd.hB HMd.hw))
                  clear hdn HMd hbd hY hb4 HM4
                  go_wp2_with (at_builtin; refine app_ev _ g (.slice (some ⟨q, 0, none⟩) S.length cs) S.length (P.map (·.1)) (last + 1, qf, qt, qn, .slice bA ql.length bc) rfl (.tmp 94) (.tmp 96) rfl rfl (wd.heap.size + 1) (by simp) rfl HO.out HlS.out rfl HS3.out hgw4.out ?_)
                  intro gq cap w6 O6 hgr hl6 hlt6
                  have hY2 := below1' (wd.alloc (.cells #[.int .i64 (last + 1), .int .i64 qf, .int .i64 qt, .int .i64 qn, .slice bA ql.length bc] 32)) (.cells #[.int .i64 (last + 1), .int .i64 qf, .int .i64 qt, .int .i64 qn, .slice bA ql.length bc] 32)
                  have HM6 := HM5.out.below hY2
                  have hBw := Nat.le_trans HM5.out.hB HM5.out.hw
                  have hg6 := HM6.belowS hgr
                  have hb6 := (hb5.out.trans (hY2.mono hb5.out.size)).trans hg6
                  have HMF := Lib.hid (HM6.appS (sv' := .slice (some ⟨gq, 0, none⟩) (S.length + 1) cap) (last + 1, qf, qt, qn, ql) bA bc P HQ.out.2.1 (fun p hp => by
                    obtain ⟨A, c, hv, hr⟩ := HPb.out p hp
                    exact ⟨A, c, hv, hr.below (hY2.mono hBw)⟩) O6 ((HBR.out.below (hY2.mono hBw)).below hg6) hgr (fun b hb => by
                    injection hb with hb
                    rcases hl6 with h | h
                    · exact .inl (by rw [h]; exact congrArg some hb)
                    · refine .inr ?_
                      have hb : gq = b := hb
                      simp only [World.size_alloc]
                      omega) (fun b hb => by injection hb with hb; have hb : gq = b := hb; omega))
                  clear HM6 hY2 O6 hgr hl6 hlt6 HO HPb HlS HS3 hgw4 HM5 hb5 HQ hg6 HBR
                  go_wp2
                  go_roundw
                  case rel => exact ⟨k + 1, row', last + 1, _, _, G, by go_num, by omega, by omega, HMF, HP.out.sent HOK.out, hb6⟩
                  case measure => simp [intOf]; omega
            · have DN := Lib.hid (double_line_none M g g row last C id _ hL HP.out.good (by have := HP.out.lk; omega) (by have := HP.out.cl; omega) ⟨HST.out.lo, HST.out.hi⟩ (fun c hc h => hin ⟨c, hc, h⟩))
              clear hL hM1 hM2 hll hin
              go_wp2_with fail
              refine DN.out.mono ?_
              rintro e w4 ⟨rfl, h4⟩
              have HM4 := Lib.hid (HMV.out.below h4)
              have hb4 := hbV.out.trans (h4.mono hbV.out.size)
              clear h4 DN HMV hbV B0 B1 B2 B3 B4 B5 B6 c0 c1 c2 c3 c4 c5 c6
              go_wp2
              go_loopw [5, 14] (fun s5 s14 wq => s5 = .slice As S.length cs ∧ s14 = .int .i64 0 ∧ Hid (Mem w.heap.size g wq g row last C S G (.slice As S.length cs) (.slice Ag G.length cg)) ∧ Below w.heap.size w wq) (fun _ _ _ => 0)
              case atStart => exact ⟨rfl, rfl, HM4, hb4⟩
              case round =>
                clear hb4 HM4
                obtain ⟨rfl, rfl, HM4, hb4⟩ := hrel
                by_cases hS0 : 0 < S.length
                · go_wp2
                  go_roundw
                  case rel => exact ⟨k + 1, row, last, C, S, G, by go_num, by omega, by omega, HM4, HP.out.next, hb4⟩
                  case measure => simp [intOf]; omega
                · have hS1 : S.length = 0 := by omega
                  go_wp2
                  go_roundw
                  case rel => exact ⟨k + 1, row, last, C, S, G, by go_num, by omega, by omega, HM4, HP.out.next, hb4⟩
                  case measure => simp [intOf]; omega
          · by_cases hd1 : what = 1
            · subst hd1
              obtain ⟨M, hL, hM1, hM2⟩ := HMV.out.line
              have hll := hL.lt
              by_cases hin : ∃ c ∈ C, c.1 = id
              · have DL := Lib.hid (deliver_line M g g row last C id _ hL HP.out.good (by have := HP.out.lk; omega) (by have := HP.out.cl; omega) ⟨HST.out.lo, HST.out.hi⟩ hin)
                have HM1 := Lib.hid hM1
                have HM2 := Lib.hid hM2
                have HLL := Lib.hid hll
                have HLB := Lib.hid (fun w' (T : Two g row _ w') => hL.below2 T hgw hbV.out.size)
                clear hL hM1 hM2 hll hin
                go_wp2_with fail
                refine DL.out.mono ?_
                rintro e w4 ⟨kk, ⟨ci, cf, ct, ck, cl⟩, v, hck, hci, rfl, L4, T4, D4⟩
                have hci : ci = id := hci
                subst hci
                have hx1 : wr.heap.size ≠ g := by have := HLW.out.1; omega
                have hx2 : some wr.heap.size ≠ row := fun e => by have := HLW.out.2 _ e.symm; omega
                replace B1 := B1.out.two T4 hx1 hx2
                have HM4 := Lib.hid (HMV.out.turn HM1.out HM2.out (fun b h => h) L4 T4 (.inl rfl) HLL.out.1 (fun r hr => (HLL.out.2.2 r hr).1))
                have hb4 := hbV.out.trans (HLB.out w4 T4)
                obtain ⟨mA, mc, hmv, _, hmr, _, hmq⟩ := D4
                have HMA : Hid (∀ q o, mA = some ⟨q, o, none⟩ → cl ≠ [] → (Value.slice Ag G.length cg).ownBlock ≠ some q) := fun q o h0 h1 h2 => hmq q o h0 h1 (HM2.out q h2)
                clear hmq
                have hmv : v = .slice mA cl.length mc := hmv
                have hmr : Rd w4 w4.heap.size mA cl := hmr
                subst hmv
                simp only [cnV]
                have HCK := Lib.hid hck
                have HMR := Lib.hid hmr
                obtain ⟨bx, hbx⟩ : ∃ bx, bx = wr.heap.size := ⟨_, rfl⟩
                rw [← hbx] at B1 HGW
                rw [← hbx]
                clear hbx L4 T4 DL HMV HM1 HM2 HLL HLB hbV B0 B2 B3 B4 B5 B6 c0 c1 c2 c3 c4 c5 c6 hck hmr hx1 hx2
                have HGW4 : Hid (∀ b, (Value.slice Ag G.length cg).ownBlock = some b → b < w4.heap.size) := fun b hb => (HM4.out.gone.lt b hb).2
                have hY := below1' w4 (.cells #[.int .i64 ci, .int .i64 cf, .int .i64 ct, .int .i64 ck, .slice mA cl.length mc] 32)
                have V := fun (j : Nat) (x : Value) (h : (#[.int .i64 ci, .int .i64 cf, .int .i64 ct, .int .i64 ck, .slice mA cl.length mc] : Array Value)[j]? = some x) => Cell.new w4 #[.int .i64 ci, .int .i64 cf, .int .i64 ct, .int .i64 ck, .slice mA cl.length mc] 32 j x h
                have V0 := V 0 (.int .i64 ci) rfl
                have V1 := V 1 (.int .i64 cf) rfl
                have V2 := V 2 (.int .i64 ct) rfl
                have V3 := V 3 (.int .i64 ck) rfl
                have V4 := V 4 (.slice mA cl.length mc) rfl
                clear V
                have HM5 := Lib.hid (HM4.out.below hY)
                have hb5 := hb4.trans (hY.mono hb4.size)
                have B1 := B1.keep hY
                have HMR5 := Lib.hid ((HMR.out.below hY).more hY.size)
                obtain ⟨by', hby⟩ : ∃ u, u = w4.heap.size := ⟨_, rfl⟩
                rw [← hby] at V0 V1 V2 V3 V4 HGW4
                have HBX := Lib.hid (And.intro B1 (And.intro V0 (And.intro V1 (And.intro V2 (And.intro V3 V4)))))
                clear B1 V0 V1 V2 V3 V4 HM4 hb4 hY HMR
                go_wp2
                rw [← hby]
                clear hby
                go_loopw [18] (fun s18 wq => ∃ j : Nat, s18 = .int .i64 j ∧ j ≤ G.length ∧ Hid (Mem w.heap.size g wq g row last (C.eraseIdx kk) S G (.slice As S.length cs) (.slice Ag G.length cg)) ∧ Hid (Cell wq bx 1 (.int .i64 ci) ∧ Cell wq by' 0 (.int .i64 ci) ∧ Cell wq by' 1 (.int .i64 cf) ∧ Cell wq by' 2 (.int .i64 ct) ∧ Cell wq by' 3 (.int .i64 ck) ∧ Cell wq by' 4 (.slice mA cl.length mc)) ∧ Hid (Rd wq wq.heap.size mA cl) ∧ Below w.heap.size w wq) (fun s18 _ => G.length - (intOf s18).toNat)
                case atStart => exact ⟨0, rfl, by omega, HM5, HBX, HMR5, hb5⟩
                case round =>
                  clear hb5 HM5 HBX HMR5
                  obtain ⟨j, rfl, hj, HM5, HBX, HMR5, hb5⟩ := hrel
                  have hg300 : G.length ≤ 300 := by have := HP.out.gl; omega
                  have v0 := HBX.out.2.1.1
                  by_cases hlt0 : j < G.length
                  · obtain ⟨q, hq, hcell⟩ := OwnI.at HM5.out.gone hlt0
                    subst hq
                    have hne : ¬ G[j] = ci := by
                      have hmem := List.getElem_mem hlt0
                      exact fun e => (HP.out.out _ hmem).2 _ (List.mem_of_getElem? HCK.out) e.symm
                    obtain ⟨gj, hgj⟩ : ∃ x, x = G[j] := ⟨_, rfl⟩
                    rw [← hgj] at hcell hne
                    clear hgj
                    have hneb : (gj == ci) = false := by rw [beq_eq_false_iff_ne]; exact hne
                    go_wp2
                    go_quiet (fail)
                    have hdn := below_toN (Below.refl wr.heap.size wr) nq
                    have HM6 := Lib.hid (HM5.out.below hdn)
                    have hb6 := hb5.trans (hdn.mono hb5.size)
                    have HBX6 : Hid (Cell (wr.drewN nq) bx 1 (.int .i64 ci) ∧ Cell (wr.drewN nq) by' 0 (.int .i64 ci) ∧ Cell (wr.drewN nq) by' 1 (.int .i64 cf) ∧ Cell (wr.drewN nq) by' 2 (.int .i64 ct) ∧ Cell (wr.drewN nq) by' 3 (.int .i64 ck) ∧ Cell (wr.drewN nq) by' 4 (.slice mA cl.length mc)) := HBX.out
                    have HMR6 : Hid (Rd (wr.drewN nq) (wr.drewN nq).heap.size mA cl) := HMR5.out
                    clear hdn
                    go_wp2
                    go_roundw
                    case rel => exact ⟨j + 1, by go_num, by omega, HM6, HBX6, HMR6, hb6⟩
                    case measure => simp [intOf]; omega
                  · obtain rfl : j = G.length := by omega
                    have hY := below1' wr (.cells #[.int .i64 ci] 3)
                    have HM6 := Lib.hid (HM5.out.below hY)
                    have hb6 := Lib.hid (hb5.trans (hY.mono hb5.size))
                    have HR6 := Lib.hid ((HMR5.out.below hY).more hY.size)
                    have HBX6 := Lib.hid (And.intro (HBX.out.1.keep hY) (And.intro (HBX.out.2.1.keep hY) (And.intro (HBX.out.2.2.1.keep hY) (And.intro (HBX.out.2.2.2.1.keep hY) (And.intro (HBX.out.2.2.2.2.1.keep hY) (HBX.out.2.2.2.2.2.keep hY))))))
                    have HOG := Lib.hid HM5.out.gone
                    have HG3 : Hid (G.length < 1000) := by show _ < _; omega
                    have hgw5 := Lib.hid HM5.out.hw
                    clear hY hb5
                    go_wp2_with (at_builtin; refine app_int _ g (.slice Ag G.length cg) G.length G ci rfl (.tmp 122) (.tmp 125) rfl rfl wr.heap.size rfl rfl HOG.out rfl HG3.out hgw5.out ?_)
                    intro gq cap w7 O7 hgr hl7
                    have HM7 := Lib.hid (HM6.out.appG (gv' := .slice (some ⟨gq, 0, none⟩) (G.length + 1) cap) ci O7 hgr (fun b hb => by
                      injection hb with hb
                      rcases hl7 with h | h
                      · exact .inl (by rw [h]; exact congrArg some hb)
                      · refine .inr ?_
                        have hb : gq = b := hb
                        simp only [World.size_alloc]
                        omega))
                    have hb7 := hb6.out.trans (HM6.out.belowG hgr)
                    have hn1 : some bx ≠ (Value.slice Ag G.length cg).ownBlock := fun e => Nat.lt_irrefl _ (HGW.out bx e.symm)
                    have hn2 : some by' ≠ (Value.slice Ag G.length cg).ownBlock := fun e => Nat.lt_irrefl _ (HGW4.out by' e.symm)
                    have HBX7 := Lib.hid (And.intro (HBX6.out.1.grown hgr hn1) (And.intro (HBX6.out.2.1.grown hgr hn2) (And.intro (HBX6.out.2.2.1.grown hgr hn2) (And.intro (HBX6.out.2.2.2.1.grown hgr hn2) (And.intro (HBX6.out.2.2.2.2.1.grown hgr hn2) (HBX6.out.2.2.2.2.2.grown hgr hn2))))))
                    have HR7 := Lib.hid (HR6.out.grownOut hgr HMA.out)
                    have hcS := HP.out.all _ (List.mem_of_getElem? HCK.out)
                    obtain ⟨jS, hjS, hcj⟩ := List.getElem_of_mem hcS
                    have HCJ := Lib.hid hcj
                    clear O7 hgr hl7 HM6 hb6 HR6 HBX6 HOG HG3 hgw5 HM5 HBX HMR5 v0 hn1 hn2 hcS hcj HMA HGW HGW4 hg300 hlt0
                    go_wp2
                    go_loopw [19, 20] (fun s19 s20 wq => ∃ (j : Nat) (b : Bool), s19 = .bool b ∧ s20 = .int .i64 j ∧ j ≤ S.length ∧ (jS < j → b = true) ∧ Hid (Mem w.heap.size g wq g row last (C.eraseIdx kk) S (G ++ [ci]) (.slice As S.length cs) (.slice (some ⟨gq, 0, none⟩) (G.length + 1) cap)) ∧ Hid (Cell wq bx 1 (.int .i64 ci) ∧ Cell wq by' 0 (.int .i64 ci) ∧ Cell wq by' 1 (.int .i64 cf) ∧ Cell wq by' 2 (.int .i64 ct) ∧ Cell wq by' 3 (.int .i64 ck) ∧ Cell wq by' 4 (.slice mA cl.length mc)) ∧ Hid (Rd wq wq.heap.size mA cl) ∧ Below w.heap.size w wq) (fun _ s20 _ => S.length - (intOf s20).toNat)
                    case atStart => exact ⟨0, false, rfl, rfl, by omega, fun h => absurd h (Nat.not_lt_zero _), HM7, HBX7, HR7, hb7⟩
                    case round =>
                      clear hb7 HM7 HBX7 HR7
                      obtain ⟨j, b, rfl, rfl, hj, hjb, HM7, HBX7, HR7, hb7⟩ := hrel
                      have hs300 : S.length ≤ 300 := by have := HP.out.sl; omega
                      by_cases hlt0 : j < S.length
                      · obtain ⟨P, hO, hSP, hPb⟩ := HM7.out.sent
                        have hjP : j < P.length := by rw [hSP] at hlt0; simpa using hlt0
                        rcases hO.evs with h0 | ⟨q, rfl, hq, hc⟩
                        · have : P.length = 0 := by simpa using congrArg List.length h0
                          omega
                        obtain ⟨c0, c1, c2, c3, c4⟩ := hc j (by simpa using hjP)
                        rw [evAt_map hjP] at c0 c1 c2 c3 c4
                        obtain ⟨bA, bc, hbv, hbr⟩ := hPb _ (List.getElem_mem hjP)
                        have hSj : S[j] = cn P[j] := by simp [hSP]
                        obtain ⟨p, hp⟩ : ∃ p, p = P[j] := ⟨_, rfl⟩
                        rw [← hp] at c0 c1 c2 c3 c4 hbv hbr hSj
                        obtain ⟨⟨qi, qf, qt, qn, qv⟩, ql⟩ := p
                        simp only at c0 c1 c2 c3 c4 hbv hbr
                        subst hbv
                        have HSJ := Lib.hid hSj
                        have HRA := Lib.hid (hbr.more (Nat.le_trans HM7.out.hB HM7.out.hw))
                        have SA := Lib.hid (fun w h1 h2 => same_any (qi, qf, qt, qn, ql) (ci, cf, ct, ck, cl) bA bc mA mc w h1 h2)
                        clear hp hc hO hSP hPb hbr hSj
                        obtain ⟨v0, v1, v2, v3, v4⟩ := HBX7.out.2
                        replace v0 := v0.1
                        replace v1 := v1.1
                        replace v2 := v2.1
                        replace v3 := v3.1
                        replace v4 := v4.1
                        obtain ⟨D, hD⟩ : ∃ D, D = decide ((((qi, qf, qt, qn, ql) : Cn)) = (ci, cf, ct, ck, cl)) := ⟨_, rfl⟩
                        rw [← hD] at SA
                        have HD := Lib.hid hD
                        clear hD
                        go_wp2
                        go_region_law (go_simp; go_at_call 15; refine (SA.out wr.drew HRA.out HR7.out).mono ?_; rintro e w8 ⟨rfl, h8⟩; have h8 := below_of_drew h8)
                        all_goals
                          have HM8 := Lib.hid (HM7.out.below h8)
                          have HBX8 := Lib.hid (And.intro (HBX7.out.1.keep h8) (And.intro (HBX7.out.2.1.keep h8) (And.intro (HBX7.out.2.2.1.keep h8) (And.intro (HBX7.out.2.2.2.1.keep h8) (And.intro (HBX7.out.2.2.2.2.1.keep h8) (HBX7.out.2.2.2.2.2.keep h8))))))
                          have HR8 := Lib.hid ((HR7.out.below h8).more h8.size)
                          have hb8 := hb7.trans (h8.mono hb7.size)
                          clear h8 c0 c1 c2 c3 c4 v0 v1 v2 v3 v4 SA
                          cases D with
                          | true =>
                            go_wp2
                            go_roundw
                            case rel => exact ⟨j + 1, true, rfl, by go_num, by omega, fun _ => rfl, HM8, HBX8, HR8, hb8⟩
                            case measure => simp [intOf]; omega
                          | false =>
                            have hjb' : jS < j + 1 → b = true := fun h => by
                              rcases Nat.lt_or_ge jS j with h1 | h1
                              · exact hjb h1
                              · obtain rfl : jS = j := by omega
                                have := of_decide_eq_false HD.out.symm
                                exact absurd (HSJ.out.symm.trans HCJ.out) this
                            clear hjb
                            go_wp2
                            go_roundw
                            case rel => exact ⟨j + 1, b, rfl, by go_num, by omega, hjb', HM8, HBX8, HR8, hb8⟩
                            case measure => simp [intOf]; omega
                      · obtain rfl : b = true := hjb (by omega)
                        have b1 := HBX7.out.1.1
                        have v0 := HBX7.out.2.1.1
                        clear hjb
                        go_wp2
                        go_roundw
                        case rel => exact ⟨k + 1, row, last, C.eraseIdx kk, S, _, by go_num, by omega, by omega, HM7, HP.out.gone HCK.out, hb7⟩
                        case measure => simp [intOf]; omega
              · have DN := Lib.hid (deliver_line_none M g g row last C id _ hL HP.out.good (by have := HP.out.lk; omega) (by have := HP.out.cl; omega) ⟨HST.out.lo, HST.out.hi⟩ (fun c hc h => hin ⟨c, hc, h⟩))
                clear hL hM1 hM2 hll hin
                go_wp2_with fail
                refine DN.out.mono ?_
                rintro e w4 ⟨rfl, h4⟩
                have HM4 := HMV.out.below h4
                have hb4 := hbV.out.trans (h4.mono hbV.out.size)
                have hY := below1' w4 (.cells #[.int .i64 0, .int .i64 0, .int .i64 0, .int .i64 0, .slice none 0 0] 32)
                have HM5 := Lib.hid (HM4.below hY)
                have hb5 := hb4.trans (hY.mono hb4.size)
                clear h4 DN HMV hbV B0 B1 B2 B3 B4 B5 B6 c0 c1 c2 c3 c4 c5 c6 HM4 hb4 hY
                go_wp2
                go_roundw
                case rel => exact ⟨k + 1, row, last, C, S, G, by go_num, by omega, by omega, HM5, HP.out.next, hb5⟩
                case measure => simp [intOf]; omega
            · clear B0 B1 B2 B3 B4 B5 B6
              have hn0 : (what == 0) = false := by rw [beq_eq_false_iff_ne]; exact hd0
              have hn3 : (what == 3) = false := by rw [beq_eq_false_iff_ne]; exact hd3
              have hn1 : (what == 1) = false := by rw [beq_eq_false_iff_ne]; exact hd1
              have hb4 := hbV.out
              go_wp2
              go_roundw
              case rel => exact ⟨k + 1, row, last, C, S, G, by go_num, by omega, by omega, HMV, HP.out.next, hb4⟩
              case measure => simp [intOf]; omega
      · go_wp2
        go_ret
        exact ⟨rfl, hb⟩
    · go_wp2
      go_ret
      exact ⟨rfl, hb⟩
end Go.Proofs.Ytekgmgiokmbliaa
