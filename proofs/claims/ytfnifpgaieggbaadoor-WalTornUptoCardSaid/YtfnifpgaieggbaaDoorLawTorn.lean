/-
  The law of WalTorn.
-/
import Derived.Test.YtfnifpgaieggbaaDoorTornM
set_option linter.unusedVariables false
namespace Go.Proofs.YtfnifpgaieggbaaDoor
open Go.RowKit

set_option maxHeartbeats 6400000 in
set_option maxRecDepth 100000 in
theorem law_torn (Ls : List (List OpD)) (A : Option Addr) (n c : Nat) (cut : Int) (by_ : UInt8) (w : World) (hn : n = Ls.length) (hr : BatsRd w w.heap.size A Ls) (hs : ∀ l ∈ Ls, SmallO l) (hd : (Ls.map dat).sum ≤ 1048576) (hnl : n ≤ 1048576)
    (hc0 : -9223372036854775808 ≤ cut) (hc1 : cut ≤ 9223372036854775807) (hT : Tab w) (h0 : 0 < w.heap.size) :
    Calls Tryd.prog 5 #[.slice A n c, .int .i64 cut, .int .u8 (by_.toNat : Int)] w fun e w' => e = .returned (.bool true) ∧ Below w.heap.size w w' := by
  have HN := Lib.hid hn
  have HR := Lib.hid hr
  have HS := Lib.hid hs
  have HD := Lib.hid hd
  have HT := Lib.hid hT
  have H0 := Lib.hid h0
  have HC0 := Lib.hid hc0
  have HC1 := Lib.hid hc1
  clear hn hr hs hd hT h0 hc0 hc1
  go_enter Tryd.func5, Tryd.ntmps5
  go_wp2_with fail
  refine (shown_any w HT.out H0.out).mono ?_
  rintro e w1 ⟨rfl, h1⟩
  have HB1 := Lib.hid h1
  clear h1
  go_wp2_with fail
  go_loopw [8, 9, 10, 11] (fun s8 s9 s10 s11 wr => ∃ (i m k sq : Nat) (Aa Ae : Option Addr) (ca ce : Nat), s8 = .slice Aa m ca ∧ s9 = .slice Ae k ce ∧ s10 = .int .u64 sq ∧ s11 = .int .i64 i ∧ i ≤ n ∧ i ≤ 40 ∧ k ≤ 40 ∧ sq ≤ 10241 ∧ Hid (∃ L, TI wr w.heap.size (.slice Aa m ca) (.slice Ae k ce) Ls L i ∧ m = (catB L).length ∧ k = L.length ∧ sq = 1 + lens L) ∧ Below w.heap.size w wr) (fun _ _ _ s11 _ => n - (intOf s11).toNat)
  case atStart => exact ⟨0, 0, 0, 1, none, none, 0, 0, rfl, rfl, rfl, rfl, by omega, by omega, by omega, by omega, ⟨[], ⟨trivial, Own.nil_ _ _, World.ownsRow_nil _ _ _ _, (fun q h => nomatch h), by simp [catB], by simp⟩, rfl, rfl, rfl⟩, HB1.out⟩
  case round =>
    obtain ⟨i, m, k, sq, Aa, Ae, ca, ce, rfl, rfl, rfl, rfl, hin, hi40, hk40, hsq, HI, hb⟩ := hrel
    by_cases hlt : i < n
    · have hlt' : (i : Int) < (n : Int) := by omega
      by_cases h40 : i < 40
      · have h40' : (i : Int) < 40 := by omega
        have hi : i < Ls.length := by have := HN.out; omega
        obtain ⟨g, o, hA, hg, hcell⟩ : ∃ g o, A = some ⟨g, o, none⟩ ∧ g < w.heap.size ∧ ∀ i (h : i < Ls.length), ∃ K kc, w.cell? ⟨g, o + i, none⟩ = some (.slice K Ls[i].length kc) ∧ OpsRd w w.heap.size K Ls[i] := by
          rcases HR.out with h | h
          · rw [h] at hi; simp at hi
          · exact h
        subst hA
        obtain ⟨T, hTe, hTm⟩ : ∃ T, Ls[i] = T ∧ T ∈ Ls := ⟨_, rfl, List.getElem_mem hi⟩
        have HDT : Hid (((Ls.take (i + 1)).map dat).sum = ((Ls.take i).map dat).sum + dat T) := by show _ = _; rw [sum_take hi, hTe]
        obtain ⟨K, kc, x0, hops⟩ := hcell i hi
        rw [hTe] at x0 hops
        have y0 := (hb.cell (p := ⟨g, o + i, none⟩) hg).trans x0
        have HEN := Lib.hid (encode_any sq T K T.length kc wr rfl ((hops.below hb).more hb.size) (HS.out _ hTm) (by omega) (HT.out.below hb H0.out) (Nat.lt_of_lt_of_le H0.out hb.size))
        have HLI : Hid (T.length ≤ 1048576) := (HS.out _ hTm).n
        obtain ⟨nl, hnl2⟩ : ∃ x, x = T.length := ⟨_, rfl⟩
        have HNL := Lib.hid hnl2
        rw [← hnl2] at y0 HEN HLI
        clear hTe hTm
        have HX0 := Lib.hid x0
        have HG := Lib.hid hg
        have HHI := Lib.hid hi
        have HBB := Lib.hid hb
        clear hcell hops hnl2 x0 hg
        go_wp2_with fail
        refine HEN.out.mono ?_
        rintro e w2 ⟨⟨v2, rfl, hok, hbad⟩, h2⟩
        have hb2 := HBB.out.trans (h2.mono HBB.out.size)
        have HB2 := Lib.hid hb2
        obtain ⟨L, hI, hm, hk, hq⟩ := HI.out
        have HI2 := Lib.hid (hI.keep h2)
        have HML := Lib.hid (And.intro hm (And.intro hk hq))
        have HBW : Hid (w.heap.size ≤ wr.heap.size) := HBB.out.size
        have HBW2 : Hid (wr.heap.size ≤ w2.heap.size) := h2.size
        obtain ⟨E, hE⟩ : ∃ x, x = encE sq T := ⟨_, rfl⟩
        have HZ : Hid (E = 0 → EncP sq T) := fun h => encE_zero.1 (hE ▸ h)
        rw [← hE] at hok hbad
        rw [← hE]
        clear hI hm hk hq hb2 h2 HEN HI hE
        by_cases he : E = 0
        · have HO := Lib.hid (hok he)
          have HEP := Lib.hid (HZ.out he)
          subst he
          clear hok hbad HZ
          have hpos := batB_pos sq T
          obtain ⟨g2, c2, rfl, hg2⟩ := HO.out.shape (by omega)
          have HR2 := Lib.hid (HO.out.rdc)
          obtain ⟨bb, hbb⟩ : ∃ x, x = batB sq T := ⟨_, rfl⟩
          have HBQ := Lib.hid hbb
          rw [← hbb] at HO HR2 hpos
          rw [← hbb]
          clear hbb
          have hrd : Rd w2 w2.heap.size (some ⟨g2, 0, none⟩) bb := by
            obtain ⟨A', c', e1, e2, _⟩ := HR2.out
            injection e1 with e1 _ _
            rw [e1]
            exact e2
          have HRD := Lib.hid hrd
          obtain ⟨mb, hmb⟩ : ∃ x, x = bb.length := ⟨_, rfl⟩
          have HMB := Lib.hid hmb
          rw [← hmb] at hpos
          rw [← hmb]
          have hlen : Hid ((catB L).length + mb ≤ 2400000) := by
            have h1 := HI2.out.len
            have h2 := sum_take_le Ls (i + 1)
            have h3 := HDT.out
            have h4 := HD.out
            have h5 := batB_le HEP.out
            have h6 := hmb
            rw [HBQ.out] at h6
            show _ ≤ _
            omega
          have hlen2 : Hid ((catB L).length + mb ≤ 70368744177664) := by have := hlen.out; show _ ≤ _; omega
          have hbw2 : Hid (w.heap.size ≤ w2.heap.size) := Nat.le_trans HBW.out HBW2.out
          have HMm := Lib.hid HML.out.1
          clear hrd HR2 hmb
          go_wp2_with (at_builtin; refine app_more w2 w.heap.size (.slice Aa m ca) (catB L) bb (some ⟨g2, 0, none⟩) c2 mb HMB.out hpos rfl (.tmp 47) (.tmp 48) rfl rfl rfl HI2.out.own HRD.out hlen2.out hbw2.out ?_)
          intro gq cap w3 o3 g3 l3
          have HW3 : Hid (w2.heap.size ≤ w3.heap.size) := g3.size
          have hEN : OwnI w3 w.heap.size (.slice Ae k ce) (endsOf L) := HI2.out.ends.grown g3 HI2.out.apart
          have HEN3 := Lib.hid hEN
          have HAP : Hid (∀ q, (Value.slice Ae k ce).ownBlock = some q → gq ≠ q ∧ q < w2.heap.size) := fun q hq => by
            have h1 := HI2.out.apart q hq
            have h2 := World.ownsRow.lt HI2.out.ends q hq
            refine ⟨fun e => ?_, h2.2⟩
            rcases l3 with l3 | l3
            · exact h1 (by rw [← l3, ← e]; rfl)
            · have := l3 gq rfl
              omega
          have HB3 := Lib.hid (HB2.out.trans (grown_below g3 HI2.out.own (Nat.le_refl _) hbw2.out))
          have hcat : catB (L ++ [(sq, T)]) = catB L ++ bb := by rw [catB_app, HBQ.out]; simp [catB]
          rw [← hcat] at o3
          have HCAT := Lib.hid hcat
          have HO3 := Lib.hid o3
          have hml : (catB (L ++ [(sq, T)])).length = m + mb := by rw [hcat, List.length_append, HMB.out, HMm.out]
          have HML2 := Lib.hid hml
          rw [← HMm.out]
          have HO3' := Lib.hid (show Own w3 w.heap.size (.slice (some ⟨gq, 0, none⟩) (m + mb) cap) (catB (L ++ [(sq, T)])) by rw [HMm.out]; exact HO3.out)
          have hbw3 : Hid (w.heap.size ≤ w3.heap.size) := Nat.le_trans hbw2.out HW3.out
          have HKL : Hid (k = (endsOf L).length) := by show _ = _; rw [endsOf_len]; exact HML.out.2.1
          have hk1000 : Hid (k < 1000) := by show _ < _; omega
          obtain ⟨mm, hmm⟩ : ∃ x, x = m + mb := ⟨_, rfl⟩
          have HMM := Lib.hid hmm
          replace HO3' := HO3'.out
          rw [← hmm] at HO3' hml
          replace HO3' := Lib.hid HO3'
          rw [← hmm]
          clear o3 g3 l3 hEN hcat hml hmm HO3 HO HRD
          go_wp2_with (at_builtin; refine app_int w3 w.heap.size (.slice Ae k ce) k (endsOf L) (mm : Int) rfl (.tmp 50) (.tmp 53) rfl rfl w3.heap.size rfl rfl HEN3.out HKL.out hk1000.out hbw3.out ?_)
          intro ge ce' w4 o4 g4 l4
          have hgq : gq < w3.heap.size := (World.ownsRow.lt HO3'.out gq rfl).2
          have hne : ge ≠ gq := fun e => by
            rcases l4 with l4 | l4
            · exact (HAP.out ge l4).1 e.symm
            · omega
          have hne2 : ∀ q, (Value.slice (some ⟨gq, 0, none⟩) mm cap).ownBlock = some q → (Value.slice Ae k ce).ownBlock ≠ some q := fun q hq e => by
            injection hq with hq
            exact (HAP.out q e).1 hq
          have oA : Own w4 w.heap.size (.slice (some ⟨gq, 0, none⟩) mm cap) (catB (L ++ [(sq, T)])) := Own.grown (HO3'.out.alloc (.cells #[.int .i64 (mm : Int)] 3)) g4 hne2
          have HB4 : Hid (Below w.heap.size w w4) := (HB3.out.alloc hbw3.out (.cells #[.int .i64 (mm : Int)] 3)).trans (growns_below (g4) (fun q hq => (World.ownsRow.lt HEN3.out q hq).1) (by simp; have := hbw3.out; omega))
          have hmmL : mm = (catB (L ++ [(sq, T)])).length := by rw [HML2.out, HMM.out]
          have HI4 : Hid (∃ L, TI w4 w.heap.size (.slice (some ⟨gq, 0, none⟩) mm cap) (.slice (some ⟨ge, 0, none⟩) (k + 1) ce') Ls L (i + 1) ∧ mm = (catB L).length ∧ k + 1 = L.length ∧ sq + nl = 1 + lens L) := by
            refine ⟨L ++ [(sq, T)], ⟨HI2.out.seqd.snoc HEP.out HML.out.2.2, oA, ?_, ?_, ?_, ?_⟩, hmmL, ?_, ?_⟩
            · rw [endsOf_snoc, ← hmmL]
              exact o4
            · intro q hq e
              injection hq with hq
              injection e with e
              exact hne (hq.trans e.symm)
            · have h1 := HI2.out.len
              have h2 := HDT.out
              have h3 := batB_le HEP.out
              have h4 := HMB.out
              have h5 := HML2.out
              have h6 := HMm.out
              rw [HBQ.out] at h4
              omega
            · have := HI2.out.num
              simp
              omega
            · have := HML.out.2.1
              simp
              omega
            · have h1 := HML.out.2.2
              have h2 := HNL.out
              rw [lens_snoc]
              show _ = 1 + (lens L + T.length)
              omega
          have hnl256 : nl ≤ 256 := by have := HEP.out.1.1.2; have := HNL.out; omega
          have hkk := HML.out.2.1
          have hik := HI2.out.num
          have hsq2 : sq + nl ≤ 10241 := by
            obtain ⟨L', hL', _, hk', hs'⟩ := HI4.out
            have := lens_le hL'.seqd
            omega
          have y4 := (HB4.out.cell (p := ⟨g, o + i, none⟩) HG.out).trans HX0.out
          rw [← HNL.out] at y4
          have hki : k + 1 ≤ 40 := by omega
          clear o4 g4 l4 hgq hne hne2 oA hmmL hkk
          go_wp2
          go_roundw
          case rel => exact ⟨i + 1, mm, k + 1, sq + nl, some ⟨gq, 0, none⟩, some ⟨ge, 0, none⟩, cap, ce', rfl, rfl, by go_num, by go_num, by omega, by omega, hki, hsq2, HI4, HB4.out⟩
          case measure => simp [intOf]; omega
        · have he' : ((E : Int) != 0) = true := by rw [bne_iff_ne]; omega
          have hv := hbad he
          subst hv
          clear hok hbad HZ
          have HI4 : Hid (∃ L, TI w2 w.heap.size (.slice Aa m ca) (.slice Ae k ce) Ls L (i + 1) ∧ m = (catB L).length ∧ k = L.length ∧ sq = 1 + lens L) := ⟨L, HI2.out.skip HHI.out, HML.out⟩
          go_wp2
          go_roundw
          case rel => exact ⟨i + 1, m, k, sq, Aa, Ae, ca, ce, rfl, rfl, rfl, by go_num, by omega, by omega, by omega, hsq, HI4, HB2.out⟩
          case measure => simp [intOf]; omega
      · have h40' : ¬ (i : Int) < 40 := by omega
        obtain ⟨L, hI, hm, hk, hq⟩ := HI.out
        have HI2 := Lib.hid hI
        have HML := Lib.hid (And.intro hm hk)
        have HBB := Lib.hid hb
        have hm4 : m ≤ 2400000 := by
          have h1 := hI.len
          have h2 := sum_take_le Ls i
          have h4 := HD.out
          omega
        clear HI hI hm hk hq hb HB1
        by_cases hm0 : m = 0
        · subst hm0
          go_wp2
          go_ret
          exact ⟨rfl, HBB.out⟩
        have hm0' : ¬ (m : Int) = 0 := by omega
        by_cases hcut : cut < 0
        · go_wp2
          go_ret
          exact ⟨rfl, HBB.out⟩
        obtain ⟨cu, rfl⟩ : ∃ cu : Nat, cut = cu := ⟨cut.toNat, by omega⟩
        have hrem : ((cu : Int).tmod (m : Int)) = ((cu % m : Nat) : Int) := by rw [Int.ofNat_tmod]
        have hkm : cu % m < m := Nat.mod_lt _ (by omega)
        obtain ⟨kk, hkk⟩ : ∃ x, x = cu % m := ⟨_, rfl⟩
        rw [← hkk] at hkm hrem
        clear hkk
        go_wp2_with fail
        go_loopw [15] (fun s15 wr' => ∃ wh : Nat, s15 = .int .i64 wh ∧ wh ≤ k ∧ wr' = wr ∧ Hid ((catB (L.take wh)).length ≤ kk)) (fun s15 _ => k - (intOf s15).toNat)
        case atStart => exact ⟨0, rfl, by omega, rfl, by show _ ≤ _; simp [catB]⟩
        case round =>
          obtain ⟨wh, rfl, hwk, rfl, hfk'⟩ := hrel
          by_cases hw : wh < k
          · have hwl : wh < L.length := by have := HML.out.2; omega
            obtain ⟨q, hq, y1⟩ := HI2.out.ends.at (k := wh) (by rw [endsOf_len]; exact hwl)
            rw [endsOf_at] at y1
            obtain ⟨ew, hew⟩ : ∃ x, x = (catB (L.take (wh + 1))).length := ⟨_, rfl⟩
            rw [← hew] at y1
            have HEW := Lib.hid hew
            subst hq
            have hw' : (wh : Int) < (k : Int) := by omega
            clear hew
            by_cases hle : ew ≤ kk
            · have hle' : (ew : Int) ≤ (kk : Int) := by omega
              have hnext : Hid ((catB (L.take (wh + 1))).length ≤ kk) := by show _ ≤ _; rw [← HEW.out]; exact hle
              clear hwl
              go_wp2
              go_roundw
              case rel => exact ⟨wh + 1, by go_num, by omega, trivial, hnext⟩
              case measure => simp [intOf]; omega
            · have hle' : ¬ (ew : Int) ≤ (kk : Int) := by omega
              obtain ⟨fr, hfr⟩ : ∃ x, x = (catB (L.take wh)).length := ⟨_, rfl⟩
              have HFR := Lib.hid hfr
              have hfk : fr ≤ kk := by rw [hfr]; exact hfk'.out
              have HWL := Lib.hid hwl
              have HLW : Hid ((L.take wh).length = wh) := by show _ = _; rw [List.length_take]; omega
              obtain ⟨er, her⟩ := torn_at HI2.out.seqd hwl hfk'.out (by rw [← HEW.out]; omega)
              obtain ⟨gA, hgA⟩ : ∃ gA, Aa = some ⟨gA, 0, none⟩ := by
                obtain ⟨gA, c', he, _⟩ := HI2.out.own.shape (by rw [← HML.out.1]; exact hm0)
                injection he with he1 _ _
                exact ⟨gA, he1⟩
              subst hgA
              obtain ⟨rdA, hca⟩ : Rd wr wr.heap.size (some ⟨gA, 0, none⟩) (catB L) ∧ m ≤ ca := by
                obtain ⟨A', cA, he, rdA, hcA⟩ := HI2.out.own.rdc
                injection he with he1 _ he3
                rw [he1, he3, HML.out.1]
                exact ⟨rdA, hcA⟩
              have HRDA := Lib.hid rdA
              have HRP := Lib.hid (replay_any ((catB L).take kk) (some ⟨gA, 0, none⟩) kk ca wr (by rw [List.length_take, ← HML.out.1]; omega) (rd_take rdA kk) (by rw [List.length_take, ← HML.out.1]; omega) (by rw [List.length_take, ← HML.out.1]; omega) (HT.out.below HBB.out H0.out) (Nat.lt_of_lt_of_le H0.out HBB.out.size))
              replace HRP := HRP.out
              rw [her] at HRP
              rw [← hfr] at HRP
              simp only [HLW.out] at HRP
              replace HRP := Lib.hid HRP
              have hcut0 := cut0_run (A := some ⟨gA, 0, none⟩) (n := m) (c := ca) (e := kk) (by omega)
              clear her hfr rdA hwl hfk'
              by_cases hw0 : wh = 0
              · have hw0' : ¬ (0 : Int) < ((0 : Nat) : Int) := by omega
                have hfr0 : fr = 0 := by rw [HFR.out, hw0]; simp [catB]
                subst hfr0
                subst hw0
                go_wp2_with fail
                refine HRP.out.mono ?_
                rintro e w5 ⟨⟨A5, c5, rfl⟩, h5⟩
                have HI5 := Lib.hid (HI2.out.keep h5)
                have HB5 : Hid (Below w.heap.size w w5) := HBB.out.trans (h5.mono HBB.out.size)
                have hkL : kk < (catB L).length := by rw [← HML.out.1]; exact hkm
                have HKL := Lib.hid hkL
                have HEK : Hid (kk < (catB (L.take (0 + 1))).length) := by show _ < _; rw [← HEW.out]; omega
                clear HRP h5 y1 hcut0 hkL
                by_cases hA : 0 + 6 ≤ kk
                · have hA' : (6 : Int) ≤ (kk : Int) := by omega
                  have hd6 : decide ((6 : Int) ≤ (kk : Int)) = true := by rw [decide_eq_true_iff]; omega
                  have hbd : Hid (0 + 6 ≤ kk ∨ (0 + 3 ≤ kk ∧ ∀ h : 0 + 1 < (catB L).length, ((catB L)[0 + 1]).toNat < 128)) := .inl hA
                  by_cases hby : by_.toNat = 0
                  · have hby' : (by_.toNat : Int) = 0 := by omega
                    have hbz : ((by_.toNat : Int) == 0) = true := by rw [beq_iff_eq]; omega
                    go_wp2
                    go_ret
                    exact ⟨rfl, HB5.out⟩
                  have hby' : ¬ (by_.toNat : Int) = 0 := by omega
                  have hbz : ((by_.toNat : Int) == 0) = false := by rw [beq_eq_false_iff_ne]; omega
                  obtain ⟨b0, hb0⟩ : ∃ x, x = (catB L)[kk]'HKL.out := ⟨_, rfl⟩
                  have yk : w5.cell? ⟨gA, kk, none⟩ = some (.int .u8 (b0.toNat : Int)) := by have := HI5.out.own.cell kk HKL.out; rw [← hb0] at this; exact this
                  have hfr : w5.frozen? ⟨gA, kk, none⟩ = false := HI5.out.own.free kk
                  have hx8 := xor8 b0 by_
                  obtain ⟨d, hd⟩ : ∃ x, x = b0 ^^^ by_ := ⟨_, rfl⟩
                  rw [← hd] at hx8
                  have HSO := Lib.hid (HI5.out.own.set kk d)
                  have hgA : Hid (w.heap.size ≤ gA) := (World.ownsRow.lt HI5.out.own gA rfl).1
                  have HBS : Hid (Below w.heap.size w (w5.setCell ⟨gA, kk, none⟩ (bv d))) := HB5.out.setCell hgA.out _
                  have hdn : b0 ≠ d := by rw [hd]; exact xor_ne hby
                  have hrep := turned_at (k := kk) (d := d) HI5.out.seqd HWL.out (by have := HFR.out; omega) HEK.out HKL.out (by rw [← hb0]; exact hdn) (by rw [← HFR.out]; exact hbd.out)
                  have hsl : ((catB L).set kk d).length = m := by rw [List.length_set, ← HML.out.1]
                  have HRP2 := Lib.hid (replay_any ((catB L).set kk d) (some ⟨gA, 0, none⟩) m ca _ hsl.symm (by obtain ⟨A', cA, he, rd', _⟩ := HSO.out.rdc; injection he with he1 _ _; rw [he1]; exact rd') (by rw [hsl]; omega) (by rw [hsl]; exact hca) (HT.out.below HBS.out H0.out) (Nat.lt_of_lt_of_le H0.out HBS.out.size))
                  replace HRP2 := HRP2.out
                  rw [hrep, ← HFR.out] at HRP2
                  simp only [HLW.out] at HRP2
                  replace HRP2 := Lib.hid HRP2
                  clear hrep hb0 hd hsl hdn
                  go_wp2_with fail
                  refine HRP2.out.mono ?_
                  rintro e w7 ⟨⟨A7, c7, rfl⟩, h7⟩
                  have HB7 : Hid (Below w.heap.size w w7) := HBS.out.trans (h7.mono HBS.out.size)
                  clear HRP2 h7 yk hfr
                  go_wp2
                  go_ret
                  exact ⟨rfl, HB7.out⟩
                by_cases hB : 0 + 3 ≤ kk
                · have hA' : ¬ (6 : Int) ≤ (kk : Int) := by omega
                  have hd6 : decide ((6 : Int) ≤ (kk : Int)) = false := by rw [decide_eq_false_iff_not]; omega
                  have hB' : (3 : Int) ≤ (kk : Int) := by omega
                  have hd3 : decide ((3 : Int) ≤ (kk : Int)) = true := by rw [decide_eq_true_iff]; omega
                  have h1L : 0 + 1 < (catB L).length := by rw [← HML.out.1]; omega
                  obtain ⟨xb, hxb⟩ : ∃ x, x = (catB L)[0 + 1] := ⟨_, rfl⟩
                  have yb : w5.cell? ⟨gA, 1, none⟩ = some (.int .u8 (xb.toNat : Int)) := by have := HI5.out.own.cell (0 + 1) h1L; rw [← hxb] at this; exact this
                  have hxx : Hid (∀ h : 0 + 1 < (catB L).length, (catB L)[0 + 1] = xb) := fun _ => hxb.symm
                  have h1m : 1 < m := by omega
                  have h1m' : (1 : Int) < (m : Int) := by omega
                  clear hxb h1L
                  by_cases hx : xb.toNat < 128
                  · have hx' : (xb.toNat : Int) < 128 := by omega
                    have hdx : decide ((xb.toNat : Int) < 128) = true := by rw [decide_eq_true_iff]; omega
                    have hbd : Hid (0 + 6 ≤ kk ∨ (0 + 3 ≤ kk ∧ ∀ h : 0 + 1 < (catB L).length, ((catB L)[0 + 1]).toNat < 128)) := .inr ⟨hB, fun h => by rw [hxx.out h]; exact hx⟩
                    by_cases hby : by_.toNat = 0
                    · have hby' : (by_.toNat : Int) = 0 := by omega
                      have hbz : ((by_.toNat : Int) == 0) = true := by rw [beq_iff_eq]; omega
                      go_wp2
                      go_ret
                      exact ⟨rfl, HB5.out⟩
                    have hby' : ¬ (by_.toNat : Int) = 0 := by omega
                    have hbz : ((by_.toNat : Int) == 0) = false := by rw [beq_eq_false_iff_ne]; omega
                    obtain ⟨b0, hb0⟩ : ∃ x, x = (catB L)[kk]'HKL.out := ⟨_, rfl⟩
                    have yk : w5.cell? ⟨gA, kk, none⟩ = some (.int .u8 (b0.toNat : Int)) := by have := HI5.out.own.cell kk HKL.out; rw [← hb0] at this; exact this
                    have hfr : w5.frozen? ⟨gA, kk, none⟩ = false := HI5.out.own.free kk
                    have hx8 := xor8 b0 by_
                    obtain ⟨d, hd⟩ : ∃ x, x = b0 ^^^ by_ := ⟨_, rfl⟩
                    rw [← hd] at hx8
                    have HSO := Lib.hid (HI5.out.own.set kk d)
                    have hgA : Hid (w.heap.size ≤ gA) := (World.ownsRow.lt HI5.out.own gA rfl).1
                    have HBS : Hid (Below w.heap.size w (w5.setCell ⟨gA, kk, none⟩ (bv d))) := HB5.out.setCell hgA.out _
                    have hdn : b0 ≠ d := by rw [hd]; exact xor_ne hby
                    have hrep := turned_at (k := kk) (d := d) HI5.out.seqd HWL.out (by have := HFR.out; omega) HEK.out HKL.out (by rw [← hb0]; exact hdn) (by rw [← HFR.out]; exact hbd.out)
                    have hsl : ((catB L).set kk d).length = m := by rw [List.length_set, ← HML.out.1]
                    have HRP2 := Lib.hid (replay_any ((catB L).set kk d) (some ⟨gA, 0, none⟩) m ca _ hsl.symm (by obtain ⟨A', cA, he, rd', _⟩ := HSO.out.rdc; injection he with he1 _ _; rw [he1]; exact rd') (by rw [hsl]; omega) (by rw [hsl]; exact hca) (HT.out.below HBS.out H0.out) (Nat.lt_of_lt_of_le H0.out HBS.out.size))
                    replace HRP2 := HRP2.out
                    rw [hrep, ← HFR.out] at HRP2
                    simp only [HLW.out] at HRP2
                    replace HRP2 := Lib.hid HRP2
                    clear hrep hb0 hd hsl hdn
                    go_wp2_with fail
                    refine HRP2.out.mono ?_
                    rintro e w7 ⟨⟨A7, c7, rfl⟩, h7⟩
                    have HB7 : Hid (Below w.heap.size w w7) := HBS.out.trans (h7.mono HBS.out.size)
                    clear HRP2 h7 yk hfr
                    go_wp2
                    go_ret
                    exact ⟨rfl, HB7.out⟩
                  · have hx' : ¬ (xb.toNat : Int) < 128 := by omega
                    have hdx : decide ((xb.toNat : Int) < 128) = false := by rw [decide_eq_false_iff_not]; omega
                    go_wp2
                    all_goals (go_ret; exact ⟨rfl, HB5.out⟩)
                · have hA' : ¬ (6 : Int) ≤ (kk : Int) := by omega
                  have hd6 : decide ((6 : Int) ≤ (kk : Int)) = false := by rw [decide_eq_false_iff_not]; omega
                  have hB' : ¬ (3 : Int) ≤ (kk : Int) := by omega
                  have hd3 : decide ((3 : Int) ≤ (kk : Int)) = false := by rw [decide_eq_false_iff_not]; omega
                  go_wp2
                  all_goals (go_ret; exact ⟨rfl, HB5.out⟩)
              · obtain ⟨wp, rfl⟩ : ∃ y, wh = y + 1 := ⟨wh - 1, by omega⟩
                obtain ⟨q2, hq2, y2⟩ := HI2.out.ends.at (k := wp) (by rw [endsOf_len]; have := HWL.out; omega)
                rw [endsOf_at, ← HFR.out] at y2
                injection hq2 with hq2
                injection hq2 with hq2
                subst hq2
                have hidx : ((wp + 1 : Nat) : Int) - 1 = (wp : Int) := by omega
                have hw0' : (0 : Int) < ((wp + 1 : Nat) : Int) := by omega
                go_wp2_with fail
                clear y2 hidx
                refine HRP.out.mono ?_
                rintro e w5 ⟨⟨A5, c5, rfl⟩, h5⟩
                have HI5 := Lib.hid (HI2.out.keep h5)
                have HB5 : Hid (Below w.heap.size w w5) := HBB.out.trans (h5.mono HBB.out.size)
                have hkL : kk < (catB L).length := by rw [← HML.out.1]; exact hkm
                have HKL := Lib.hid hkL
                have HEK : Hid (kk < (catB (L.take ((wp + 1) + 1))).length) := by show _ < _; rw [← HEW.out]; omega
                clear HRP h5 y1 hcut0 hkL
                by_cases hA : fr + 6 ≤ kk
                · have hA' : (6 : Int) ≤ (kk : Int) - (fr : Int) := by omega
                  have hd6 : decide ((6 : Int) ≤ (kk : Int) - (fr : Int)) = true := by rw [decide_eq_true_iff]; omega
                  have hbd : Hid (fr + 6 ≤ kk ∨ (fr + 3 ≤ kk ∧ ∀ h : fr + 1 < (catB L).length, ((catB L)[fr + 1]).toNat < 128)) := .inl hA
                  by_cases hby : by_.toNat = 0
                  · have hby' : (by_.toNat : Int) = 0 := by omega
                    have hbz : ((by_.toNat : Int) == 0) = true := by rw [beq_iff_eq]; omega
                    go_wp2
                    go_ret
                    exact ⟨rfl, HB5.out⟩
                  have hby' : ¬ (by_.toNat : Int) = 0 := by omega
                  have hbz : ((by_.toNat : Int) == 0) = false := by rw [beq_eq_false_iff_ne]; omega
                  obtain ⟨b0, hb0⟩ : ∃ x, x = (catB L)[kk]'HKL.out := ⟨_, rfl⟩
                  have yk : w5.cell? ⟨gA, kk, none⟩ = some (.int .u8 (b0.toNat : Int)) := by have := HI5.out.own.cell kk HKL.out; rw [← hb0] at this; exact this
                  have hfr : w5.frozen? ⟨gA, kk, none⟩ = false := HI5.out.own.free kk
                  have hx8 := xor8 b0 by_
                  obtain ⟨d, hd⟩ : ∃ x, x = b0 ^^^ by_ := ⟨_, rfl⟩
                  rw [← hd] at hx8
                  have HSO := Lib.hid (HI5.out.own.set kk d)
                  have hgA : Hid (w.heap.size ≤ gA) := (World.ownsRow.lt HI5.out.own gA rfl).1
                  have HBS : Hid (Below w.heap.size w (w5.setCell ⟨gA, kk, none⟩ (bv d))) := HB5.out.setCell hgA.out _
                  have hdn : b0 ≠ d := by rw [hd]; exact xor_ne hby
                  have hrep := turned_at (k := kk) (d := d) HI5.out.seqd HWL.out (by have := HFR.out; omega) HEK.out HKL.out (by rw [← hb0]; exact hdn) (by rw [← HFR.out]; exact hbd.out)
                  have hsl : ((catB L).set kk d).length = m := by rw [List.length_set, ← HML.out.1]
                  have HRP2 := Lib.hid (replay_any ((catB L).set kk d) (some ⟨gA, 0, none⟩) m ca _ hsl.symm (by obtain ⟨A', cA, he, rd', _⟩ := HSO.out.rdc; injection he with he1 _ _; rw [he1]; exact rd') (by rw [hsl]; omega) (by rw [hsl]; exact hca) (HT.out.below HBS.out H0.out) (Nat.lt_of_lt_of_le H0.out HBS.out.size))
                  replace HRP2 := HRP2.out
                  rw [hrep, ← HFR.out] at HRP2
                  simp only [HLW.out] at HRP2
                  replace HRP2 := Lib.hid HRP2
                  clear hrep hb0 hd hsl hdn
                  go_wp2_with fail
                  refine HRP2.out.mono ?_
                  rintro e w7 ⟨⟨A7, c7, rfl⟩, h7⟩
                  have HB7 : Hid (Below w.heap.size w w7) := HBS.out.trans (h7.mono HBS.out.size)
                  clear HRP2 h7 yk hfr
                  go_wp2
                  go_ret
                  exact ⟨rfl, HB7.out⟩
                by_cases hB : fr + 3 ≤ kk
                · have hA' : ¬ (6 : Int) ≤ (kk : Int) - (fr : Int) := by omega
                  have hd6 : decide ((6 : Int) ≤ (kk : Int) - (fr : Int)) = false := by rw [decide_eq_false_iff_not]; omega
                  have hB' : (3 : Int) ≤ (kk : Int) - (fr : Int) := by omega
                  have hd3 : decide ((3 : Int) ≤ (kk : Int) - (fr : Int)) = true := by rw [decide_eq_true_iff]; omega
                  have h1L : fr + 1 < (catB L).length := by rw [← HML.out.1]; omega
                  obtain ⟨xb, hxb⟩ : ∃ x, x = (catB L)[fr + 1] := ⟨_, rfl⟩
                  have yb : w5.cell? ⟨gA, (fr + 1), none⟩ = some (.int .u8 (xb.toNat : Int)) := by have := HI5.out.own.cell (fr + 1) h1L; rw [← hxb] at this; exact this
                  have hxx : Hid (∀ h : fr + 1 < (catB L).length, (catB L)[fr + 1] = xb) := fun _ => hxb.symm
                  have h1m : (fr + 1) < m := by omega
                  have h1m' : (((fr + 1 : Nat) : Int) : Int) < (m : Int) := by omega
                  clear hxb h1L
                  by_cases hx : xb.toNat < 128
                  · have hx' : (xb.toNat : Int) < 128 := by omega
                    have hdx : decide ((xb.toNat : Int) < 128) = true := by rw [decide_eq_true_iff]; omega
                    have hbd : Hid (fr + 6 ≤ kk ∨ (fr + 3 ≤ kk ∧ ∀ h : fr + 1 < (catB L).length, ((catB L)[fr + 1]).toNat < 128)) := .inr ⟨hB, fun h => by rw [hxx.out h]; exact hx⟩
                    by_cases hby : by_.toNat = 0
                    · have hby' : (by_.toNat : Int) = 0 := by omega
                      have hbz : ((by_.toNat : Int) == 0) = true := by rw [beq_iff_eq]; omega
                      go_wp2
                      go_ret
                      exact ⟨rfl, HB5.out⟩
                    have hby' : ¬ (by_.toNat : Int) = 0 := by omega
                    have hbz : ((by_.toNat : Int) == 0) = false := by rw [beq_eq_false_iff_ne]; omega
                    obtain ⟨b0, hb0⟩ : ∃ x, x = (catB L)[kk]'HKL.out := ⟨_, rfl⟩
                    have yk : w5.cell? ⟨gA, kk, none⟩ = some (.int .u8 (b0.toNat : Int)) := by have := HI5.out.own.cell kk HKL.out; rw [← hb0] at this; exact this
                    have hfr : w5.frozen? ⟨gA, kk, none⟩ = false := HI5.out.own.free kk
                    have hx8 := xor8 b0 by_
                    obtain ⟨d, hd⟩ : ∃ x, x = b0 ^^^ by_ := ⟨_, rfl⟩
                    rw [← hd] at hx8
                    have HSO := Lib.hid (HI5.out.own.set kk d)
                    have hgA : Hid (w.heap.size ≤ gA) := (World.ownsRow.lt HI5.out.own gA rfl).1
                    have HBS : Hid (Below w.heap.size w (w5.setCell ⟨gA, kk, none⟩ (bv d))) := HB5.out.setCell hgA.out _
                    have hdn : b0 ≠ d := by rw [hd]; exact xor_ne hby
                    have hrep := turned_at (k := kk) (d := d) HI5.out.seqd HWL.out (by have := HFR.out; omega) HEK.out HKL.out (by rw [← hb0]; exact hdn) (by rw [← HFR.out]; exact hbd.out)
                    have hsl : ((catB L).set kk d).length = m := by rw [List.length_set, ← HML.out.1]
                    have HRP2 := Lib.hid (replay_any ((catB L).set kk d) (some ⟨gA, 0, none⟩) m ca _ hsl.symm (by obtain ⟨A', cA, he, rd', _⟩ := HSO.out.rdc; injection he with he1 _ _; rw [he1]; exact rd') (by rw [hsl]; omega) (by rw [hsl]; exact hca) (HT.out.below HBS.out H0.out) (Nat.lt_of_lt_of_le H0.out HBS.out.size))
                    replace HRP2 := HRP2.out
                    rw [hrep, ← HFR.out] at HRP2
                    simp only [HLW.out] at HRP2
                    replace HRP2 := Lib.hid HRP2
                    clear hrep hb0 hd hsl hdn
                    go_wp2_with fail
                    refine HRP2.out.mono ?_
                    rintro e w7 ⟨⟨A7, c7, rfl⟩, h7⟩
                    have HB7 : Hid (Below w.heap.size w w7) := HBS.out.trans (h7.mono HBS.out.size)
                    clear HRP2 h7 yk hfr
                    go_wp2
                    go_ret
                    exact ⟨rfl, HB7.out⟩
                  · have hx' : ¬ (xb.toNat : Int) < 128 := by omega
                    have hdx : decide ((xb.toNat : Int) < 128) = false := by rw [decide_eq_false_iff_not]; omega
                    go_wp2
                    all_goals (go_ret; exact ⟨rfl, HB5.out⟩)
                · have hA' : ¬ (6 : Int) ≤ (kk : Int) - (fr : Int) := by omega
                  have hd6 : decide ((6 : Int) ≤ (kk : Int) - (fr : Int)) = false := by rw [decide_eq_false_iff_not]; omega
                  have hB' : ¬ (3 : Int) ≤ (kk : Int) - (fr : Int) := by omega
                  have hd3 : decide ((3 : Int) ≤ (kk : Int) - (fr : Int)) = false := by rw [decide_eq_false_iff_not]; omega
                  go_wp2
                  all_goals (go_ret; exact ⟨rfl, HB5.out⟩)
          · exfalso
            have hwk2 : wh = L.length := by have := HML.out.2; omega
            have h1 := hfk'.out
            rw [hwk2, List.take_length, ← HML.out.1] at h1
            omega
    · have hlt' : ¬ (i : Int) < (n : Int) := by omega
      obtain ⟨L, hI, hm, hk, hq⟩ := HI.out
      have HI2 := Lib.hid hI
      have HML := Lib.hid (And.intro hm hk)
      have HBB := Lib.hid hb
      have hm4 : m ≤ 2400000 := by
        have h1 := hI.len
        have h2 := sum_take_le Ls i
        have h4 := HD.out
        omega
      clear HI hI hm hk hq hb HB1
      by_cases hm0 : m = 0
      · subst hm0
        go_wp2
        go_ret
        exact ⟨rfl, HBB.out⟩
      have hm0' : ¬ (m : Int) = 0 := by omega
      by_cases hcut : cut < 0
      · go_wp2
        go_ret
        exact ⟨rfl, HBB.out⟩
      obtain ⟨cu, rfl⟩ : ∃ cu : Nat, cut = cu := ⟨cut.toNat, by omega⟩
      have hrem : ((cu : Int).tmod (m : Int)) = ((cu % m : Nat) : Int) := by rw [Int.ofNat_tmod]
      have hkm : cu % m < m := Nat.mod_lt _ (by omega)
      obtain ⟨kk, hkk⟩ : ∃ x, x = cu % m := ⟨_, rfl⟩
      rw [← hkk] at hkm hrem
      clear hkk
      go_wp2_with fail
      go_loopw [15] (fun s15 wr' => ∃ wh : Nat, s15 = .int .i64 wh ∧ wh ≤ k ∧ wr' = wr ∧ Hid ((catB (L.take wh)).length ≤ kk)) (fun s15 _ => k - (intOf s15).toNat)
      case atStart => exact ⟨0, rfl, by omega, rfl, by show _ ≤ _; simp [catB]⟩
      case round =>
        obtain ⟨wh, rfl, hwk, rfl, hfk'⟩ := hrel
        by_cases hw : wh < k
        · have hwl : wh < L.length := by have := HML.out.2; omega
          obtain ⟨q, hq, y1⟩ := HI2.out.ends.at (k := wh) (by rw [endsOf_len]; exact hwl)
          rw [endsOf_at] at y1
          obtain ⟨ew, hew⟩ : ∃ x, x = (catB (L.take (wh + 1))).length := ⟨_, rfl⟩
          rw [← hew] at y1
          have HEW := Lib.hid hew
          subst hq
          have hw' : (wh : Int) < (k : Int) := by omega
          clear hew
          by_cases hle : ew ≤ kk
          · have hle' : (ew : Int) ≤ (kk : Int) := by omega
            have hnext : Hid ((catB (L.take (wh + 1))).length ≤ kk) := by show _ ≤ _; rw [← HEW.out]; exact hle
            clear hwl
            go_wp2
            go_roundw
            case rel => exact ⟨wh + 1, by go_num, by omega, trivial, hnext⟩
            case measure => simp [intOf]; omega
          · have hle' : ¬ (ew : Int) ≤ (kk : Int) := by omega
            obtain ⟨fr, hfr⟩ : ∃ x, x = (catB (L.take wh)).length := ⟨_, rfl⟩
            have HFR := Lib.hid hfr
            have hfk : fr ≤ kk := by rw [hfr]; exact hfk'.out
            have HWL := Lib.hid hwl
            have HLW : Hid ((L.take wh).length = wh) := by show _ = _; rw [List.length_take]; omega
            obtain ⟨er, her⟩ := torn_at HI2.out.seqd hwl hfk'.out (by rw [← HEW.out]; omega)
            obtain ⟨gA, hgA⟩ : ∃ gA, Aa = some ⟨gA, 0, none⟩ := by
              obtain ⟨gA, c', he, _⟩ := HI2.out.own.shape (by rw [← HML.out.1]; exact hm0)
              injection he with he1 _ _
              exact ⟨gA, he1⟩
            subst hgA
            obtain ⟨rdA, hca⟩ : Rd wr wr.heap.size (some ⟨gA, 0, none⟩) (catB L) ∧ m ≤ ca := by
              obtain ⟨A', cA, he, rdA, hcA⟩ := HI2.out.own.rdc
              injection he with he1 _ he3
              rw [he1, he3, HML.out.1]
              exact ⟨rdA, hcA⟩
            have HRDA := Lib.hid rdA
            have HRP := Lib.hid (replay_any ((catB L).take kk) (some ⟨gA, 0, none⟩) kk ca wr (by rw [List.length_take, ← HML.out.1]; omega) (rd_take rdA kk) (by rw [List.length_take, ← HML.out.1]; omega) (by rw [List.length_take, ← HML.out.1]; omega) (HT.out.below HBB.out H0.out) (Nat.lt_of_lt_of_le H0.out HBB.out.size))
            replace HRP := HRP.out
            rw [her] at HRP
            rw [← hfr] at HRP
            simp only [HLW.out] at HRP
            replace HRP := Lib.hid HRP
            have hcut0 := cut0_run (A := some ⟨gA, 0, none⟩) (n := m) (c := ca) (e := kk) (by omega)
            clear her hfr rdA hwl hfk'
            by_cases hw0 : wh = 0
            · have hw0' : ¬ (0 : Int) < ((0 : Nat) : Int) := by omega
              have hfr0 : fr = 0 := by rw [HFR.out, hw0]; simp [catB]
              subst hfr0
              subst hw0
              go_wp2_with fail
              refine HRP.out.mono ?_
              rintro e w5 ⟨⟨A5, c5, rfl⟩, h5⟩
              have HI5 := Lib.hid (HI2.out.keep h5)
              have HB5 : Hid (Below w.heap.size w w5) := HBB.out.trans (h5.mono HBB.out.size)
              have hkL : kk < (catB L).length := by rw [← HML.out.1]; exact hkm
              have HKL := Lib.hid hkL
              have HEK : Hid (kk < (catB (L.take (0 + 1))).length) := by show _ < _; rw [← HEW.out]; omega
              clear HRP h5 y1 hcut0 hkL
              by_cases hA : 0 + 6 ≤ kk
              · have hA' : (6 : Int) ≤ (kk : Int) := by omega
                have hd6 : decide ((6 : Int) ≤ (kk : Int)) = true := by rw [decide_eq_true_iff]; omega
                have hbd : Hid (0 + 6 ≤ kk ∨ (0 + 3 ≤ kk ∧ ∀ h : 0 + 1 < (catB L).length, ((catB L)[0 + 1]).toNat < 128)) := .inl hA
                by_cases hby : by_.toNat = 0
                · have hby' : (by_.toNat : Int) = 0 := by omega
                  have hbz : ((by_.toNat : Int) == 0) = true := by rw [beq_iff_eq]; omega
                  go_wp2
                  go_ret
                  exact ⟨rfl, HB5.out⟩
                have hby' : ¬ (by_.toNat : Int) = 0 := by omega
                have hbz : ((by_.toNat : Int) == 0) = false := by rw [beq_eq_false_iff_ne]; omega
                obtain ⟨b0, hb0⟩ : ∃ x, x = (catB L)[kk]'HKL.out := ⟨_, rfl⟩
                have yk : w5.cell? ⟨gA, kk, none⟩ = some (.int .u8 (b0.toNat : Int)) := by have := HI5.out.own.cell kk HKL.out; rw [← hb0] at this; exact this
                have hfr : w5.frozen? ⟨gA, kk, none⟩ = false := HI5.out.own.free kk
                have hx8 := xor8 b0 by_
                obtain ⟨d, hd⟩ : ∃ x, x = b0 ^^^ by_ := ⟨_, rfl⟩
                rw [← hd] at hx8
                have HSO := Lib.hid (HI5.out.own.set kk d)
                have hgA : Hid (w.heap.size ≤ gA) := (World.ownsRow.lt HI5.out.own gA rfl).1
                have HBS : Hid (Below w.heap.size w (w5.setCell ⟨gA, kk, none⟩ (bv d))) := HB5.out.setCell hgA.out _
                have hdn : b0 ≠ d := by rw [hd]; exact xor_ne hby
                have hrep := turned_at (k := kk) (d := d) HI5.out.seqd HWL.out (by have := HFR.out; omega) HEK.out HKL.out (by rw [← hb0]; exact hdn) (by rw [← HFR.out]; exact hbd.out)
                have hsl : ((catB L).set kk d).length = m := by rw [List.length_set, ← HML.out.1]
                have HRP2 := Lib.hid (replay_any ((catB L).set kk d) (some ⟨gA, 0, none⟩) m ca _ hsl.symm (by obtain ⟨A', cA, he, rd', _⟩ := HSO.out.rdc; injection he with he1 _ _; rw [he1]; exact rd') (by rw [hsl]; omega) (by rw [hsl]; exact hca) (HT.out.below HBS.out H0.out) (Nat.lt_of_lt_of_le H0.out HBS.out.size))
                replace HRP2 := HRP2.out
                rw [hrep, ← HFR.out] at HRP2
                simp only [HLW.out] at HRP2
                replace HRP2 := Lib.hid HRP2
                clear hrep hb0 hd hsl hdn
                go_wp2_with fail
                refine HRP2.out.mono ?_
                rintro e w7 ⟨⟨A7, c7, rfl⟩, h7⟩
                have HB7 : Hid (Below w.heap.size w w7) := HBS.out.trans (h7.mono HBS.out.size)
                clear HRP2 h7 yk hfr
                go_wp2
                go_ret
                exact ⟨rfl, HB7.out⟩
              by_cases hB : 0 + 3 ≤ kk
              · have hA' : ¬ (6 : Int) ≤ (kk : Int) := by omega
                have hd6 : decide ((6 : Int) ≤ (kk : Int)) = false := by rw [decide_eq_false_iff_not]; omega
                have hB' : (3 : Int) ≤ (kk : Int) := by omega
                have hd3 : decide ((3 : Int) ≤ (kk : Int)) = true := by rw [decide_eq_true_iff]; omega
                have h1L : 0 + 1 < (catB L).length := by rw [← HML.out.1]; omega
                obtain ⟨xb, hxb⟩ : ∃ x, x = (catB L)[0 + 1] := ⟨_, rfl⟩
                have yb : w5.cell? ⟨gA, 1, none⟩ = some (.int .u8 (xb.toNat : Int)) := by have := HI5.out.own.cell (0 + 1) h1L; rw [← hxb] at this; exact this
                have hxx : Hid (∀ h : 0 + 1 < (catB L).length, (catB L)[0 + 1] = xb) := fun _ => hxb.symm
                have h1m : 1 < m := by omega
                have h1m' : (1 : Int) < (m : Int) := by omega
                clear hxb h1L
                by_cases hx : xb.toNat < 128
                · have hx' : (xb.toNat : Int) < 128 := by omega
                  have hdx : decide ((xb.toNat : Int) < 128) = true := by rw [decide_eq_true_iff]; omega
                  have hbd : Hid (0 + 6 ≤ kk ∨ (0 + 3 ≤ kk ∧ ∀ h : 0 + 1 < (catB L).length, ((catB L)[0 + 1]).toNat < 128)) := .inr ⟨hB, fun h => by rw [hxx.out h]; exact hx⟩
                  by_cases hby : by_.toNat = 0
                  · have hby' : (by_.toNat : Int) = 0 := by omega
                    have hbz : ((by_.toNat : Int) == 0) = true := by rw [beq_iff_eq]; omega
                    go_wp2
                    go_ret
                    exact ⟨rfl, HB5.out⟩
                  have hby' : ¬ (by_.toNat : Int) = 0 := by omega
                  have hbz : ((by_.toNat : Int) == 0) = false := by rw [beq_eq_false_iff_ne]; omega
                  obtain ⟨b0, hb0⟩ : ∃ x, x = (catB L)[kk]'HKL.out := ⟨_, rfl⟩
                  have yk : w5.cell? ⟨gA, kk, none⟩ = some (.int .u8 (b0.toNat : Int)) := by have := HI5.out.own.cell kk HKL.out; rw [← hb0] at this; exact this
                  have hfr : w5.frozen? ⟨gA, kk, none⟩ = false := HI5.out.own.free kk
                  have hx8 := xor8 b0 by_
                  obtain ⟨d, hd⟩ : ∃ x, x = b0 ^^^ by_ := ⟨_, rfl⟩
                  rw [← hd] at hx8
                  have HSO := Lib.hid (HI5.out.own.set kk d)
                  have hgA : Hid (w.heap.size ≤ gA) := (World.ownsRow.lt HI5.out.own gA rfl).1
                  have HBS : Hid (Below w.heap.size w (w5.setCell ⟨gA, kk, none⟩ (bv d))) := HB5.out.setCell hgA.out _
                  have hdn : b0 ≠ d := by rw [hd]; exact xor_ne hby
                  have hrep := turned_at (k := kk) (d := d) HI5.out.seqd HWL.out (by have := HFR.out; omega) HEK.out HKL.out (by rw [← hb0]; exact hdn) (by rw [← HFR.out]; exact hbd.out)
                  have hsl : ((catB L).set kk d).length = m := by rw [List.length_set, ← HML.out.1]
                  have HRP2 := Lib.hid (replay_any ((catB L).set kk d) (some ⟨gA, 0, none⟩) m ca _ hsl.symm (by obtain ⟨A', cA, he, rd', _⟩ := HSO.out.rdc; injection he with he1 _ _; rw [he1]; exact rd') (by rw [hsl]; omega) (by rw [hsl]; exact hca) (HT.out.below HBS.out H0.out) (Nat.lt_of_lt_of_le H0.out HBS.out.size))
                  replace HRP2 := HRP2.out
                  rw [hrep, ← HFR.out] at HRP2
                  simp only [HLW.out] at HRP2
                  replace HRP2 := Lib.hid HRP2
                  clear hrep hb0 hd hsl hdn
                  go_wp2_with fail
                  refine HRP2.out.mono ?_
                  rintro e w7 ⟨⟨A7, c7, rfl⟩, h7⟩
                  have HB7 : Hid (Below w.heap.size w w7) := HBS.out.trans (h7.mono HBS.out.size)
                  clear HRP2 h7 yk hfr
                  go_wp2
                  go_ret
                  exact ⟨rfl, HB7.out⟩
                · have hx' : ¬ (xb.toNat : Int) < 128 := by omega
                  have hdx : decide ((xb.toNat : Int) < 128) = false := by rw [decide_eq_false_iff_not]; omega
                  go_wp2
                  all_goals (go_ret; exact ⟨rfl, HB5.out⟩)
              · have hA' : ¬ (6 : Int) ≤ (kk : Int) := by omega
                have hd6 : decide ((6 : Int) ≤ (kk : Int)) = false := by rw [decide_eq_false_iff_not]; omega
                have hB' : ¬ (3 : Int) ≤ (kk : Int) := by omega
                have hd3 : decide ((3 : Int) ≤ (kk : Int)) = false := by rw [decide_eq_false_iff_not]; omega
                go_wp2
                all_goals (go_ret; exact ⟨rfl, HB5.out⟩)
            · obtain ⟨wp, rfl⟩ : ∃ y, wh = y + 1 := ⟨wh - 1, by omega⟩
              obtain ⟨q2, hq2, y2⟩ := HI2.out.ends.at (k := wp) (by rw [endsOf_len]; have := HWL.out; omega)
              rw [endsOf_at, ← HFR.out] at y2
              injection hq2 with hq2
              injection hq2 with hq2
              subst hq2
              have hidx : ((wp + 1 : Nat) : Int) - 1 = (wp : Int) := by omega
              have hw0' : (0 : Int) < ((wp + 1 : Nat) : Int) := by omega
              go_wp2_with fail
              clear y2 hidx
              refine HRP.out.mono ?_
              rintro e w5 ⟨⟨A5, c5, rfl⟩, h5⟩
              have HI5 := Lib.hid (HI2.out.keep h5)
              have HB5 : Hid (Below w.heap.size w w5) := HBB.out.trans (h5.mono HBB.out.size)
              have hkL : kk < (catB L).length := by rw [← HML.out.1]; exact hkm
              have HKL := Lib.hid hkL
              have HEK : Hid (kk < (catB (L.take ((wp + 1) + 1))).length) := by show _ < _; rw [← HEW.out]; omega
              clear HRP h5 y1 hcut0 hkL
              by_cases hA : fr + 6 ≤ kk
              · have hA' : (6 : Int) ≤ (kk : Int) - (fr : Int) := by omega
                have hd6 : decide ((6 : Int) ≤ (kk : Int) - (fr : Int)) = true := by rw [decide_eq_true_iff]; omega
                have hbd : Hid (fr + 6 ≤ kk ∨ (fr + 3 ≤ kk ∧ ∀ h : fr + 1 < (catB L).length, ((catB L)[fr + 1]).toNat < 128)) := .inl hA
                by_cases hby : by_.toNat = 0
                · have hby' : (by_.toNat : Int) = 0 := by omega
                  have hbz : ((by_.toNat : Int) == 0) = true := by rw [beq_iff_eq]; omega
                  go_wp2
                  go_ret
                  exact ⟨rfl, HB5.out⟩
                have hby' : ¬ (by_.toNat : Int) = 0 := by omega
                have hbz : ((by_.toNat : Int) == 0) = false := by rw [beq_eq_false_iff_ne]; omega
                obtain ⟨b0, hb0⟩ : ∃ x, x = (catB L)[kk]'HKL.out := ⟨_, rfl⟩
                have yk : w5.cell? ⟨gA, kk, none⟩ = some (.int .u8 (b0.toNat : Int)) := by have := HI5.out.own.cell kk HKL.out; rw [← hb0] at this; exact this
                have hfr : w5.frozen? ⟨gA, kk, none⟩ = false := HI5.out.own.free kk
                have hx8 := xor8 b0 by_
                obtain ⟨d, hd⟩ : ∃ x, x = b0 ^^^ by_ := ⟨_, rfl⟩
                rw [← hd] at hx8
                have HSO := Lib.hid (HI5.out.own.set kk d)
                have hgA : Hid (w.heap.size ≤ gA) := (World.ownsRow.lt HI5.out.own gA rfl).1
                have HBS : Hid (Below w.heap.size w (w5.setCell ⟨gA, kk, none⟩ (bv d))) := HB5.out.setCell hgA.out _
                have hdn : b0 ≠ d := by rw [hd]; exact xor_ne hby
                have hrep := turned_at (k := kk) (d := d) HI5.out.seqd HWL.out (by have := HFR.out; omega) HEK.out HKL.out (by rw [← hb0]; exact hdn) (by rw [← HFR.out]; exact hbd.out)
                have hsl : ((catB L).set kk d).length = m := by rw [List.length_set, ← HML.out.1]
                have HRP2 := Lib.hid (replay_any ((catB L).set kk d) (some ⟨gA, 0, none⟩) m ca _ hsl.symm (by obtain ⟨A', cA, he, rd', _⟩ := HSO.out.rdc; injection he with he1 _ _; rw [he1]; exact rd') (by rw [hsl]; omega) (by rw [hsl]; exact hca) (HT.out.below HBS.out H0.out) (Nat.lt_of_lt_of_le H0.out HBS.out.size))
                replace HRP2 := HRP2.out
                rw [hrep, ← HFR.out] at HRP2
                simp only [HLW.out] at HRP2
                replace HRP2 := Lib.hid HRP2
                clear hrep hb0 hd hsl hdn
                go_wp2_with fail
                refine HRP2.out.mono ?_
                rintro e w7 ⟨⟨A7, c7, rfl⟩, h7⟩
                have HB7 : Hid (Below w.heap.size w w7) := HBS.out.trans (h7.mono HBS.out.size)
                clear HRP2 h7 yk hfr
                go_wp2
                go_ret
                exact ⟨rfl, HB7.out⟩
              by_cases hB : fr + 3 ≤ kk
              · have hA' : ¬ (6 : Int) ≤ (kk : Int) - (fr : Int) := by omega
                have hd6 : decide ((6 : Int) ≤ (kk : Int) - (fr : Int)) = false := by rw [decide_eq_false_iff_not]; omega
                have hB' : (3 : Int) ≤ (kk : Int) - (fr : Int) := by omega
                have hd3 : decide ((3 : Int) ≤ (kk : Int) - (fr : Int)) = true := by rw [decide_eq_true_iff]; omega
                have h1L : fr + 1 < (catB L).length := by rw [← HML.out.1]; omega
                obtain ⟨xb, hxb⟩ : ∃ x, x = (catB L)[fr + 1] := ⟨_, rfl⟩
                have yb : w5.cell? ⟨gA, (fr + 1), none⟩ = some (.int .u8 (xb.toNat : Int)) := by have := HI5.out.own.cell (fr + 1) h1L; rw [← hxb] at this; exact this
                have hxx : Hid (∀ h : fr + 1 < (catB L).length, (catB L)[fr + 1] = xb) := fun _ => hxb.symm
                have h1m : (fr + 1) < m := by omega
                have h1m' : (((fr + 1 : Nat) : Int) : Int) < (m : Int) := by omega
                clear hxb h1L
                by_cases hx : xb.toNat < 128
                · have hx' : (xb.toNat : Int) < 128 := by omega
                  have hdx : decide ((xb.toNat : Int) < 128) = true := by rw [decide_eq_true_iff]; omega
                  have hbd : Hid (fr + 6 ≤ kk ∨ (fr + 3 ≤ kk ∧ ∀ h : fr + 1 < (catB L).length, ((catB L)[fr + 1]).toNat < 128)) := .inr ⟨hB, fun h => by rw [hxx.out h]; exact hx⟩
                  by_cases hby : by_.toNat = 0
                  · have hby' : (by_.toNat : Int) = 0 := by omega
                    have hbz : ((by_.toNat : Int) == 0) = true := by rw [beq_iff_eq]; omega
                    go_wp2
                    go_ret
                    exact ⟨rfl, HB5.out⟩
                  have hby' : ¬ (by_.toNat : Int) = 0 := by omega
                  have hbz : ((by_.toNat : Int) == 0) = false := by rw [beq_eq_false_iff_ne]; omega
                  obtain ⟨b0, hb0⟩ : ∃ x, x = (catB L)[kk]'HKL.out := ⟨_, rfl⟩
                  have yk : w5.cell? ⟨gA, kk, none⟩ = some (.int .u8 (b0.toNat : Int)) := by have := HI5.out.own.cell kk HKL.out; rw [← hb0] at this; exact this
                  have hfr : w5.frozen? ⟨gA, kk, none⟩ = false := HI5.out.own.free kk
                  have hx8 := xor8 b0 by_
                  obtain ⟨d, hd⟩ : ∃ x, x = b0 ^^^ by_ := ⟨_, rfl⟩
                  rw [← hd] at hx8
                  have HSO := Lib.hid (HI5.out.own.set kk d)
                  have hgA : Hid (w.heap.size ≤ gA) := (World.ownsRow.lt HI5.out.own gA rfl).1
                  have HBS : Hid (Below w.heap.size w (w5.setCell ⟨gA, kk, none⟩ (bv d))) := HB5.out.setCell hgA.out _
                  have hdn : b0 ≠ d := by rw [hd]; exact xor_ne hby
                  have hrep := turned_at (k := kk) (d := d) HI5.out.seqd HWL.out (by have := HFR.out; omega) HEK.out HKL.out (by rw [← hb0]; exact hdn) (by rw [← HFR.out]; exact hbd.out)
                  have hsl : ((catB L).set kk d).length = m := by rw [List.length_set, ← HML.out.1]
                  have HRP2 := Lib.hid (replay_any ((catB L).set kk d) (some ⟨gA, 0, none⟩) m ca _ hsl.symm (by obtain ⟨A', cA, he, rd', _⟩ := HSO.out.rdc; injection he with he1 _ _; rw [he1]; exact rd') (by rw [hsl]; omega) (by rw [hsl]; exact hca) (HT.out.below HBS.out H0.out) (Nat.lt_of_lt_of_le H0.out HBS.out.size))
                  replace HRP2 := HRP2.out
                  rw [hrep, ← HFR.out] at HRP2
                  simp only [HLW.out] at HRP2
                  replace HRP2 := Lib.hid HRP2
                  clear hrep hb0 hd hsl hdn
                  go_wp2_with fail
                  refine HRP2.out.mono ?_
                  rintro e w7 ⟨⟨A7, c7, rfl⟩, h7⟩
                  have HB7 : Hid (Below w.heap.size w w7) := HBS.out.trans (h7.mono HBS.out.size)
                  clear HRP2 h7 yk hfr
                  go_wp2
                  go_ret
                  exact ⟨rfl, HB7.out⟩
                · have hx' : ¬ (xb.toNat : Int) < 128 := by omega
                  have hdx : decide ((xb.toNat : Int) < 128) = false := by rw [decide_eq_false_iff_not]; omega
                  go_wp2
                  all_goals (go_ret; exact ⟨rfl, HB5.out⟩)
              · have hA' : ¬ (6 : Int) ≤ (kk : Int) - (fr : Int) := by omega
                have hd6 : decide ((6 : Int) ≤ (kk : Int) - (fr : Int)) = false := by rw [decide_eq_false_iff_not]; omega
                have hB' : ¬ (3 : Int) ≤ (kk : Int) - (fr : Int) := by omega
                have hd3 : decide ((3 : Int) ≤ (kk : Int) - (fr : Int)) = false := by rw [decide_eq_false_iff_not]; omega
                go_wp2
                all_goals (go_ret; exact ⟨rfl, HB5.out⟩)
        · exfalso
          have hwk2 : wh = L.length := by have := HML.out.2; omega
          have h1 := hfk'.out
          rw [hwk2, List.take_length, ← HML.out.1] at h1
          omega
end Go.Proofs.YtfnifpgaieggbaaDoor
