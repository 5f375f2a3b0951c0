/-
  The law RangemetaHolds.
-/
import Derived.Test.YtninjoepdchmiaaAwakeR
import Derived.StillTailTactics
set_option linter.unusedVariables false
namespace Go.Proofs.Ytninjoepdchmiaa
open Go.RowKit

/-- a split that is asked for, and where its key lies -/
structure SV where
  id : Int
  other : Int
  key : List UInt8
  K : Option Addr
  kc : Nat
def ScrRd (w : World) (A : Option Addr) (S : List SV) : Prop := S = [] ∨ ∃ q o, A = some ⟨q, o, none⟩ ∧ q < w.heap.size ∧ ∀ k (h : k < S.length),
  w.cell? ⟨q, o + k * 3, none⟩ = some (.int .i64 S[k].id) ∧ w.cell? ⟨q, o + k * 3 + 1, none⟩ = some (.int .i64 S[k].other) ∧ w.cell? ⟨q, o + k * 3 + 2, none⟩ = some (.slice S[k].K S[k].key.length S[k].kc) ∧ Src w S[k].K S[k].key.length S[k].kc S[k].key
theorem Tb.lowerB {w : World} {B B' p n c : Nat} {A : Option Addr} {L : List RV} (h : Tb w B p A n c L) (hb : B' ≤ B) : Tb w B' p A n c L := ⟨h.cell, GRow.lower h.row hb, h.tx, h.ne, Nat.le_trans hb h.pb⟩
theorem tab_count {ds : List RD} (h : Tab ds) (key : List UInt8) : ds.countP (fun r => ctB r.fr r.to key) = 1 := by
  obtain ⟨hk, h1, h2⟩ := h.has key
  obtain ⟨k, hkk⟩ : ∃ k, k = findK ds key := ⟨_, rfl⟩
  rw [← hkk] at h2
  have hkl : k < ds.length := by rw [hkk]; exact hk
  have h3 : ctB ds[k].fr ds[k].to key = true := by
    have : ∀ j (hj : j < ds.length), j = findK ds key → ctB ds[j].fr ds[j].to key = true := fun j hj e => by subst e; exact h1
    exact this k hkl hkk
  have e : ds = ds.take k ++ ds[k] :: ds.drop (k + 1) := by
    rw [← List.drop_eq_getElem_cons hkl, List.take_append_drop]
  rw [e, List.countP_append, List.countP_cons, if_pos h3]
  have z1 : (ds.take k).countP (fun r => ctB r.fr r.to key) = 0 := by
    rw [List.countP_eq_zero]
    intro r hr hc
    obtain ⟨j, hj, rfl⟩ := List.mem_iff_getElem.1 hr
    rw [List.getElem_take] at hc
    have := h2 j (by simp at hj; omega) hc
    simp at hj
    omega
  have z2 : (ds.drop (k + 1)).countP (fun r => ctB r.fr r.to key) = 0 := by
    rw [List.countP_eq_zero]
    intro r hr hc
    obtain ⟨j, hj, rfl⟩ := List.mem_iff_getElem.1 hr
    rw [List.getElem_drop] at hc
    have := h2 (k + 1 + j) (by simp at hj; omega) hc
    omega
  omega

set_option maxHeartbeats 12800000 in
set_option maxRecDepth 100000 in
theorem law_holds (S : List SV) (A : Option Addr) (n c : Nat) (K : Option Addr) (nk kc : Nat) (key : List UInt8) (G U : Option Addr) (ng gc nu uc : Nat) (g u : List UInt8) (w : World) (hn : n = S.length) (hr : ScrRd w A S) (hs : Src w K nk kc key) (hg : Src w G ng gc g) (hu : Src w U nu uc u) :
    Calls Try.prog 7 #[.slice A n c, .slice K nk kc, .agg #[.slice G ng gc, .slice U nu uc]] w fun e w' => e = .returned (.bool true) ∧ Below w.heap.size w w' := by
  have hb := below1' w (.cells #[.slice G ng gc, .slice U nu uc] 39)
  have P0 := Cell.new w #[.slice G ng gc, .slice U nu uc] 39 0 _ rfl
  have P1 := Cell.new w #[.slice G ng gc, .slice U nu uc] 39 1 _ rfl
  have HR := Lib.hid hr
  have HN := Lib.hid hn
  have HS := Lib.hid hs
  have HG := Lib.hid hg
  have HU := Lib.hid hu
  have HAw := Lib.hid (awake_any (w.alloc (.cells #[.slice G ng gc, .slice U nu uc] 39)))
  obtain ⟨b, hbb⟩ : ∃ b, b = w.heap.size := ⟨_, rfl⟩
  have HBB := Lib.hid hbb
  rw [← hbb] at P0 P1
  clear hr hn hs hg hu
  go_enter Try.func7, Try.ntmps7
  go_wp2_with fail
  rw [← hbb]
  clear hbb
  refine HAw.out.mono ?_
  rintro e w1 ⟨rfl, h1⟩
  have HB1 := Lib.hid (hb.trans (h1.mono hb.size))
  have Q0 := Lib.hid (P0.keep h1)
  have Q1 := Lib.hid (P1.keep h1)
  have HSZ := Lib.hid (show w.heap.size + 1 ≤ w1.heap.size by have := h1.size; simpa using this)
  clear HAw h1 hb P0 P1
  go_wp2_with fail
  refine (new_any w1).mono ?_
  rintro e w2 ⟨p, A0, n0, c0, L0, rfl, T0, hL0, h2⟩
  have HB2 := Lib.hid (HB1.out.trans (h2.mono HB1.out.size))
  have HT0 : Hid (∃ A' n' c' L, Tb w2 (w.heap.size + 1) p A' n' c' L ∧ Tab (L.map (·.d))) := ⟨A0, n0, c0, L0, T0.lowerB HSZ.out, by rw [hL0]; exact tab_new⟩
  have Z0 := Lib.hid (Q0.out.keep h2)
  have Z1 := Lib.hid (Q1.out.keep h2)
  clear T0 hL0 h2 Q0 Q1 HB1
  go_wp2
  go_loopw [9] (fun s9 wr => ∃ i : Nat, s9 = .int .i64 i ∧ i ≤ n ∧ Hid (∃ A' n' c' L, Tb wr (w.heap.size + 1) p A' n' c' L ∧ Tab (L.map (·.d))) ∧ Below w.heap.size w wr ∧ Hid (Cell wr b 0 (.slice G ng gc)) ∧ Hid (Cell wr b 1 (.slice U nu uc))) (fun s9 _ => n - (intOf s9).toNat)
  case atStart => exact ⟨0, rfl, Nat.zero_le _, HT0, HB2.out, Z0, Z1⟩
  case round =>
    obtain ⟨i, rfl, hi, HTb, hbr, HZ0, HZ1⟩ := hrel
    by_cases hlt : i < n ∧ i < 200
    · obtain ⟨hin, hi2⟩ := hlt
      have hl1 : ((i : Nat) : Int) < (n : Int) := by omega
      have hl2 : ((i : Nat) : Int) < 200 := by omega
      have hiS : i < S.length := by have := HN.out; omega
      rcases HR.out with hS | ⟨q, o, hA, hq, hR⟩
      · rw [hS] at hiS; simp at hiS
      rw [hA]
      obtain ⟨hx0, hx1, hx2, hsrc⟩ := hR i hiS
      obtain ⟨x, hx⟩ : ∃ x, x = S[i] := ⟨_, rfl⟩
      rw [← hx] at hx0 hx1 hx2 hsrc
      obtain ⟨Ax, nx, cx, Lx, T, hTab⟩ := HTb.out
      have d0 := (hbr.cell (p := ⟨q, o + i * 3, none⟩) hq).trans hx0
      have d1 := (hbr.cell (p := ⟨q, o + i * 3 + 1, none⟩) hq).trans hx1
      have d2 := (hbr.cell (p := ⟨q, o + i * 3 + 2, none⟩) hq).trans hx2
      have hle : nx ≤ 32 := by have := T.len; have := hTab.many; rw [List.length_map] at this; omega
      have HMB := Lib.hid T.mb
      have SP := Lib.hid (split_any (w.heap.size + 1) p nx cx Ax Lx x.id x.other x.K x.key.length x.kc x.key wr.drew (T.keep (below_drew (Below.refl _ _))) (by omega) hTab.gen ((hsrc.keep hbr).keep (below_drew (Below.refl _ _))) (fun hne q' o' e hm => by
        have h1 := (HMB.out q' hm).1
        rcases hsrc.2 with h2 | ⟨q2, o2, e2, hq2, _⟩
        · exact hne h2
        · rw [e] at e2
          injection e2 with e2
          injection e2 with e2
          omega))
      have HT2 := Lib.hid (splitD_tab hTab x.id x.other x.key)
      have HBR := Lib.hid hbr
      clear hTab T hbr hsrc hx0 hx1 hx2 hx hR HTb
      go_upto_region 8 with fail
      go_still_tail 16, (by kernel_rfl)
      change wpList _ _ _ _ _ wr.drew
      go_wp2_with fail
      refine SP.out.mono ?_
      rintro e w3 ⟨rfl, A', n', c', L', T', hL', ht⟩
      have HT' : Hid (∃ A' n' c' L, Tb w3 (w.heap.size + 1) p A' n' c' L ∧ Tab (L.map (·.d))) := ⟨A', n', c', L', T', by rw [hL']; exact HT2.out⟩
      have HB' := Lib.hid (HBR.out.trans (below_of_drew (ht.below (fun k _ hk => Nat.le_trans (Nat.le_succ _) (HMB.out k hk).1) HBR.out.size)))
      have hnb : ¬ tbM p (.slice Ax nx cx) b := fun hm => by
        have := (HMB.out b hm).1
        have := HBB.out
        omega
      have ht2 : Turn (tbM p (.slice Ax nx cx)) wr w3 := ⟨ht.os, ht.tape, ht.output, ht.size, ht.block⟩
      have HZ0' := Lib.hid (ht2.keep HZ0.out hnb)
      have HZ1' := Lib.hid (ht2.keep HZ1.out hnb)
      clear T' hL' ht hnb ht2 HZ0 HZ1 SP HT2 HBR
      go_wp2
      go_roundw
      case rel => exact ⟨i + 1, by go_num, by omega, HT', HB'.out, HZ0', HZ1'⟩
      case measure => simp [intOf]; omega
    · have hex : ¬ ((i : Nat) : Int) < (n : Int) ∨ (((i : Nat) : Int) < (n : Int) ∧ ¬ ((i : Nat) : Int) < 200) := by omega
      obtain ⟨Ax, nx, cx, Lx, T, hTab⟩ := HTb.out
      have hle : nx ≤ 32 := by have := T.len; have := hTab.many; rw [List.length_map] at this; omega
      have LS := Lib.hid (list_any (w.heap.size + 1) p nx cx Ax Lx wr T (by omega))
      have HTX := Lib.hid T
      have HTB := Lib.hid hTab
      have HBR := Lib.hid hbr
      clear T hTab hbr HTb hlt hi HT0 HB2 Z0 Z1
      rcases hex with hex | ⟨hex1, hex2⟩ <;> (
        go_wp2_with fail
        refine LS.out.mono ?_
        rintro e w4 ⟨A4, c4, rfl, L4, hL4, hR4, hT4, h4⟩
        have HB4 := Lib.hid (HBR.out.trans (h4.mono HBR.out.size))
        have HT4 := Lib.hid (HTX.out.keep h4)
        have V0 := Lib.hid (HZ0.out.keep h4)
        have V1 := Lib.hid (HZ1.out.keep h4)
        have HRD := Lib.hid (RRow.rd hR4 hT4)
        have HD4 := Lib.hid hL4
        have HN4 : Hid (nx = L4.length) := RRow.len hR4
        clear hL4 hR4 hT4 h4 LS HTX HZ0 HZ1 HBR
        go_wp2
        go_loopw [10, 12, 13] (fun s10 s12 s13 wr => ∃ j : Nat, s12 = .int .i64 j ∧ j ≤ nx ∧ s10 = .int .i64 (((Lx.map (·.d)).take j).countP (fun r => ctB r.fr r.to key) : Nat) ∧ Below w4.heap.size w4 wr) (fun _ s12 _ _ => nx - (intOf s12).toNat)
        case atStart => exact ⟨0, rfl, Nat.zero_le _, by simp, Below.refl _ _⟩
        case round =>
          obtain ⟨j, rfl, hj, rfl, hbq⟩ := hrel
          by_cases hlt : j < nx
          · have hjl : j < L4.length := by have := HN4.out; omega
            rcases HRD.out with h0 | ⟨q, o, hA, hq, hcell⟩
            · rw [h0] at hjl; simp at hjl
            rw [hA]
            obtain ⟨q0, q1, q2, q3, htx⟩ := hcell j hjl
            obtain ⟨y, hy⟩ : ∃ y, y = L4[j] := ⟨_, rfl⟩
            rw [← hy] at q0 q1 q2 q3 htx
            have d1 := (hbq.cell (p := ⟨q, o + j * 4 + 1, none⟩) hq).trans q1
            have d2 := (hbq.cell (p := ⟨q, o + j * 4 + 2, none⟩) hq).trans q2
            have IN := Lib.hid (in_any y.F y.T K y.d.fr.length y.fc y.d.to.length y.tc nk kc y.d.fr y.d.to key wr ((htx.f.below hbq).more hbq.size) ((htx.t.below hbq).more hbq.size) (((HS.out.2.keep' HB4.out).below hbq).more hbq.size) rfl rfl HS.out.1.1)
            have hlt' : (j : Int) < (nx : Int) := by omega
            have HCT : Hid (((Lx.map (·.d)).take (j + 1)).countP (fun r => ctB r.fr r.to key) = ((Lx.map (·.d)).take j).countP (fun r => ctB r.fr r.to key) + if ctB y.d.fr y.d.to key then 1 else 0) := by
              rw [← HD4.out]
              have hj2 : j < (L4.map (·.d)).length := by simpa using hjl
              show List.countP _ _ = _
              rw [List.take_succ_eq_append_getElem hj2, List.countP_append, List.countP_cons, List.countP_nil, Nat.zero_add, List.getElem_map, ← hy]
            have hctl : ((Lx.map (·.d)).take j).countP (fun r => ctB r.fr r.to key) ≤ 32 := Nat.le_trans List.countP_le_length (by rw [List.length_take]; omega)
            obtain ⟨ct, hct⟩ : ∃ ct, ct = ((Lx.map (·.d)).take j).countP (fun r => ctB r.fr r.to key) := ⟨_, rfl⟩
            rw [← hct] at HCT hctl
            rw [← hct]
            have HBQ := Lib.hid hbq
            clear hcell q0 q1 q2 q3 htx hy hA hct hbq hj
            obtain ⟨r1, hr1⟩ : ∃ r, r = ctB y.d.fr y.d.to key := ⟨_, rfl⟩
            rw [← hr1] at IN HCT
            go_wp2_with fail
            refine IN.out.mono ?_
            rintro e w6 ⟨rfl, h6⟩
            have HB6 := Lib.hid (HBQ.out.trans (h6.mono HBQ.out.size))
            clear h6 IN hr1
            cases r1
            · go_wp2
              go_roundw
              case rel => exact ⟨j + 1, by go_num, by omega, by rw [HCT.out]; rfl, HB6.out⟩
              case measure => simp [intOf]; omega
            · go_wp2
              go_roundw
              case rel => exact ⟨j + 1, by go_num, by omega, by rw [HCT.out]; simp, HB6.out⟩
              case measure => simp [intOf]; omega
          · have hjn : j = nx := by omega
            have hc1 : ((Lx.map (·.d)).take j).countP (fun r => ctB r.fr r.to key) = 1 := by
              rw [List.take_of_length_le (by rw [hjn, HN4.out, ← List.length_map (f := fun x : RV => x.d), HD4.out]; exact Nat.le_refl _)]
              exact tab_count HTB.out key
            rw [hc1]
            have hge : ¬ (j : Int) < (nx : Int) := by omega
            have HT5 := Lib.hid (HT4.out.keep hbq)
            have W0 := Lib.hid (V0.out.keep hbq)
            have W1 := Lib.hid (V1.out.keep hbq)
            have x0 := W0.out.1
            have x1 := W1.out.1
            have HB5 := Lib.hid (HB4.out.trans (hbq.mono HB4.out.size))
            have TC := Lib.hid (tcut_any (w.heap.size + 1) p nx cx Ax Lx G U ng gc nu uc g u wr HT5.out (by omega) HTB.out.mono (HG.out.keep HB5.out) (HU.out.keep HB5.out))
            clear hjn hc1 hlt hbq hj HT4 V0 V1 HB4 HRD HD4 HN4
            go_wp2_with fail
            refine TC.out.mono ?_
            rintro e w7 ⟨⟨A7, n7, c7, rfl, L7, hL7, hR7, hT7⟩, h7⟩
            have HB7 := Lib.hid (HB5.out.trans (h7.mono HB5.out.size))
            have y0 := (W0.out.keep h7)
            have y1 := (W1.out.keep h7)
            have HY0 := Lib.hid y0
            have HY1 := Lib.hid y1
            have z0 := y0.1
            have z1 := y1.1
            have RE := Lib.hid (rempty_any G U ng gc nu uc g u w7 (HG.out.2.keep' HB7.out) (HU.out.2.keep' HB7.out) HG.out.1.1 HU.out.1.1)
            have HL7 := Lib.hid hL7
            have HR7 := Lib.hid hR7
            have HT7 := Lib.hid hT7
            clear hL7 hR7 hT7 h7 y0 y1 x0 x1 TC HT5 W0 W1 HB5
            go_wp2_with fail
            refine RE.out.mono ?_
            rintro e w8 ⟨rfl, h8⟩
            have HB8 := Lib.hid (HB7.out.trans (h8.mono HB7.out.size))
            have c0 := (HY0.out.keep h8).1
            have c1 := (HY1.out.keep h8).1
            have HR8 := Lib.hid (GRow.keep HR7.out h8)
            have HT8 := Lib.hid (fun x hx => (HT7.out x hx).keep h8)
            clear z0 z1 HY0 HY1 RE h8 HB7 HR7 HT7
            cases he : emB g u
            · have HWH := Lib.hid (cut_whole HTB.out he)
              have hlen : n7 = (cutD (Lx.map (·.d)) g u).length := by rw [PRow.len HR8.out, ← HL7.out, List.length_map]
              obtain ⟨m, rfl⟩ : ∃ m, n7 = m + 1 := ⟨n7 - 1, by have := HWH.out.pos; omega⟩
              have HLEN := Lib.hid hlen
              have hm : m ≤ 1000 := by
                have h1 : (cutD (Lx.map (·.d)) g u).length ≤ Lx.length := by
                  unfold cutD
                  rw [if_neg (by rw [he]; simp), List.length_map]
                  exact Nat.le_trans (List.Sublist.length_le (List.takeWhile_sublist _)) (by rw [List.length_drop, List.length_map]; omega)
                have h2 := HTB.out.many
                rw [List.length_map] at h2
                omega
              have hll : L7.length = m + 1 := (PRow.len HR8.out).symm
              have HPD : Hid (∀ k (h : k < L7.length), (cutD (Lx.map (·.d)) g u)[k]? = some L7[k].d) := fun k h => by rw [← HL7.out, List.getElem?_map, List.getElem?_eq_getElem h]; rfl
              obtain ⟨q, hA, -, -, -⟩ := PRow.at HR8.out (k := 0) (by omega)
              subst hA
              have HCE : Hid (∀ k (h : k < L7.length), w8.cell? ⟨q, k * 6 + 4, none⟩ = some (.slice L7[k].G L7[k].f.length L7[k].gc) ∧ w8.cell? ⟨q, k * 6 + 5, none⟩ = some (.slice L7[k].U L7[k].t.length L7[k].uc)) := fun k h => by
                obtain ⟨q', hA', _, _, hc⟩ := PRow.at HR8.out h
                injection hA' with hA'
                injection hA' with hA'
                subst hA'
                exact ⟨(hc 4 (by omega) _ rfl).1, (hc 5 (by omega) _ rfl).1⟩
              obtain ⟨a0, ha0⟩ : ∃ x, x = L7[0]'(by omega) := ⟨_, rfl⟩
              obtain ⟨am, ham⟩ : ∃ x, x = L7[m]'(by omega) := ⟨_, rfl⟩
              have f0 : a0.f = g := HWH.out.first a0.d (by rw [ha0]; exact HPD.out 0 (by omega))
              have fm : am.t = u := HWH.out.last am.d (by rw [← HLEN.out, Nat.add_sub_cancel, ham]; exact HPD.out m (by omega))
              have e4 := (HCE.out 0 (by omega)).1
              have e5 := (HCE.out m (by omega)).2
              rw [← ha0, f0] at e4
              rw [← ham, fm] at e5
              have t0 := fun N => str_of (w := w8.drewN N) (B := w8.heap.size) (A := a0.G) (l := g) (by
                have := (HT8.out a0 (by rw [ha0]; exact List.getElem_mem _)).f.rd
                rw [f0] at this; exact this.drewN N) a0.gc
              have t1 := fun N => str_of (w := w8.drewN N) (B := w8.heap.size) (A := am.U) (l := u) (by
                have := (HT8.out am (by rw [ham]; exact List.getElem_mem _)).t.rd
                rw [fm] at this; exact this.drewN N) am.uc
              have t2 := fun N => str_of (w := w8.drewN N) (B := w8.heap.size) (A := G) (l := g) ((HG.out.2.keep' HB8.out).drewN N) gc
              have t3 := fun N => str_of (w := w8.drewN N) (B := w8.heap.size) (A := U) (l := u) ((HU.out.2.keep' HB8.out).drewN N) uc
              have eg := HG.out.1.1
              have eu := HU.out.1.1
              rw [← eg] at t0 t2 e4
              rw [← eu] at t1 t3 e5
              have HLL := Lib.hid hll
              have HM := Lib.hid hm
              clear eg eu f0 fm ha0 ham hlen hll he
              have hz : (((m + 1 : Nat) : Int) == 0) = false := by rw [beq_eq_false_iff_ne]; omega
              go_wp2
              go_quiet (fail)
              go_wp2
              go_loopw [17] (fun s17 wr => ∃ k : Nat, s17 = .int .i64 k ∧ k ≤ m ∧ ∃ d, wr = w8.drewN d) (fun s17 _ => m - (intOf s17).toNat)
              case atStart => exact ⟨0, rfl, Nat.zero_le _, _, rfl⟩
              case round =>
                obtain ⟨k, rfl, hk, d, rfl⟩ := hrel
                by_cases hlt : k < m
                · have hka : k < L7.length := by have := HLL.out; omega
                  have hkb : k + 1 < L7.length := by have := HLL.out; omega
                  obtain ⟨x, hx⟩ : ∃ x, x = L7[k] := ⟨_, rfl⟩
                  obtain ⟨y, hy⟩ : ∃ x, x = L7[k + 1] := ⟨_, rfl⟩
                  obtain ⟨n1, n2⟩ := HWH.out.next k x.d y.d (by rw [hx]; exact HPD.out k hka) (by rw [hy]; exact HPD.out (k + 1) hkb)
                  have n1 : x.t ≠ [] := n1
                  have n2 : y.f = x.t := n2.symm
                  have g0 : (w8.drewN d).cell? _ = _ := (HCE.out k hka).2
                  have g1 : (w8.drewN d).cell? _ = _ := (HCE.out (k + 1) hkb).1
                  rw [← hx] at g0
                  rw [← hy, n2] at g1
                  have s0 := fun N => str_of (w := w8.drewN N) (B := w8.heap.size) (A := x.U) (l := x.t) ((HT8.out x (by rw [hx]; exact List.getElem_mem _)).t.rd.drewN N) x.uc
                  have s1 := fun N => str_of (w := w8.drewN N) (B := w8.heap.size) (A := y.G) (l := x.t) (by
                    have := (HT8.out y (by rw [hy]; exact List.getElem_mem _)).f.rd
                    rw [n2] at this; exact this.drewN N) y.gc
                  have hne : ((x.t.length : Int) == 0) = false := by
                    rw [beq_eq_false_iff_ne]
                    have := List.length_pos_iff.2 n1
                    omega
                  have hlt' : (k : Int) < (m : Int) := by omega
                  have hk1 : k < m + 1 := by omega
                  have hk2 : k + 1 < m + 1 := by omega
                  have hk3 : (k : Int) + 1 < (m : Int) + 1 := by omega
                  have hk4 : (k : Int) < (m : Int) + 1 := by omega
                  obtain ⟨xt, hxt⟩ : ∃ t, t = x.t := ⟨_, rfl⟩
                  rw [← hxt] at g0 g1 s0 s1 hne
                  obtain ⟨nt, hnt⟩ : ∃ n, n = xt.length := ⟨_, rfl⟩
                  rw [← hnt] at g0 g1 s0 s1 hne
                  have g2 : w8.cell? _ = _ := g0
                  have g3 : w8.cell? _ = _ := g1
                  clear n1 n2 hx hy hxt hnt hka hkb
                  go_wp2
                  go_quiet (fail)
                  go_wp2
                  go_roundw
                  case rel => exact ⟨k + 1, by go_num, by omega, d + nq, by simp⟩
                  case measure => simp [intOf]; omega
                · have hge' : ¬ (k : Int) < (m : Int) := by omega
                  go_wp2
                  go_ret
                  exact ⟨rfl, below_drewN HB8.out _⟩
            · have h0 : n7 = 0 := by
                rw [PRow.len HR8.out, ← List.length_map (f := PV.d), HL7.out]
                unfold cutD
                rw [if_pos he]; rfl
              subst h0
              clear he
              go_wp2
              go_ret
              exact ⟨rfl, HB8.out⟩)
end Go.Proofs.Ytninjoepdchmiaa
