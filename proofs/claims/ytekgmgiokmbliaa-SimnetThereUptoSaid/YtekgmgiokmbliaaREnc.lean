/-
  The reference's Encode.
-/
import Derived.Test.YtekgmgiokmbliaaEncOk
set_option linter.unusedVariables false
namespace Go.Proofs.Ytekgmgiokmbliaa
open Go.RowKit

theorem Made.of_below {W wr w' : World} {base : Nat} {v v' : Value} {l l' : List UInt8} (h : Made W wr base v l) (b : Below base wr w') (o : Own w' base v' l') : Made W w' base v' l' := ⟨o, h.below.trans b, Nat.le_trans h.hbase b.size⟩

set_option maxHeartbeats 6400000 in
set_option maxRecDepth 100000 in
theorem renc_ok (m : Msg) (a : At) (w : World) (hr : MRd w w.heap.size m a) (hs : Small m) (hyes : RightP m) :
    Calls Try.prog 26 #[msgV m a] w fun e w' => ∃ v, e = .returned (.tuple #[v, .int .i64 0]) ∧ Own w' w.heap.size v (encB m) ∧ Below w.heap.size w w' := by
  have hb := below1' w (.cells (msgC m a) 51)
  have IM := Lib.hid (right_any m a _ ((hr.below hb).more hb.size) hs)
  have HRd := Lib.hid ((hr.below hb).more hb.size)
  have HK := Lib.hid hyes.2.2
  have hkl := hyes.2.2.le
  have HS := Lib.hid hs.kept
  obtain ⟨⟨hg1, hg2⟩, ⟨hf1, hf2⟩, ⟨hd1, hd2⟩, ht1, ht2⟩ := hyes.1
  obtain ⟨⟨hi1, hi2⟩, ⟨hl1, hl2⟩, hc1, hc2⟩ := hyes.2.1
  obtain ⟨P, hP⟩ : ∃ P, P = RightP m := ⟨_, rfl⟩
  have HYes : Hid P := by rw [hP]; exact hyes
  obtain ⟨EN, hEN⟩ : ∃ E, E = encB m := ⟨_, rfl⟩
  obtain ⟨VV, hVV⟩ : ∃ V, V = msgV m a := ⟨_, rfl⟩
  rw [← hP, ← hVV] at IM
  rw [← hEN, ← hVV]
  obtain ⟨kind, group, frm, dst, term, index, logTerm, commit, ok, es, mem, dat⟩ := m
  simp only at hg1 hg2 hf1 hf2 hd1 hd2 ht1 ht2 hi1 hi2 hl1 hl2 hc1 hc2 hkl
  obtain ⟨kN, rfl⟩ := nat_of (show 0 ≤ kind by omega)
  obtain ⟨gN, rfl⟩ := nat_of (show 0 ≤ group by omega)
  obtain ⟨fN, rfl⟩ := nat_of (show 0 ≤ frm by omega)
  obtain ⟨dN, rfl⟩ := nat_of (show 0 ≤ dst by omega)
  obtain ⟨tN, rfl⟩ := nat_of (show 0 ≤ term by omega)
  obtain ⟨iN, rfl⟩ := nat_of hi1
  obtain ⟨lN, rfl⟩ := nat_of hl1
  obtain ⟨cN, rfl⟩ := nat_of hc1
  have hVV' : VV = .agg #[.int .i64 (kN : Nat), .int .i64 (gN : Nat), .int .i64 (fN : Nat), .int .i64 (dN : Nat), .int .i64 (tN : Nat), .int .i64 (iN : Nat), .int .i64 (lN : Nat), .int .i64 (cN : Nat), .bool ok, .slice a.e es.length a.ec, .slice a.m mem.length a.mc, .slice a.d dat.length a.dc] := hVV
  simp only [msgC] at hb IM HRd
  have hk255 : kN ≤ 5 := by omega
  have hgN : gN ≤ 255 := by omega
  have hfN : fN ≤ 5 := by omega
  have hdN : dN ≤ 5 := by omega
  have htN : tN ≤ 9007199254740991 := by omega
  have hiN : iN ≤ 9007199254740991 := by omega
  have hlN : lN ≤ 9007199254740991 := by omega
  have hcN : cN ≤ 9007199254740991 := by omega
  clear hr hs hyes hP hVV hg1 hg2 hf1 hf2 hd1 hd2 ht1 ht2 hi1 hi2 hl1 hl2 hc1 hc2 hkl
  obtain ⟨ne, hne⟩ : ∃ n, n = es.length := ⟨_, rfl⟩
  obtain ⟨nm, hnm⟩ : ∃ n, n = mem.length := ⟨_, rfl⟩
  obtain ⟨nd, hnd⟩ : ∃ n, n = dat.length := ⟨_, rfl⟩
  rw [← hne, ← hnm, ← hnd] at hVV'
  rw [← hne, ← hnm, ← hnd] at hb IM HRd
  have HNs := Lib.hid (And.intro hne (And.intro hnm hnd))
  subst hVV'
  have HEN := Lib.hid hEN
  clear hne hnm hnd hEN
  have B := fun (j : Nat) (x : Value) (h : (#[.int .i64 (kN : Nat), .int .i64 (gN : Nat), .int .i64 (fN : Nat), .int .i64 (dN : Nat), .int .i64 (tN : Nat), .int .i64 (iN : Nat), .int .i64 (lN : Nat), .int .i64 (cN : Nat), .bool ok, .slice a.e ne a.ec, .slice a.m nm a.mc, .slice a.d nd a.dc] : Array Value)[j]? = some x) => Cell.new w #[.int .i64 (kN : Nat), .int .i64 (gN : Nat), .int .i64 (fN : Nat), .int .i64 (dN : Nat), .int .i64 (tN : Nat), .int .i64 (iN : Nat), .int .i64 (lN : Nat), .int .i64 (cN : Nat), .bool ok, .slice a.e ne a.ec, .slice a.m nm a.mc, .slice a.d nd a.dc] 51 j x h
  have B0 := B 0 _ rfl
  have B1 := B 1 _ rfl
  have B2 := B 2 _ rfl
  have B3 := B 3 _ rfl
  have B4 := B 4 _ rfl
  have B5 := B 5 _ rfl
  have B6 := B 6 _ rfl
  have B7 := B 7 _ rfl
  have B8 := B 8 _ rfl
  have B9 := B 9 _ rfl
  have B10 := B 10 _ rfl
  have B11 := B 11 _ rfl
  clear B
  go_enter Try.func26, Try.ntmps26
  go_wp2_with fail
  refine IM.out.mono ?_
  rintro e w2 ⟨⟨b, rfl, hbb⟩, h2⟩
  cases b with
  | false => have := hbb.2 HYes.out; cases this
  | true =>
    have X0 := (B0.keep h2).1
    have X1 := (B1.keep h2).1
    have X2 := (B2.keep h2).1
    have X3 := (B3.keep h2).1
    have X4 := (B4.keep h2).1
    have X5 := Lib.hid (B5.keep h2).1
    have X6 := Lib.hid (B6.keep h2).1
    have X7 := Lib.hid (B7.keep h2).1
    have X8 := Lib.hid (B8.keep h2).1
    have X9 := Lib.hid (B9.keep h2).1
    have X10 := Lib.hid (B10.keep h2).1
    have X11 := Lib.hid (B11.keep h2).1
    have hb2 := Lib.hid (hb.trans (h2.mono hb.size))
    have HRd2 := Lib.hid ((HRd.out.below h2).more h2.size)
    have hr2 : Hid (w.heap.size < w2.heap.size) := by have := (B0.keep h2).lt; exact this
    obtain ⟨r, hrr⟩ : ∃ r, r = w.heap.size := ⟨_, rfl⟩
    have hX0 : Hid (w2.cell? ⟨r, 0, none⟩ = some (.int .i64 (kN : Nat))) := by rw [hrr]; exact X0
    rw [← hrr] at X0 X1 X2 X3 X4 X5 X6 X7 X8 X9 X10 X11 hr2
    rw [← hrr]
    have HRR := Lib.hid hrr
    clear hrr hbb h2 hb IM HRd B0 B1 B2 B3 B4 B5 B6 B7 B8 B9 B10 B11
    have M0 : Made w2 (w2.alloc (.cells #[.int .u8 (kN : Nat), .int .u8 (gN : Nat), .int .u8 (fN : Nat), .int .u8 (dN : Nat)] 5)) w2.heap.size (.slice (some ⟨w2.heap.size, 0, none⟩) 4 4) [by8 kN, by8 gN, by8 fN, by8 dN] :=
      ⟨own_lit w2 [by8 kN, by8 gN, by8 fN, by8 dN] _ (by simp [bv8 (show kN ≤ 255 by omega), bv8 hgN, bv8 (show fN ≤ 255 by omega), bv8 (show dN ≤ 255 by omega)]) (by simp), below1' w2 _, by simp⟩
    have w1 := wrap8 (show kN ≤ 255 by omega)
    have w2' := wrap8 hgN
    have w3' := wrap8 (show fN ≤ 255 by omega)
    have w4' := wrap8 (show dN ≤ 255 by omega)
    have z4 := M0.cell X4 hr2.out
    have HM0 := Lib.hid M0
    have S3 := Lib.hid (rvar_any tN w2.heap.size _ _ _ (by omega) M0.own (by simp) M0.hbase)
    clear M0
    go_wp2_with fail
    refine S3.out.mono ?_
    rintro e w3 ⟨v3, rfl, o3, g3, _⟩
    have M3 := HM0.out.of_grown g3 o3
    obtain ⟨A3, c3, rfl⟩ := M3.form
    obtain ⟨l3, hl3⟩ : ∃ l, l = [by8 kN, by8 gN, by8 fN, by8 dN] ++ vb tN := ⟨_, rfl⟩
    rw [← hl3] at M3
    rw [← hl3]
    have HL3 : Hid (l3.length ≤ 13) := by
      show _ ≤ _; rw [hl3]; have := vb_nine (n := tN) (by omega); simp; omega
    have HE3 := Lib.hid hl3
    obtain ⟨n3, hn3⟩ : ∃ n, n = l3.length := ⟨_, rfl⟩
    rw [← hn3] at M3
    rw [← hn3]
    have HN3 := Lib.hid hn3
    have HM3 := Lib.hid M3
    have y0 := M3.cell X0 hr2.out
    have HFin : Hid (∀ w' v l, Made w2 w' w2.heap.size v l → l = EN → Own w' w.heap.size v EN ∧ Below w.heap.size w w') := by
      intro w' v l hM hl
      have hs2 := hb2.out.size
      exact ⟨hl ▸ Own.mono hM.own hs2, hb2.out.trans (hM.below.mono hs2)⟩
    clear hl3 hn3 M3 S3 z4 X0 X1 X2 X3 X4 w1 w2' w3' w4' o3 g3 HM0
    by_cases hk1 : kN = 1
    · subst hk1
      have y5 := HM3.out.cell X5.out hr2.out
      have S4 := Lib.hid (rvar_any iN w2.heap.size _ _ w3 (by omega) HM3.out.own (by have := HL3.out; omega) HM3.out.hbase)
      go_wp2_with fail
      refine S4.out.mono ?_
      rintro e w4 ⟨v4, rfl, o4, g4, _⟩
      have M4 := HM3.out.of_grown g4 o4
      obtain ⟨A4, c4, rfl⟩ := M4.form
      obtain ⟨l4, hl4⟩ : ∃ l, l = l3 ++ vb iN := ⟨_, rfl⟩
      rw [← hl4] at M4
      rw [← hl4]
      have HL4 : Hid (l4.length ≤ 22) := by
        show _ ≤ _; rw [hl4]; have := vb_nine (n := iN) (by omega); have := HL3.out; simp; omega
      have HE4 := Lib.hid hl4
      obtain ⟨n4, hn4⟩ : ∃ n, n = l4.length := ⟨_, rfl⟩
      rw [← hn4] at M4
      rw [← hn4]
      have HN4 := Lib.hid hn4
      have HM4 := Lib.hid M4
      clear hl4 hn4 M4 S4 o4 g4 y5
      have y6 := HM4.out.cell X6.out hr2.out
      have S5 := Lib.hid (rvar_any lN w2.heap.size _ _ w4 (by omega) HM4.out.own (by have := HL4.out; omega) HM4.out.hbase)
      go_wp2_with fail
      refine S5.out.mono ?_
      rintro e w5 ⟨v5, rfl, o5, g5, _⟩
      have M5 := HM4.out.of_grown g5 o5
      obtain ⟨A5, c5, rfl⟩ := M5.form
      obtain ⟨l5, hl5⟩ : ∃ l, l = l4 ++ vb lN := ⟨_, rfl⟩
      rw [← hl5] at M5
      rw [← hl5]
      have HL5 : Hid (l5.length ≤ 31) := by
        show _ ≤ _; rw [hl5]; have := vb_nine (n := lN) (by omega); have := HL4.out; simp; omega
      have HE5 := Lib.hid hl5
      obtain ⟨n5, hn5⟩ : ∃ n, n = l5.length := ⟨_, rfl⟩
      rw [← hn5] at M5
      rw [← hn5]
      have HN5 := Lib.hid hn5
      have HM5 := Lib.hid M5
      clear hl5 hn5 M5 S5 o5 g5 y6
      clear y0
      have HF := Lib.hid (HFin.out _ _ _ HM5.out (by rw [HEN.out, HE5.out, HE4.out, HE3.out]; simp [encB, headB, restB, vi_nat, byI]))
      go_wp2
      go_ret2
      exact ⟨_, rfl, HF.out⟩
    by_cases hk2 : kN = 2
    · subst hk2
      have y8 := HM3.out.cell X8.out hr2.out
      have S4 := Lib.hid (truth_any ok w2.heap.size _ _ w3 HM3.out.own (by have := HL3.out; omega) HM3.out.hbase)
      go_wp2_with fail
      refine S4.out.mono ?_
      rintro e w4 ⟨v4, rfl, o4, g4, _⟩
      have M4 := HM3.out.of_grown g4 o4
      obtain ⟨A4, c4, rfl⟩ := M4.form
      obtain ⟨l4, hl4⟩ : ∃ l, l = l3 ++ [tb ok] := ⟨_, rfl⟩
      rw [← hl4] at M4
      rw [← hl4]
      have HL4 : Hid (l4.length ≤ 14) := by
        show _ ≤ _; rw [hl4]; have := HL3.out; simp; omega
      have HE4 := Lib.hid hl4
      obtain ⟨n4, hn4⟩ : ∃ n, n = l4.length := ⟨_, rfl⟩
      rw [← hn4] at M4
      rw [← hn4]
      have HN4 := Lib.hid hn4
      have HM4 := Lib.hid M4
      clear hl4 hn4 M4 S4 o4 g4 y8
      clear y0
      have HF := Lib.hid (HFin.out _ _ _ HM4.out (by rw [HEN.out, HE4.out, HE3.out]; simp [encB, headB, restB, vi_nat, byI]))
      go_wp2
      go_ret2
      exact ⟨_, rfl, HF.out⟩
    by_cases hk3 : kN = 3
    · subst hk3
      have KP := (kindP_3 rfl).1 HK.out
      simp only at KP
      have HKP := Lib.hid KP
      clear KP
      have hne64 : ne ≤ 64 := by have h1 : es.length ≤ 64 := HKP.out.2.2.2.1; have := HNs.out.1; omega
      have y5 := HM3.out.cell X5.out hr2.out
      have S4 := Lib.hid (rvar_any iN w2.heap.size _ _ w3 (by omega) HM3.out.own (by have := HL3.out; omega) HM3.out.hbase)
      go_wp2_with fail
      refine S4.out.mono ?_
      rintro e w4 ⟨v4, rfl, o4, g4, _⟩
      have M4 := HM3.out.of_grown g4 o4
      obtain ⟨A4, c4, rfl⟩ := M4.form
      obtain ⟨l4, hl4⟩ : ∃ l, l = l3 ++ vb iN := ⟨_, rfl⟩
      rw [← hl4] at M4
      rw [← hl4]
      have HL4 : Hid (l4.length ≤ 22) := by
        show _ ≤ _; rw [hl4]; have := vb_nine (n := iN) (by omega); have := HL3.out; simp; omega
      have HE4 := Lib.hid hl4
      obtain ⟨n4, hn4⟩ : ∃ n, n = l4.length := ⟨_, rfl⟩
      rw [← hn4] at M4
      rw [← hn4]
      have HN4 := Lib.hid hn4
      have HM4 := Lib.hid M4
      clear hl4 hn4 M4 S4 o4 g4 y5
      have y6 := HM4.out.cell X6.out hr2.out
      have S5 := Lib.hid (rvar_any lN w2.heap.size _ _ w4 (by omega) HM4.out.own (by have := HL4.out; omega) HM4.out.hbase)
      go_wp2_with fail
      refine S5.out.mono ?_
      rintro e w5 ⟨v5, rfl, o5, g5, _⟩
      have M5 := HM4.out.of_grown g5 o5
      obtain ⟨A5, c5, rfl⟩ := M5.form
      obtain ⟨l5, hl5⟩ : ∃ l, l = l4 ++ vb lN := ⟨_, rfl⟩
      rw [← hl5] at M5
      rw [← hl5]
      have HL5 : Hid (l5.length ≤ 31) := by
        show _ ≤ _; rw [hl5]; have := vb_nine (n := lN) (by omega); have := HL4.out; simp; omega
      have HE5 := Lib.hid hl5
      obtain ⟨n5, hn5⟩ : ∃ n, n = l5.length := ⟨_, rfl⟩
      rw [← hn5] at M5
      rw [← hn5]
      have HN5 := Lib.hid hn5
      have HM5 := Lib.hid M5
      clear hl5 hn5 M5 S5 o5 g5 y6
      have y7 := HM5.out.cell X7.out hr2.out
      have S6 := Lib.hid (rvar_any cN w2.heap.size _ _ w5 (by omega) HM5.out.own (by have := HL5.out; omega) HM5.out.hbase)
      go_wp2_with fail
      refine S6.out.mono ?_
      rintro e w6 ⟨v6, rfl, o6, g6, _⟩
      have M6 := HM5.out.of_grown g6 o6
      obtain ⟨A6, c6, rfl⟩ := M6.form
      obtain ⟨l6, hl6⟩ : ∃ l, l = l5 ++ vb cN := ⟨_, rfl⟩
      rw [← hl6] at M6
      rw [← hl6]
      have HL6 : Hid (l6.length ≤ 40) := by
        show _ ≤ _; rw [hl6]; have := vb_nine (n := cN) (by omega); have := HL5.out; simp; omega
      have HE6 := Lib.hid hl6
      obtain ⟨n6, hn6⟩ : ∃ n, n = l6.length := ⟨_, rfl⟩
      rw [← hn6] at M6
      rw [← hn6]
      have HN6 := Lib.hid hn6
      have HM6 := Lib.hid M6
      clear hl6 hn6 M6 S6 o6 g6 y7
      have y9 := HM6.out.cell X9.out hr2.out
      have S7 := Lib.hid (rvar_any ne w2.heap.size _ _ w6 (by omega) HM6.out.own (by have := HL6.out; omega) HM6.out.hbase)
      go_wp2_with fail
      refine S7.out.mono ?_
      rintro e w7 ⟨v7, rfl, o7, g7, _⟩
      have M7 := HM6.out.of_grown g7 o7
      obtain ⟨A7, c7, rfl⟩ := M7.form
      obtain ⟨l7, hl7⟩ : ∃ l, l = l6 ++ vb ne := ⟨_, rfl⟩
      rw [← hl7] at M7
      rw [← hl7]
      have HL7 : Hid (l7.length ≤ 49) := by
        show _ ≤ _; rw [hl7]; have := vb_nine (n := ne) (by omega); have := HL6.out; simp; omega
      have HE7 := Lib.hid hl7
      obtain ⟨n7, hn7⟩ : ∃ n, n = l7.length := ⟨_, rfl⟩
      rw [← hn7] at M7
      rw [← hn7]
      have HN7 := Lib.hid hn7
      have HM7 := Lib.hid M7
      clear hl7 hn7 M7 S7 o7 g7 y9
      clear y0
      have S0 : Hid (Made w2 w7 w2.heap.size (.slice A7 n7 c7) (l7 ++ (es.take 0).flatMap entB) ∧ n7 = (l7 ++ (es.take 0).flatMap entB).length ∧ (l7 ++ (es.take 0).flatMap entB).length ≤ 60 + 0 * 1048676) := by
        simp only [List.take_zero, List.flatMap_nil, List.append_nil]; exact ⟨HM7.out, HN7.out, by have := HL7.out; omega⟩
      go_wp2
      go_loopw [5, 6] (fun s5 s6 wr => ∃ (k nn : Nat) (B : Option Addr) (d : Nat), s6 = .int .i64 k ∧ k ≤ ne ∧ s5 = .slice B nn d ∧ Hid (Made w2 wr w2.heap.size (.slice B nn d) (l7 ++ (es.take k).flatMap entB) ∧ nn = (l7 ++ (es.take k).flatMap entB).length ∧ (l7 ++ (es.take k).flatMap entB).length ≤ 60 + k * 1048676)) (fun _ s6 _ => ne - (intOf s6).toNat)
      case atStart => exact ⟨0, n7, A7, c7, rfl, by omega, rfl, S0⟩
      case round =>
        clear S0 HM7
        obtain ⟨k, nn, B, d, rfl, hk, rfl, HM⟩ := hrel
        have y9 := HM.out.1.cell X9.out hr2.out
        by_cases hlt : k < ne
        · have hkl : k < es.length := by have := HNs.out.1; omega
          rcases HRd2.out.re with h0 | ⟨q, o, hA, hq, hc⟩
          · simp only at h0; rw [h0] at hkl; simp at hkl
          simp only at hc hA
          rw [hA] at y9
          obtain ⟨D, c, c0, c1, c2, c3, hrd⟩ := hc k hkl
          have hge := HKP.out.2.2.2.2 k hkl
          simp only [GoodE] at hge
          have hsm := HS.out.2.2.2 _ (List.getElem_mem hkl)
          have HES : Hid ((es.take (k + 1)).flatMap entB = (es.take k).flatMap entB ++ entB es[k]) := by
            show _ = _; rw [List.take_succ_eq_append_getElem hkl, List.flatMap_append]; simp
          obtain ⟨y, hy⟩ : ∃ y, y = es[k] := ⟨_, rfl⟩
          replace HES := HES.out
          rw [← hy] at c0 c1 c2 c3 hrd hsm hge HES
          replace HES := Lib.hid HES
          obtain ⟨yi, yt, yk, yl⟩ := y
          simp only at c0 c1 c2 c3 hrd hsm hge
          obtain ⟨⟨⟨ht1, ht2⟩, hx1, hkd⟩, hx2, hx3⟩ := hge
          clear hx1 hx2 hx3
          simp only at ht1 ht2 hkd
          obtain ⟨tk, rfl⟩ := nat_of (show 0 ≤ yt by omega)
          obtain ⟨kk, rfl⟩ := nat_of (show 0 ≤ yk by omega)
          have hkk : kk ≤ 3 := by omega
          have htk : tk ≤ 9007199254740991 := by omega
          have hyl : yl.length ≤ 1048576 := hsm
          obtain ⟨lk, hlk⟩ : ∃ l, l = l7 ++ (es.take k).flatMap entB := ⟨_, rfl⟩
          replace HM := HM.out
          rw [← hlk] at HM
          obtain ⟨HM, hnn, hll⟩ := HM
          have HLk := Lib.hid hlk
          have HNn := Lib.hid hnn
          have HLl := Lib.hid hll
          have HM := Lib.hid HM
          have d1 := (HM.out.below.cell (p := ⟨q, o + k * 4 + 1, none⟩) hq).trans c1
          have HRD := Lib.hid hrd
          have HC2 := Lib.hid c2
          have HC3 := Lib.hid c3
          have HQ := Lib.hid hq
          have hlkB : Hid (lk.length ≤ 70368744000000) := by have h1 := HLl.out; have h2 := congrArg List.length HLk.out; show _ ≤ _; omega
          have V1 := Lib.hid (rvar_any tk w2.heap.size _ _ wr (by omega) HM.out.own (by have := hlkB.out; omega) HM.out.hbase)
          clear hc c0 c1 c2 c3 hrd hsm hy hA hkd hlk hnn hll
          go_wp2_with fail
          refine V1.out.mono ?_
          rintro e wa ⟨va, rfl, oa, ga, _⟩
          have Ma := HM.out.of_grown ga oa
          obtain ⟨Aa, ca, rfl⟩ := Ma.form
          obtain ⟨la, hla⟩ : ∃ l, l = lk ++ vb tk := ⟨_, rfl⟩
          rw [← hla] at Ma
          rw [← hla]
          have HLa : Hid (la.length + 1 ≤ 70368744177664 ∧ la.length + 1 ≤ 70368744100000 ∧ la.length ≤ lk.length + 9) := by have h1 := hlkB.out; have h2 := vb_nine (n := tk) (by omega); show _ ∧ _; rw [hla, List.length_append]; omega
          have HEa := Lib.hid hla
          obtain ⟨na, hna⟩ : ∃ n, n = la.length := ⟨_, rfl⟩
          rw [← hna] at Ma
          rw [← hna]
          have HMa := Lib.hid Ma
          have ya9 := Ma.cell X9.out hr2.out
          have da2 := (Ma.below.cell (p := ⟨q, o + k * 4 + 2, none⟩) HQ.out).trans HC2.out
          have hA9 : Hid (a.e = some ⟨q, o, none⟩) := by show a.e = _; have h1 := y9.symm.trans (HM.out.cell X9.out hr2.out); injection h1 with h1; injection h1 with h1; exact h1.symm
          rw [hA9.out] at ya9
          have hw8 := wrap8 (show kk ≤ 255 by omega)
          have hby : Hid ((kk : Int) = ((by8 kk).toNat : Int)) := (by8_toNat (by omega)).symm
          clear hla hna Ma oa ga V1 y9 d1
          go_wp2_with (at_builtin; refine app_byte wa w2.heap.size _ la (by8 kk) _ hby.out rfl (.tmp 81) (.tmp 89) rfl rfl wa.heap.size rfl rfl HMa.out.own HLa.out.1 HMa.out.hbase ?_)
          intro gq cap wb ob gb _
          have Mb := HMa.out.of_grown gb ob
          have yb9 := Mb.cell X9.out hr2.out
          rw [hA9.out] at yb9
          have db3 := (Mb.below.cell (p := ⟨q, o + k * 4 + 3, none⟩) HQ.out).trans HC3.out
          have HMb := Lib.hid Mb
          have TX := Lib.hid (rtext_any yl D yl.length c w2.heap.size _ _ wb rfl (HRD.out.below Mb.below) hyl Mb.own (by have := HLa.out.2.1; simp; omega) Mb.hbase)
          clear Mb ob gb ya9 da2
          go_wp2_with fail
          refine TX.out.mono ?_
          rintro e wc ⟨vc, rfl, oc, bc⟩
          have Mc := HMb.out.of_below bc oc
          obtain ⟨Ac, cc, rfl⟩ := Mc.form
          obtain ⟨lc, hlc⟩ : ∃ l, l = la ++ [by8 kk] ++ vb yl.length ++ yl := ⟨_, rfl⟩
          rw [← hlc] at Mc
          rw [← hlc]
          have HEc := Lib.hid hlc
          obtain ⟨nc, hnc⟩ : ∃ n, n = lc.length := ⟨_, rfl⟩
          rw [← hnc] at Mc
          rw [← hnc]
          have HNc := Lib.hid hnc
          have HMc := Lib.hid Mc
          clear hlc hnc Mc oc bc TX yb9 db3
          go_wp2
          go_roundw
          case rel =>
            have hE : l7 ++ (es.take (k + 1)).flatMap entB = lc := by
              rw [HES.out, ← List.append_assoc, ← HLk.out, HEc.out, HEa.out]
              simp [entB, vi, byI]
            refine ⟨k + 1, nc, Ac, cc, by go_num, by omega, rfl, ?_⟩
            rw [hE]
            refine Lib.hid ⟨HMc.out, HNc.out, ?_⟩
            have h1 := HLl.out
            have h2 := congrArg List.length HLk.out
            have h3 := HLa.out.2.2
            have h4 := vb_nine (n := yl.length) (by omega)
            rw [HEc.out]
            simp only [List.length_append, List.length_cons, List.length_nil]
            omega
          case measure => simp [intOf]; omega
        · have hkn : k = ne := by omega
          subst hkn
          obtain ⟨HM1, hnn, _⟩ := HM.out
          rw [List.take_of_length_le (by have := HNs.out.1; omega)] at HM1
          have HF := Lib.hid (HFin.out _ _ _ HM1 (by rw [HEN.out, HE7.out, HE6.out, HE5.out, HE4.out, HE3.out]; simp [encB, headB, restB, vi_nat, byI]; rw [← HNs.out.1]))
          clear HM1 hnn
          go_wp2
          go_ret2
          exact ⟨_, rfl, HF.out⟩
    by_cases hk4 : kN = 4
    · subst hk4
      have y8 := HM3.out.cell X8.out hr2.out
      have S4 := Lib.hid (truth_any ok w2.heap.size _ _ w3 HM3.out.own (by have := HL3.out; omega) HM3.out.hbase)
      go_wp2_with fail
      refine S4.out.mono ?_
      rintro e w4 ⟨v4, rfl, o4, g4, _⟩
      have M4 := HM3.out.of_grown g4 o4
      obtain ⟨A4, c4, rfl⟩ := M4.form
      obtain ⟨l4, hl4⟩ : ∃ l, l = l3 ++ [tb ok] := ⟨_, rfl⟩
      rw [← hl4] at M4
      rw [← hl4]
      have HL4 : Hid (l4.length ≤ 14) := by
        show _ ≤ _; rw [hl4]; have := HL3.out; simp; omega
      have HE4 := Lib.hid hl4
      obtain ⟨n4, hn4⟩ : ∃ n, n = l4.length := ⟨_, rfl⟩
      rw [← hn4] at M4
      rw [← hn4]
      have HN4 := Lib.hid hn4
      have HM4 := Lib.hid M4
      clear hl4 hn4 M4 S4 o4 g4 y8
      have y5 := HM4.out.cell X5.out hr2.out
      have S5 := Lib.hid (rvar_any iN w2.heap.size _ _ w4 (by omega) HM4.out.own (by have := HL4.out; omega) HM4.out.hbase)
      go_wp2_with fail
      refine S5.out.mono ?_
      rintro e w5 ⟨v5, rfl, o5, g5, _⟩
      have M5 := HM4.out.of_grown g5 o5
      obtain ⟨A5, c5, rfl⟩ := M5.form
      obtain ⟨l5, hl5⟩ : ∃ l, l = l4 ++ vb iN := ⟨_, rfl⟩
      rw [← hl5] at M5
      rw [← hl5]
      have HL5 : Hid (l5.length ≤ 23) := by
        show _ ≤ _; rw [hl5]; have := vb_nine (n := iN) (by omega); have := HL4.out; simp; omega
      have HE5 := Lib.hid hl5
      obtain ⟨n5, hn5⟩ : ∃ n, n = l5.length := ⟨_, rfl⟩
      rw [← hn5] at M5
      rw [← hn5]
      have HN5 := Lib.hid hn5
      have HM5 := Lib.hid M5
      clear hl5 hn5 M5 S5 o5 g5 y5
      clear y0
      have HF := Lib.hid (HFin.out _ _ _ HM5.out (by rw [HEN.out, HE5.out, HE4.out, HE3.out]; simp [encB, headB, restB, vi_nat, byI]))
      go_wp2
      go_ret2
      exact ⟨_, rfl, HF.out⟩
    have hk5 : kN = 5 := by have := HK.out.le; simp only at this; omega
    subst hk5
    have KP := (kindP_5 rfl).1 HK.out
    simp only at KP
    have HKP := Lib.hid KP
    clear KP
    have hnm5 : nm ≤ 5 := by have := HKP.out.2.2.2.1.2.five; have := HNs.out.2.1; omega
    have hnd6 : nd ≤ 60000 := by have := HKP.out.2.2.2.2.1; have := HNs.out.2.2; omega
    have y5 := HM3.out.cell X5.out hr2.out
    have S4 := Lib.hid (rvar_any iN w2.heap.size _ _ w3 (by omega) HM3.out.own (by have := HL3.out; omega) HM3.out.hbase)
    go_wp2_with fail
    refine S4.out.mono ?_
    rintro e w4 ⟨v4, rfl, o4, g4, _⟩
    have M4 := HM3.out.of_grown g4 o4
    obtain ⟨A4, c4, rfl⟩ := M4.form
    obtain ⟨l4, hl4⟩ : ∃ l, l = l3 ++ vb iN := ⟨_, rfl⟩
    rw [← hl4] at M4
    rw [← hl4]
    have HL4 : Hid (l4.length ≤ 22) := by
      show _ ≤ _; rw [hl4]; have := vb_nine (n := iN) (by omega); have := HL3.out; simp; omega
    have HE4 := Lib.hid hl4
    obtain ⟨n4, hn4⟩ : ∃ n, n = l4.length := ⟨_, rfl⟩
    rw [← hn4] at M4
    rw [← hn4]
    have HN4 := Lib.hid hn4
    have HM4 := Lib.hid M4
    clear hl4 hn4 M4 S4 o4 g4 y5
    have y6 := HM4.out.cell X6.out hr2.out
    have S5 := Lib.hid (rvar_any lN w2.heap.size _ _ w4 (by omega) HM4.out.own (by have := HL4.out; omega) HM4.out.hbase)
    go_wp2_with fail
    refine S5.out.mono ?_
    rintro e w5 ⟨v5, rfl, o5, g5, _⟩
    have M5 := HM4.out.of_grown g5 o5
    obtain ⟨A5, c5, rfl⟩ := M5.form
    obtain ⟨l5, hl5⟩ : ∃ l, l = l4 ++ vb lN := ⟨_, rfl⟩
    rw [← hl5] at M5
    rw [← hl5]
    have HL5 : Hid (l5.length ≤ 31) := by
      show _ ≤ _; rw [hl5]; have := vb_nine (n := lN) (by omega); have := HL4.out; simp; omega
    have HE5 := Lib.hid hl5
    obtain ⟨n5, hn5⟩ : ∃ n, n = l5.length := ⟨_, rfl⟩
    rw [← hn5] at M5
    rw [← hn5]
    have HN5 := Lib.hid hn5
    have HM5 := Lib.hid M5
    clear hl5 hn5 M5 S5 o5 g5 y6
    have y10 := HM5.out.cell X10.out hr2.out
    have S6 := Lib.hid (rvar_any nm w2.heap.size _ _ w5 (by omega) HM5.out.own (by have := HL5.out; omega) HM5.out.hbase)
    go_wp2_with fail
    refine S6.out.mono ?_
    rintro e w6 ⟨v6, rfl, o6, g6, _⟩
    have M6 := HM5.out.of_grown g6 o6
    obtain ⟨A6, c6, rfl⟩ := M6.form
    obtain ⟨l6, hl6⟩ : ∃ l, l = l5 ++ vb nm := ⟨_, rfl⟩
    rw [← hl6] at M6
    rw [← hl6]
    have HL6 : Hid (l6.length ≤ 40) := by
      show _ ≤ _; rw [hl6]; have := vb_nine (n := nm) (by omega); have := HL5.out; simp; omega
    have HE6 := Lib.hid hl6
    obtain ⟨n6, hn6⟩ : ∃ n, n = l6.length := ⟨_, rfl⟩
    rw [← hn6] at M6
    rw [← hn6]
    have HN6 := Lib.hid hn6
    have HM6 := Lib.hid M6
    clear hl6 hn6 M6 S6 o6 g6 y10
    clear y0
    have S0 : Hid (Made w2 w6 w2.heap.size (.slice A6 n6 c6) (l6 ++ (mem.take 0).map byI) ∧ n6 = (l6 ++ (mem.take 0).map byI).length) := by
      simp only [List.take_zero, List.map_nil, List.append_nil]; exact ⟨HM6.out, HN6.out⟩
    go_wp2
    go_loopw [5, 7] (fun s5 s7 wr => ∃ (k nn : Nat) (B : Option Addr) (d : Nat), s7 = .int .i64 k ∧ k ≤ nm ∧ s5 = .slice B nn d ∧ Hid (Made w2 wr w2.heap.size (.slice B nn d) (l6 ++ (mem.take k).map byI) ∧ nn = (l6 ++ (mem.take k).map byI).length)) (fun _ s7 _ => nm - (intOf s7).toNat)
    case atStart => exact ⟨0, n6, A6, c6, rfl, by omega, rfl, S0⟩
    case round =>
      clear S0 HM6
      obtain ⟨k, nn, B, d, rfl, hk, rfl, HM⟩ := hrel
      have y10 := HM.out.1.cell X10.out hr2.out
      by_cases hlt : k < nm
      · have hkl : k < mem.length := by have := HNs.out.2.1; omega
        rcases HRd2.out.rm with h0 | ⟨q, o, hA, hq, hc⟩
        · simp only at h0; rw [h0] at hkl; simp at hkl
        simp only at hc hA
        rw [hA] at y10
        have d0 := (HM.out.1.below.cell (p := ⟨q, o + k, none⟩) hq).trans (hc k hkl)
        have hnode := (HKP.out.2.2.2.1.2 k hkl).1
        obtain ⟨x, hx⟩ := nat_of (show 0 ≤ mem[k] by have := hnode.1; omega)
        have hx5 : x ≤ 5 := by have := hnode.2; omega
        rw [hx] at d0
        have hw8 := wrap8 (show x ≤ 255 by omega)
        have hby : Hid ((x : Int) = ((by8 x).toNat : Int)) := (by8_toNat (by omega)).symm
        have hll : Hid ((l6 ++ (mem.take k).map byI).length + 1 ≤ 70368744177664) := by
          have := HL6.out; show _ ≤ _; simp; omega
        have HS : Hid (l6 ++ (mem.take (k + 1)).map byI = (l6 ++ (mem.take k).map byI) ++ [by8 x]) := by
          show _ = _; rw [List.take_succ_eq_append_getElem hkl, List.map_append, List.append_assoc, List.map_cons, List.map_nil, hx, byI_nat]
        clear hc hx hnode hA
        obtain ⟨lk, hlk⟩ : ∃ l, l = l6 ++ (mem.take k).map byI := ⟨_, rfl⟩
        replace HM := HM.out
        replace HS := HS.out
        replace hll := hll.out
        rw [← hlk] at HM HS hll
        obtain ⟨HM, hnn⟩ := HM
        subst hnn
        replace HM := Lib.hid HM
        replace HS := Lib.hid HS
        replace hll := Lib.hid hll
        clear hlk
        go_wp2_with (at_builtin; refine app_byte wr w2.heap.size _ lk (by8 x) _ hby.out rfl (.tmp 131) (.tmp 138) rfl rfl wr.heap.size rfl rfl HM.out.own hll.out HM.out.hbase ?_)
        intro gq cap w9 O9 hg9 hl9
        have HF := Lib.hid (HM.out.of_grown hg9 O9)
        clear O9 hg9 hl9
        go_wp2
        go_roundw
        case rel => exact ⟨k + 1, lk.length + 1, some ⟨gq, 0, none⟩, cap, by go_num, by omega, rfl, by rw [HS.out]; exact ⟨HF.out, by simp⟩⟩
        case measure => simp [intOf]; omega
      · have hkn : k = nm := by omega
        subst hkn
        have HM' := HM.out
        rw [List.take_of_length_le (by have := HNs.out.2.1; omega)] at HM'
        obtain ⟨lk, hlk⟩ : ∃ l, l = l6 ++ mem.map byI := ⟨_, rfl⟩
        rw [← hlk] at HM'
        obtain ⟨HM2, hnn⟩ := HM'
        have HLk := Lib.hid hlk
        have hll : Hid (lk.length ≤ 100) := by have := HL6.out; have := HNs.out.2.1; show _ ≤ _; rw [hlk]; simp; omega
        have y11 := HM2.cell X11.out hr2.out
        have HMk := Lib.hid HM2
        have hRd : Hid (Rd w2 w2.heap.size a.d dat) := HRd2.out.rd
        have hNd : Hid (nd = dat.length) := HNs.out.2.2
        have TX := Lib.hid (rtext_any dat a.d nd a.dc w2.heap.size _ lk wr hNd.out (hRd.out.below HM2.below) (by omega) HM2.own (by have := hll.out; omega) HM2.hbase)
        clear hlk hnn HM2 HM
        go_wp2_with fail
        refine TX.out.mono ?_
        rintro e wc ⟨vc, rfl, oc, bc⟩
        have Mc := HMk.out.of_below bc oc
        obtain ⟨Ac, cc, rfl⟩ := Mc.form
        obtain ⟨nc, hnc⟩ : ∃ n, n = (lk ++ vb nd ++ dat).length := ⟨_, rfl⟩
        rw [← hnc] at Mc
        rw [← hnc]
        have HF := Lib.hid (HFin.out _ _ _ Mc (by rw [HEN.out, HLk.out, HE6.out, HE5.out, HE4.out, HE3.out]; simp [encB, headB, restB, vi_nat, byI]; rw [← hNd.out, HNs.out.2.1]))
        clear Mc oc bc hnc TX
        go_wp2
        go_ret2
        exact ⟨_, rfl, HF.out⟩

set_option maxHeartbeats 6400000 in
set_option maxRecDepth 100000 in
theorem renc_bad (m : Msg) (a : At) (w : World) (hr : MRd w w.heap.size m a) (hs : Small m) (hno : ¬ RightP m) :
    Calls Try.prog 26 #[msgV m a] w fun e w' => e = .returned (.tuple #[.slice none 0 0, .int .i64 92]) ∧ Below w.heap.size w w' := by
  have hb := below1' w (.cells (msgC m a) 51)
  have IM := Lib.hid (right_any m a _ ((hr.below hb).more hb.size) hs)
  have HNo := Lib.hid hno
  clear hr hs hno
  go_enter Try.func26, Try.ntmps26
  simp only [msgV, msgC] at IM hb ⊢
  go_wp2_with fail
  refine IM.out.mono ?_
  rintro e w2 ⟨⟨b, rfl, hbb⟩, h2⟩
  cases b with
  | true => exact absurd (hbb.1 rfl) HNo.out
  | false =>
    have hb2 := hb.trans (h2.mono hb.size)
    clear hbb h2
    go_wp2
    go_ret2
    exact ⟨rfl, hb2⟩
end Go.Proofs.Ytekgmgiokmbliaa
