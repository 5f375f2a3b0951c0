/-
  Encode, of a message that may be.
-/
import Derived.Test.YtekgmgiokmbliaaEnc
set_option linter.unusedVariables false
namespace Go.Proofs.Ytekgmgiokmbliaa
open Go.RowKit

theorem KindP.le {m : Msg} (h : KindP m) : 1 ≤ m.kind ∧ m.kind ≤ 5 := by
  unfold KindP at h
  omega
theorem Made.of_grown {W wr w' : World} {base : Nat} {v v' : Value} {l l' : List UInt8} (h : Made W wr base v l) (g : wr.grownBy w' v.ownBlock) (o : Own w' base v' l') : Made W w' base v' l' :=
  ⟨o, h.below.trans (grown_below g h.own (Nat.le_refl _) h.hbase), Nat.le_trans h.hbase g.size⟩
theorem Made.form {W wr : World} {base : Nat} {v : Value} {l : List UInt8} (h : Made W wr base v l) : ∃ A c, v = .slice A l.length c := by
  obtain ⟨A, c, hv, _⟩ := h.own.rd
  exact ⟨A, c, hv⟩
theorem Made.alloc {W wr : World} {base : Nat} {v : Value} {l : List UInt8} (h : Made W wr base v l) (o : Obj) : Made W (wr.alloc o) base v l := ⟨Own.alloc h.own o, h.below.alloc h.hbase o, Nat.le_trans h.hbase (by simp)⟩
theorem vbs_1 (a : Nat) : vbs [a] = vb a := by simp [vbs]
theorem vbs_2 (a b : Nat) : vbs [a, b] = vb a ++ vb b := by simp [vbs]
theorem vbs_3 (a b c : Nat) : vbs [a, b, c] = vb a ++ vb b ++ vb c := by simp [vbs]
theorem vbs_4 (a b c d : Nat) : vbs [a, b, c, d] = vb a ++ vb b ++ vb c ++ vb d := by simp [vbs]
theorem Small.kept {m : Msg} (h : Small m) : m.entries.length ≤ 1048576 ∧ m.members.length ≤ 1048576 ∧ m.data.length ≤ 1048576 ∧ ∀ e ∈ m.entries, e.data.length ≤ 1048576 := ⟨h.se, h.sm, h.sd, h.sed⟩



set_option maxHeartbeats 6400000 in
set_option maxRecDepth 100000 in
theorem enc_ok (m : Msg) (a : At) (w : World) (hr : MRd w w.heap.size m a) (hs : Small m) (hyes : RightP m) :
    Calls Try.prog 25 #[msgV m a] w fun e w' => ∃ v, e = .returned (.tuple #[v, .int .i64 0]) ∧ Own w' w.heap.size v (encB m) ∧ Below w.heap.size w w' := by
  have hb := below1' w (.cells (msgC m a) 51)
  have IM := Lib.hid (ismsg_any m a _ ((hr.below hb).more hb.size) hs)
  have HRd := Lib.hid ((hr.below hb).more hb.size)
  have HK := Lib.hid hyes.2.2
  have hkl := hyes.2.2.le
  have HS := Lib.hid hs.kept
  obtain ⟨⟨hg1, hg2⟩, ⟨hf1, hf2⟩, ⟨hd1, hd2⟩, ht1, ht2⟩ := hyes.1
  obtain ⟨⟨hi1, hi2⟩, ⟨hl1, hl2⟩, hc1, hc2⟩ := hyes.2.1
  obtain ⟨P, hP⟩ : ∃ P, P = RightP m := ⟨_, rfl⟩
  have HYes : Hid P := by rw [hP]; exact hyes
  obtain ⟨EN, hEN⟩ : ∃ E, E = encB m := ⟨_, rfl⟩
  obtain ⟨VV, hVV⟩ : ∃ V, V = msgV m a := ⟨_, rfl⟩
  rw [← hP, ← hVV] at IM
  rw [← hEN, ← hVV]
  obtain ⟨kind, group, frm, dst, term, index, logTerm, commit, ok, es, mem, dat⟩ := m
  simp only at hg1 hg2 hf1 hf2 hd1 hd2 ht1 ht2 hi1 hi2 hl1 hl2 hc1 hc2 hkl
  obtain ⟨kN, rfl⟩ := nat_of (show 0 ≤ kind by omega)
  obtain ⟨gN, rfl⟩ := nat_of (show 0 ≤ group by omega)
  obtain ⟨fN, rfl⟩ := nat_of (show 0 ≤ frm by omega)
  obtain ⟨dN, rfl⟩ := nat_of (show 0 ≤ dst by omega)
  obtain ⟨tN, rfl⟩ := nat_of (show 0 ≤ term by omega)
  obtain ⟨iN, rfl⟩ := nat_of hi1
  obtain ⟨lN, rfl⟩ := nat_of hl1
  obtain ⟨cN, rfl⟩ := nat_of hc1
  have hVV' : VV = .agg #[.int .i64 (kN : Nat), .int .i64 (gN : Nat), .int .i64 (fN : Nat), .int .i64 (dN : Nat), .int .i64 (tN : Nat), .int .i64 (iN : Nat), .int .i64 (lN : Nat), .int .i64 (cN : Nat), .bool ok, .slice a.e es.length a.ec, .slice a.m mem.length a.mc, .slice a.d dat.length a.dc] := hVV
  simp only [msgC] at hb IM HRd
  have hk255 : kN ≤ 5 := by omega
  have hgN : gN ≤ 255 := by omega
  have hfN : fN ≤ 5 := by omega
  have hdN : dN ≤ 5 := by omega
  have htN : tN ≤ 9007199254740991 := by omega
  have hiN : iN ≤ 9007199254740991 := by omega
  have hlN : lN ≤ 9007199254740991 := by omega
  have hcN : cN ≤ 9007199254740991 := by omega
  clear hr hs hyes hP hVV hg1 hg2 hf1 hf2 hd1 hd2 ht1 ht2 hi1 hi2 hl1 hl2 hc1 hc2 hkl
  obtain ⟨ne, hne⟩ : ∃ n, n = es.length := ⟨_, rfl⟩
  obtain ⟨nm, hnm⟩ : ∃ n, n = mem.length := ⟨_, rfl⟩
  obtain ⟨nd, hnd⟩ : ∃ n, n = dat.length := ⟨_, rfl⟩
  rw [← hne, ← hnm, ← hnd] at hVV'
  rw [← hne, ← hnm, ← hnd] at hb IM HRd
  have HNs := Lib.hid (And.intro hne (And.intro hnm hnd))
  subst hVV'
  have HEN := Lib.hid hEN
  clear hne hnm hnd hEN
  have B := fun (j : Nat) (x : Value) (h : (#[.int .i64 (kN : Nat), .int .i64 (gN : Nat), .int .i64 (fN : Nat), .int .i64 (dN : Nat), .int .i64 (tN : Nat), .int .i64 (iN : Nat), .int .i64 (lN : Nat), .int .i64 (cN : Nat), .bool ok, .slice a.e ne a.ec, .slice a.m nm a.mc, .slice a.d nd a.dc] : Array Value)[j]? = some x) => Cell.new w #[.int .i64 (kN : Nat), .int .i64 (gN : Nat), .int .i64 (fN : Nat), .int .i64 (dN : Nat), .int .i64 (tN : Nat), .int .i64 (iN : Nat), .int .i64 (lN : Nat), .int .i64 (cN : Nat), .bool ok, .slice a.e ne a.ec, .slice a.m nm a.mc, .slice a.d nd a.dc] 51 j x h
  have B0 := B 0 _ rfl
  have B1 := B 1 _ rfl
  have B2 := B 2 _ rfl
  have B3 := B 3 _ rfl
  have B4 := B 4 _ rfl
  have B5 := B 5 _ rfl
  have B6 := B 6 _ rfl
  have B7 := B 7 _ rfl
  have B8 := B 8 _ rfl
  have B9 := B 9 _ rfl
  have B10 := B 10 _ rfl
  have B11 := B 11 _ rfl
  clear B
  go_enter Try.func25, Try.ntmps25
  go_wp2_with fail
  refine IM.out.mono ?_
  rintro e w2 ⟨⟨b, rfl, hbb⟩, h2⟩
  cases b with
  | false => have := hbb.2 HYes.out; cases this
  | true =>
    have X0 := (B0.keep h2).1
    have X1 := (B1.keep h2).1
    have X2 := (B2.keep h2).1
    have X3 := (B3.keep h2).1
    have X4 := (B4.keep h2).1
    have X5 := Lib.hid (B5.keep h2).1
    have X6 := Lib.hid (B6.keep h2).1
    have X7 := Lib.hid (B7.keep h2).1
    have X8 := Lib.hid (B8.keep h2).1
    have X9 := Lib.hid (B9.keep h2).1
    have X10 := Lib.hid (B10.keep h2).1
    have X11 := Lib.hid (B11.keep h2).1
    have hb2 := Lib.hid (hb.trans (h2.mono hb.size))
    have HRd2 := Lib.hid ((HRd.out.below h2).more h2.size)
    have hr2 : Hid (w.heap.size < w2.heap.size) := by have := (B0.keep h2).lt; exact this
    obtain ⟨r, hrr⟩ : ∃ r, r = w.heap.size := ⟨_, rfl⟩
    have hX0 : Hid (w2.cell? ⟨r, 0, none⟩ = some (.int .i64 (kN : Nat))) := by rw [hrr]; exact X0
    rw [← hrr] at X0 X1 X2 X3 X4 X5 X6 X7 X8 X9 X10 X11 hr2
    rw [← hrr]
    have HRR := Lib.hid hrr
    clear hrr hbb h2 hb IM HRd B0 B1 B2 B3 B4 B5 B6 B7 B8 B9 B10 B11
    have M0 : Made w2 (w2.alloc (.cells #[.int .u8 (kN : Nat), .int .u8 (gN : Nat), .int .u8 (fN : Nat), .int .u8 (dN : Nat)] 5)) w2.heap.size (.slice (some ⟨w2.heap.size, 0, none⟩) 4 4) [by8 kN, by8 gN, by8 fN, by8 dN] :=
      ⟨own_lit w2 [by8 kN, by8 gN, by8 fN, by8 dN] _ (by simp [bv8 (show kN ≤ 255 by omega), bv8 hgN, bv8 (show fN ≤ 255 by omega), bv8 (show dN ≤ 255 by omega)]) (by simp), below1' w2 _, by simp⟩
    have CT := counts_lit M0 [tN] #[.int .i64 (tN : Nat)] 1 rfl rfl (by omega) (fun x hx => by rw [List.mem_singleton.1 hx]; omega) (by simp)
    simp only [World.size_alloc] at CT
    replace CT := Lib.hid CT
    have w1 := wrap8 (show kN ≤ 255 by omega)
    have w2' := wrap8 hgN
    have w3' := wrap8 (show fN ≤ 255 by omega)
    have w4' := wrap8 (show dN ≤ 255 by omega)
    have z4 := M0.cell X4 hr2.out
    clear M0
    go_wp2_with fail
    refine CT.out.mono ?_
    rintro e w3 ⟨A3, c3, rfl, M3, _⟩
    rw [vbs_1] at M3
    rw [vbs_1]
    obtain ⟨l3, hl3⟩ : ∃ l, l = [by8 kN, by8 gN, by8 fN, by8 dN] ++ vb tN := ⟨_, rfl⟩
    rw [← hl3] at M3
    rw [← hl3]
    have HL3 : Hid (l3.length ≤ 13) := by
      show _ ≤ _; rw [hl3]; have := vb_nine (n := tN) (by omega); simp; omega
    have HE3 := Lib.hid hl3
    obtain ⟨n3, hn3⟩ : ∃ n, n = l3.length := ⟨_, rfl⟩
    rw [← hn3] at M3
    rw [← hn3]
    have HN3 := Lib.hid hn3
    have HM3 := Lib.hid M3
    have y0 := M3.cell X0 hr2.out
    have HFin : Hid (∀ w' v l, Made w2 w' w2.heap.size v l → l = EN → Own w' w.heap.size v EN ∧ Below w.heap.size w w') := by
      intro w' v l hM hl
      have hs2 := hb2.out.size
      exact ⟨hl ▸ Own.mono hM.own hs2, hb2.out.trans (hM.below.mono hs2)⟩
    clear hl3 hn3 M3 CT z4 X0 X1 X2 X3 X4 w1 w2' w3' w4'
    by_cases hk1 : kN = 1
    · subst hk1
      have y5 := HM3.out.cell X5.out hr2.out
      have y6 := HM3.out.cell X6.out hr2.out
      have C1 := Lib.hid (counts_lit HM3.out [iN, lN] #[.int .i64 (iN : Nat), .int .i64 (lN : Nat)] 2 rfl rfl (by omega) (fun x hx => by simp at hx; omega) (by have := HL3.out; omega))
      go_wp2_with fail
      refine C1.out.mono ?_
      rintro e w4 ⟨A4, c4, rfl, M4, _⟩
      rw [vbs_2] at M4
      rw [vbs_2]
      obtain ⟨n4, hn4⟩ : ∃ n, n = (l3 ++ (vb iN ++ vb lN)).length := ⟨_, rfl⟩
      rw [← hn4] at M4
      rw [← hn4]
      have HF := Lib.hid (HFin.out _ _ _ M4 (by rw [HEN.out, HE3.out]; simp [encB, headB, restB, vi_nat, byI]))
      clear M4 hn4 y0 y5 y6 C1
      go_wp2
      go_ret2
      exact ⟨_, rfl, HF.out⟩
    by_cases hk2 : kN = 2
    · subst hk2
      have y8 := HM3.out.cell X8.out hr2.out
      have C1 := Lib.hid (putbool_any ok _ _ _ w3 HM3.out.own (by have := HL3.out; omega) HM3.out.hbase)
      go_wp2_with fail
      refine C1.out.mono ?_
      rintro e w4 ⟨v4, rfl, o4, g4, _⟩
      have M4 := HM3.out.of_grown g4 o4
      obtain ⟨A4, c4, rfl⟩ := M4.form
      obtain ⟨n4, hn4⟩ : ∃ n, n = (l3 ++ [tb ok]).length := ⟨_, rfl⟩
      rw [← hn4] at M4
      rw [← hn4]
      have HF := Lib.hid (HFin.out _ _ _ M4 (by rw [HEN.out, HE3.out]; simp [encB, headB, restB, vi_nat, byI]))
      clear M4 hn4 y0 y8 C1 o4 g4
      go_wp2
      go_ret2
      exact ⟨_, rfl, HF.out⟩
    by_cases hk3 : kN = 3
    · subst hk3
      have KP := (kindP_3 rfl).1 HK.out
      simp only at KP
      have HKP := Lib.hid KP
      have y5 := HM3.out.cell X5.out hr2.out
      have y6 := HM3.out.cell X6.out hr2.out
      have y7 := HM3.out.cell X7.out hr2.out
      have y9 := HM3.out.cell X9.out hr2.out
      have hne64 : ne ≤ 64 := by have h1 : es.length ≤ 64 := HKP.out.2.2.2.1; have := HNs.out.1; omega
      have C1 := Lib.hid (counts_lit HM3.out [iN, lN, cN, ne] #[.int .i64 (iN : Nat), .int .i64 (lN : Nat), .int .i64 (cN : Nat), .int .i64 (ne : Nat)] 4 rfl rfl (by omega) (fun x hx => by simp at hx; omega) (by have := HL3.out; omega))
      clear KP
      go_wp2_with fail
      refine C1.out.mono ?_
      rintro e w4 ⟨A4, c4, rfl, M4, _⟩
      rw [vbs_4] at M4
      rw [vbs_4]
      obtain ⟨l4, hl4⟩ : ∃ l, l = l3 ++ (vb iN ++ vb lN ++ vb cN ++ vb ne) := ⟨_, rfl⟩
      rw [← hl4] at M4
      rw [← hl4]
      have HL4 : Hid (l4.length ≤ 60) := by
        show _ ≤ _; rw [hl4]; have := vb_nine (n := iN) (by omega); have := vb_nine (n := lN) (by omega); have := vb_nine (n := cN) (by omega); have := vb_nine (n := ne) (by omega); have := HL3.out; simp; omega
      have HE4 := Lib.hid hl4
      obtain ⟨n4, hn4⟩ : ∃ n, n = l4.length := ⟨_, rfl⟩
      rw [← hn4] at M4
      rw [← hn4]
      have HM4 := Lib.hid M4
      have S0 : Hid (Made w2 w4 w2.heap.size (.slice A4 n4 c4) (l4 ++ (es.take 0).flatMap entB) ∧ n4 = (l4 ++ (es.take 0).flatMap entB).length ∧ (l4 ++ (es.take 0).flatMap entB).length ≤ 60 + 0 * 1048676) := by
        simp only [List.take_zero, List.flatMap_nil, List.append_nil]; exact ⟨M4, hn4, HL4.out⟩
      clear hl4 hn4 y5 y6 y7 y9 C1
      have y9 := HM4.out.cell X9.out hr2.out
      clear M4
      go_wp2
      go_loopw [4, 63] (fun s4 s63 wr => ∃ (k nn : Nat) (B : Option Addr) (d : Nat), s63 = .int .i64 k ∧ k ≤ ne ∧ s4 = .slice B nn d ∧ Hid (Made w2 wr w2.heap.size (.slice B nn d) (l4 ++ (es.take k).flatMap entB) ∧ nn = (l4 ++ (es.take k).flatMap entB).length ∧ (l4 ++ (es.take k).flatMap entB).length ≤ 60 + k * 1048676)) (fun _ s63 _ => ne - (intOf s63).toNat)
      case atStart => exact ⟨0, n4, A4, c4, rfl, by omega, rfl, S0⟩
      case round =>
        clear S0 HM4 y9
        obtain ⟨k, nn, B, d, rfl, hk, rfl, HM⟩ := hrel
        by_cases hlt : k < ne
        · have hkl : k < es.length := by have := HNs.out.1; omega
          rcases HRd2.out.re with h0 | ⟨q, o, hA, hq, hc⟩
          · simp only at h0; rw [h0] at hkl; simp at hkl
          simp only at hc hA
          rw [hA]
          obtain ⟨D, c, c0, c1, c2, c3, hrd⟩ := hc k hkl
          have hge := HKP.out.2.2.2.2 k hkl
          simp only [GoodE] at hge
          have hsm := HS.out.2.2.2 _ (List.getElem_mem hkl)
          have HES : Hid ((es.take (k + 1)).flatMap entB = (es.take k).flatMap entB ++ entB es[k]) := by
            show _ = _; rw [List.take_succ_eq_append_getElem hkl, List.flatMap_append]; simp
          obtain ⟨y, hy⟩ : ∃ y, y = es[k] := ⟨_, rfl⟩
          replace HES := HES.out
          rw [← hy] at c0 c1 c2 c3 hrd hsm hge HES
          replace HES := Lib.hid HES
          obtain ⟨yi, yt, yk, yl⟩ := y
          simp only at c0 c1 c2 c3 hrd hsm hge
          obtain ⟨⟨⟨ht1, ht2⟩, hx1, hkd⟩, hx2, hx3⟩ := hge
          clear hx1 hx2 hx3
          simp only at ht1 ht2 hkd
          obtain ⟨tk, rfl⟩ := nat_of (show 0 ≤ yt by omega)
          obtain ⟨kk, rfl⟩ := nat_of (show 0 ≤ yk by omega)
          have hkk : kk ≤ 3 := by omega
          have htk : tk ≤ 9007199254740991 := by omega
          have hyl : yl.length ≤ 1048576 := hsm
          obtain ⟨lk, hlk⟩ : ∃ l, l = l4 ++ (es.take k).flatMap entB := ⟨_, rfl⟩
          replace HM := HM.out
          rw [← hlk] at HM
          obtain ⟨HM, hnn, hll⟩ := HM
          have HLk := Lib.hid hlk
          have HNn := Lib.hid hnn
          have HLl := Lib.hid hll
          have d0 := (HM.below.cell (p := ⟨q, o + k * 4, none⟩) hq).trans c0
          have d1 := (HM.below.cell (p := ⟨q, o + k * 4 + 1, none⟩) hq).trans c1
          have d2 := (HM.below.cell (p := ⟨q, o + k * 4 + 2, none⟩) hq).trans c2
          have d3 := (HM.below.cell (p := ⟨q, o + k * 4 + 3, none⟩) hq).trans c3
          have HRD := Lib.hid hrd
          obtain ⟨U, hU⟩ : ∃ U, U = wr.alloc (.cells #[.int .i64 yi, .int .i64 (tk : Nat), .int .i64 (kk : Nat), .slice D yl.length c] 74) := ⟨_, rfl⟩
          obtain ⟨u, hu⟩ : ∃ u, u = wr.heap.size := ⟨_, rfl⟩
          have MU : Made w2 U w2.heap.size (.slice B nn d) lk := by rw [hU]; exact HM.alloc _
          have V1 : U.cell? ⟨u, 1, none⟩ = some (.int .i64 (tk : Nat)) := by rw [hU, hu]; exact (Cell.new wr _ 74 1 _ rfl).1
          have V2 : U.cell? ⟨u, 2, none⟩ = some (.int .i64 (kk : Nat)) := by rw [hU, hu]; exact (Cell.new wr _ 74 2 _ rfl).1
          have V3 : U.cell? ⟨u, 3, none⟩ = some (.slice D yl.length c) := by rw [hU, hu]; exact (Cell.new wr _ 74 3 _ rfl).1
          have hvu : Hid ((Value.slice B nn d).ownBlock ≠ some u) := by rw [hu]; exact HM.ne
          have huU : u < U.heap.size := by rw [hU, hu]; simp
          have hu2 : w2.heap.size ≤ u := by rw [hu]; exact HM.hbase
          have HU := Lib.hid hU
          have HUu := Lib.hid hu
          clear hc c0 c1 c2 c3 hrd hsm hy hA hkd hlk hnn hll HM hU hu
          go_wp2_with fail
          rw [← HU.out, ← HUu.out]
          have hw8 := wrap8 (show kk ≤ 255 by omega)
          have hbb : bv (by8 kk) = .int .u8 (kk : Nat) := bv8 (by omega)
          have MUd := Lib.hid MU.drew
          have MUI := MU.alloc (.cells #[.int .i64 (tk : Nat)] 3)
          have MUB := MU.alloc (.cells #[.int .u8 (kk : Nat)] 5)
          have MUBd := Lib.hid MUB.drew
          have MUIBd := Lib.hid (MUI.alloc (.cells #[.int .u8 (kk : Nat)] 5)).drew
          have g2a : ∀ (O : Obj) i x, U.cell? ⟨u, i, none⟩ = some x → (U.alloc O).cell? ⟨u, i, none⟩ = some x := fun O i x h => (((Below.refl U.heap.size U).alloc (Nat.le_refl _) O).cell (p := ⟨u, i, none⟩) huU).trans h
          have V1B := g2a (.cells #[.int .u8 (kk : Nat)] 5) 1 _ V1
          have V2I := g2a (.cells #[.int .i64 (tk : Nat)] 3) 2 _ V2
          have V3I := g2a (.cells #[.int .i64 (tk : Nat)] 3) 3 _ V3
          have V3B := g2a (.cells #[.int .u8 (kk : Nat)] 5) 3 _ V3
          have g2b : ∀ (O : Obj) i x, (U.alloc (.cells #[.int .i64 (tk : Nat)] 3)).cell? ⟨u, i, none⟩ = some x → ((U.alloc (.cells #[.int .i64 (tk : Nat)] 3)).alloc O).cell? ⟨u, i, none⟩ = some x := fun O i x h => (((Below.refl (U.alloc (.cells #[.int .i64 (tk : Nat)] 3)).heap.size (U.alloc (.cells #[.int .i64 (tk : Nat)] 3))).alloc (Nat.le_refl _) O).cell (p := ⟨u, i, none⟩) (by show u < (U.alloc (.cells #[.int .i64 (tk : Nat)] 3)).heap.size; simp; omega)).trans h
          have g2c : ∀ (O : Obj) i x, (U.alloc (.cells #[.int .u8 (kk : Nat)] 5)).cell? ⟨u, i, none⟩ = some x → ((U.alloc (.cells #[.int .u8 (kk : Nat)] 5)).alloc O).cell? ⟨u, i, none⟩ = some x := fun O i x h => (((Below.refl (U.alloc (.cells #[.int .u8 (kk : Nat)] 5)).heap.size (U.alloc (.cells #[.int .u8 (kk : Nat)] 5))).alloc (Nat.le_refl _) O).cell (p := ⟨u, i, none⟩) (by show u < (U.alloc (.cells #[.int .u8 (kk : Nat)] 5)).heap.size; simp; omega)).trans h
          have W3IB : Hid (((U.alloc (.cells #[.int .i64 (tk : Nat)] 3)).alloc (.cells #[.int .u8 (kk : Nat)] 5)).drew.cell? ⟨u, 3, none⟩ = some (.slice D yl.length c)) := g2b (.cells #[.int .u8 (kk : Nat)] 5) 3 _ V3I
          have W3BI : Hid (((U.alloc (.cells #[.int .u8 (kk : Nat)] 5)).alloc (.cells #[.int .i64 (tk : Nat)] 3)).drew.cell? ⟨u, 3, none⟩ = some (.slice D yl.length c)) := g2c (.cells #[.int .i64 (tk : Nat)] 3) 3 _ V3B
          have W2I : Hid ((U.alloc (.cells #[.int .i64 (tk : Nat)] 3)).drew.cell? ⟨u, 2, none⟩ = some (.int .i64 (kk : Nat))) := V2I
          have W3I : Hid ((U.alloc (.cells #[.int .i64 (tk : Nat)] 3)).drew.cell? ⟨u, 3, none⟩ = some (.slice D yl.length c)) := V3I
          have hI : Hid (∀ x ∈ [tk], x ≤ 9223372036854775807) := fun x hx => by rw [List.mem_singleton.1 hx]; omega
          have hlk : Hid (lk.length ≤ 70368744170000) := by have h1 := HLl.out; have h2 := congrArg List.length HLk.out; show _ ≤ _; omega
          have hlk5 : Hid ((lk ++ vbs [tk]).length + 1 ≤ 70368744177664) := by have h1 := hlk.out; have h2 := vb_nine (n := tk) (by omega); show _ ≤ _; rw [vbs_1, List.length_append]; omega
          have uI : Hid (u < (U.alloc (.cells #[.int .i64 (tk : Nat)] 3)).drew.heap.size) := by show u < (U.alloc (.cells #[.int .i64 (tk : Nat)] 3)).heap.size; simp; omega
          have uIB : Hid (u < ((U.alloc (.cells #[.int .i64 (tk : Nat)] 3)).alloc (.cells #[.int .u8 (kk : Nat)] 5)).drew.heap.size) := by show u < ((U.alloc (.cells #[.int .i64 (tk : Nat)] 3)).alloc (.cells #[.int .u8 (kk : Nat)] 5)).heap.size; simp; omega
          have uBI : Hid (u < ((U.alloc (.cells #[.int .u8 (kk : Nat)] 5)).alloc (.cells #[.int .i64 (tk : Nat)] 3)).drew.heap.size) := by show u < ((U.alloc (.cells #[.int .u8 (kk : Nat)] 5)).alloc (.cells #[.int .i64 (tk : Nat)] 3)).heap.size; simp; omega
          have RBI : Hid (Rd ((U.alloc (.cells #[.int .u8 (kk : Nat)] 5)).alloc (.cells #[.int .i64 (tk : Nat)] 3)).drew ((U.alloc (.cells #[.int .u8 (kk : Nat)] 5)).alloc (.cells #[.int .i64 (tk : Nat)] 3)).drew.heap.size (some ⟨U.heap.size, 0, none⟩) [by8 kk]) := by
            have := rd_lit U [by8 kk] #[.int .u8 (kk : Nat)] (by simp [hbb])
            exact ((this.more (B' := (U.alloc (.cells #[.int .u8 (kk : Nat)] 5)).heap.size) (by simp)).below ((Below.refl (U.alloc (.cells #[.int .u8 (kk : Nat)] 5)).heap.size (U.alloc (.cells #[.int .u8 (kk : Nat)] 5))).alloc (Nat.le_refl _) (.cells #[.int .i64 (tk : Nat)] 3))).more (by show _ ≤ (((U.alloc (.cells #[.int .u8 (kk : Nat)] 5)).alloc (.cells #[.int .i64 (tk : Nat)] 3)).heap.size); simp)
          have RIB : Hid (Rd ((U.alloc (.cells #[.int .i64 (tk : Nat)] 3)).alloc (.cells #[.int .u8 (kk : Nat)] 5)).drew ((U.alloc (.cells #[.int .i64 (tk : Nat)] 3)).alloc (.cells #[.int .u8 (kk : Nat)] 5)).drew.heap.size (some ⟨U.heap.size + 1, 0, none⟩) [by8 kk]) := by
            have := rd_lit (U.alloc (.cells #[.int .i64 (tk : Nat)] 3)) [by8 kk] #[.int .u8 (kk : Nat)] (by simp [hbb])
            have h1 : (U.alloc (.cells #[.int .i64 (tk : Nat)] 3)).heap.size = U.heap.size + 1 := by simp
            rw [h1] at this
            exact this.more (by show _ ≤ (((U.alloc (.cells #[.int .i64 (tk : Nat)] 3)).alloc (.cells #[.int .u8 (kk : Nat)] 5)).heap.size); simp)
          have RI2 : Hid (RdI ((U.alloc (.cells #[.int .i64 (tk : Nat)] 3)).alloc (.cells #[.int .u8 (kk : Nat)] 5)).drew ((U.alloc (.cells #[.int .i64 (tk : Nat)] 3)).alloc (.cells #[.int .u8 (kk : Nat)] 5)).drew.heap.size (some ⟨U.heap.size, 0, none⟩) ([tk].map natI)) := by
            have h0 := (rdI_lit U [natI tk] #[.int .i64 (tk : Nat)] rfl).more (B' := (U.alloc (.cells #[.int .i64 (tk : Nat)] 3)).heap.size) (by simp)
            exact (h0.below ((Below.refl (U.alloc (.cells #[.int .i64 (tk : Nat)] 3)).heap.size (U.alloc (.cells #[.int .i64 (tk : Nat)] 3))).alloc (Nat.le_refl _) (.cells #[.int .u8 (kk : Nat)] 5))).more (by show _ ≤ (((U.alloc (.cells #[.int .i64 (tk : Nat)] 3)).alloc (.cells #[.int .u8 (kk : Nat)] 5)).heap.size); simp)
          have nU : Hid ((Value.slice B nn d).ownBlock ≠ some U.heap.size) := MU.ne
          have nUI : Hid ((Value.slice B nn d).ownBlock ≠ some (U.heap.size + 1)) := by have := MUI.ne; exact Lib.hid (by simpa using this)
          have HMU := Lib.hid MU
          have fr5 : Hid (∀ w5 : World, Rd (w5.alloc (.cells #[.int .u8 (kk : Nat)] 5)) (w5.alloc (.cells #[.int .u8 (kk : Nat)] 5)).heap.size (some ⟨w5.heap.size, 0, none⟩) [by8 kk]) := fun w5 => by
            have := rd_lit w5 [by8 kk] #[.int .u8 (kk : Nat)] (by simp [hbb])
            exact this.more (by simp)
          have CL1 := Lib.hid (show Calls Try.prog 41 #[.slice B nn d, .slice (some ⟨U.heap.size, 0, none⟩) 1 1] (U.alloc (.cells #[.int .i64 (tk : Nat)] 3)).drew (fun e w' => ∃ A c, e = .returned (.slice A (lk ++ vbs [tk]).length c) ∧ Made w2 w' w2.heap.size (.slice A (lk ++ vbs [tk]).length c) (lk ++ vbs [tk]) ∧ (U.alloc (.cells #[.int .i64 (tk : Nat)] 3)).drew.grownBy w' (Value.slice B nn d).ownBlock ∧ Lies (U.alloc (.cells #[.int .i64 (tk : Nat)] 3)).drew (.slice B nn d) (.slice A (lk ++ vbs [tk]).length c)) from counts_lit MUd.out [tk] #[.int .i64 (tk : Nat)] 1 rfl rfl (by omega) hI.out hlk.out)
          have CL2 := Lib.hid (show Calls Try.prog 41 #[.slice B nn d, .slice (some ⟨U.heap.size, 0, none⟩) 1 1] ((U.alloc (.cells #[.int .i64 (tk : Nat)] 3)).alloc (.cells #[.int .u8 (kk : Nat)] 5)).drew (fun e w' => ∃ A c, e = .returned (.slice A (lk ++ vbs [tk]).length c) ∧ Made w2 w' w2.heap.size (.slice A (lk ++ vbs [tk]).length c) (lk ++ vbs [tk]) ∧ ((U.alloc (.cells #[.int .i64 (tk : Nat)] 3)).alloc (.cells #[.int .u8 (kk : Nat)] 5)).drew.grownBy w' (Value.slice B nn d).ownBlock ∧ Lies ((U.alloc (.cells #[.int .i64 (tk : Nat)] 3)).alloc (.cells #[.int .u8 (kk : Nat)] 5)).drew (.slice B nn d) (.slice A (lk ++ vbs [tk]).length c)) from (counts_any [tk] (some ⟨U.heap.size, 0, none⟩) 1 1 w2.heap.size (.slice B nn d) lk ((U.alloc (.cells #[.int .i64 (tk : Nat)] 3)).alloc (.cells #[.int .u8 (kk : Nat)] 5)).drew rfl (by omega) hI.out RI2.out (apart_of nU.out) MUIBd.out.own hlk.out MUIBd.out.hbase).mono (by
            rintro e w5 ⟨v5, rfl, o5, g5, li5⟩
            have M5 := MUIBd.out.of_grown g5 o5
            obtain ⟨A5, c5, rfl⟩ := M5.form
            exact ⟨A5, c5, rfl, M5, g5, li5⟩))
          have hUB1 : (U.alloc (.cells #[.int .u8 (kk : Nat)] 5)).heap.size = U.heap.size + 1 := by simp
          have CL3 := Lib.hid (show Calls Try.prog 41 #[.slice B nn d, .slice (some ⟨(U.alloc (.cells #[.int .u8 (kk : Nat)] 5)).heap.size, 0, none⟩) 1 1] ((U.alloc (.cells #[.int .u8 (kk : Nat)] 5)).alloc (.cells #[.int .i64 (tk : Nat)] 3)).drew (fun e w' => ∃ A c, e = .returned (.slice A (lk ++ vbs [tk]).length c) ∧ Made w2 w' w2.heap.size (.slice A (lk ++ vbs [tk]).length c) (lk ++ vbs [tk]) ∧ ((U.alloc (.cells #[.int .u8 (kk : Nat)] 5)).alloc (.cells #[.int .i64 (tk : Nat)] 3)).drew.grownBy w' (Value.slice B nn d).ownBlock ∧ Lies ((U.alloc (.cells #[.int .u8 (kk : Nat)] 5)).alloc (.cells #[.int .i64 (tk : Nat)] 3)).drew (.slice B nn d) (.slice A (lk ++ vbs [tk]).length c)) from counts_lit MUBd.out [tk] #[.int .i64 (tk : Nat)] 1 rfl rfl (by omega) hI.out hlk.out)
          replace CL3 := CL3.out
          rw [hUB1] at CL3
          replace CL3 := Lib.hid CL3
          clear g2a g2b g2c MU MUI MUB V3I V3B hbb hUB1
          go_region_law (first
            | (go_simp; go_at_call 41; with_reducible refine CL1.out.mono ?_; rintro e w5 ⟨A5, c5, rfl, M5, g5, li5⟩; obtain ⟨n5, hn5⟩ : ∃ n, n = (lk ++ vbs [tk]).length := ⟨_, rfl⟩; rw [← hn5] at M5; rw [← hn5]; rw [← hn5] at li5; have v2 := cell_grown W2I.out uI.out hvu.out g5; have v3 := Lib.hid (cell_grown W3I.out uI.out hvu.out g5); have hv5 := Lib.hid (lies_ne li5 hvu.out uI.out); have u5 := Lib.hid (Nat.lt_of_lt_of_le uI.out g5.size); have M5a := M5.alloc (.cells #[.int .u8 (kk : Nat)] 5); have v3a := Lib.hid ((((Below.refl w5.heap.size w5).alloc (Nat.le_refl _) (.cells #[.int .u8 (kk : Nat)] 5)).cell (p := ⟨u, 3, none⟩) u5.out).trans v3.out); clear hn5 g5 li5)
            | (go_simp; go_at_call 41; with_reducible refine CL3.out.mono ?_; rintro e w5 ⟨A5, c5, rfl, M5, g5, li5⟩; obtain ⟨n5, hn5⟩ : ∃ n, n = (lk ++ vbs [tk]).length := ⟨_, rfl⟩; rw [← hn5] at M5; rw [← hn5]; rw [← hn5] at li5; have v3 := Lib.hid (cell_grown W3BI.out uBI.out hvu.out g5); have hv5 := Lib.hid (lies_ne li5 hvu.out uBI.out); have u5 := Lib.hid (Nat.lt_of_lt_of_le uBI.out g5.size); have RB5 := Rd.grownOut RBI.out g5 (fun q o e _ => apart_of nU.out q o e); clear hn5 g5 li5)
            | (refine step_app_byte w5 w2.heap.size (.slice A5 n5 c5) (lk ++ vbs [tk]) (by8 kk) _ rfl (.tmp 71) (.tmp 75) rfl rfl rfl M5.own RB5 hlk5.out M5.hbase ?_; intro gq cap w6 o6 g6 li6; have M6 := M5.of_grown g6 o6; have v6 := Lib.hid (cell_grown v3.out u5.out hv5.out g6); have hv6 := Lib.hid (lies_ne li6 hv5.out u5.out); have u6 := Lib.hid (Nat.lt_of_lt_of_le u5.out g6.size); obtain ⟨n6, hn6⟩ : ∃ n, n = (lk ++ vbs [tk]).length + 1 := ⟨_, rfl⟩; rw [← hn6] at M6 hv6; rw [← hn6]; clear hn6 o6 g6 li6 M5 RB5 v3 hv5 u5)
            | (refine step_app_byte (w5.alloc (.cells #[.int .u8 (kk : Nat)] 5)) w2.heap.size (.slice A5 n5 c5) (lk ++ vbs [tk]) (by8 kk) w5.heap.size rfl (.tmp 71) (.tmp 75) rfl rfl rfl M5a.own (fr5.out w5) hlk5.out M5a.hbase ?_; intro gq cap w6 o6 g6 li6; have M6 := M5a.of_grown g6 o6; have v6 := Lib.hid (cell_grown v3a.out (Nat.lt_of_lt_of_le u5.out (by simp)) hv5.out g6); have hv6 := Lib.hid (lies_ne li6 hv5.out (Nat.lt_of_lt_of_le u5.out (by simp))); have u6 := Lib.hid (Nat.lt_of_lt_of_le u5.out (Nat.le_trans (by simp) g6.size)); obtain ⟨n6, hn6⟩ : ∃ n, n = (lk ++ vbs [tk]).length + 1 := ⟨_, rfl⟩; rw [← hn6] at M6 hv6; rw [← hn6]; clear hn6 o6 g6 li6 M5 M5a v2 v3 v3a hv5 u5)
            | (go_simp; go_at_call 41; with_reducible refine CL2.out.mono ?_; rintro e w5 ⟨A5, c5, rfl, M5, g5, li5⟩; obtain ⟨n5, hn5⟩ : ∃ n, n = (lk ++ vbs [tk]).length := ⟨_, rfl⟩; rw [← hn5] at M5; rw [← hn5]; rw [← hn5] at li5; have v3 := Lib.hid (cell_grown W3IB.out uIB.out hvu.out g5); have hv5 := Lib.hid (lies_ne li5 hvu.out uIB.out); have u5 := Lib.hid (Nat.lt_of_lt_of_le uIB.out g5.size); have RB5 := Rd.grownOut RIB.out g5 (fun q o e _ => apart_of nUI.out q o e); clear hn5 g5 li5))
          all_goals
            obtain ⟨l6, hl6⟩ : ∃ l, l = lk ++ vbs [tk] ++ [by8 kk] := ⟨_, rfl⟩
            rw [← hl6] at M6
            have HL6 := Lib.hid hl6
            have hlen6 : Hid (l6.length ≤ 70368744170000) := by have h1 := HLl.out; have h2 := congrArg List.length HLk.out; have h3 := vb_nine (n := tk) (by omega); show _ ≤ _; rw [hl6, vbs_1]; simp only [List.length_append, List.length_cons, List.length_nil]; omega
            have hlen7 : Hid ((l6 ++ vbs [yl.length]).length + yl.length ≤ 225179981368000) := by have h1 := hlen6.out; have h3 := vb_nine (n := yl.length) (by omega); show _ ≤ _; rw [vbs_1, List.length_append]; omega
            have v6K : (w6.alloc (.cells #[.int .i64 (yl.length : Nat)] 3)).cell? ⟨u, 3, none⟩ = some (.slice D yl.length c) := (((Below.refl w6.heap.size w6).alloc (Nat.le_refl _) (.cells #[.int .i64 (yl.length : Nat)] 3)).cell (p := ⟨u, 3, none⟩) u6.out).trans v6.out
            have W6K : Hid ((w6.alloc (.cells #[.int .i64 (yl.length : Nat)] 3)).drew.cell? ⟨u, 3, none⟩ = some (.slice D yl.length c)) := v6K
            have uK : Hid (u < (w6.alloc (.cells #[.int .i64 (yl.length : Nat)] 3)).drew.heap.size) := by have := u6.out; show u < (w6.alloc (.cells #[.int .i64 (yl.length : Nat)] 3)).heap.size; simp; omega
            have v6' := v6.out
            have CL5 := Lib.hid (show Calls Try.prog 41 #[.slice (some ⟨gq, 0, none⟩) n6 cap, .slice (some ⟨w6.heap.size, 0, none⟩) 1 1] (w6.alloc (.cells #[.int .i64 (yl.length : Nat)] 3)).drew (fun e w' => ∃ A c, e = .returned (.slice A (l6 ++ vbs [yl.length]).length c) ∧ Made w2 w' w2.heap.size (.slice A (l6 ++ vbs [yl.length]).length c) (l6 ++ vbs [yl.length]) ∧ (w6.alloc (.cells #[.int .i64 (yl.length : Nat)] 3)).drew.grownBy w' (Value.slice (some ⟨gq, 0, none⟩) n6 cap).ownBlock ∧ Lies (w6.alloc (.cells #[.int .i64 (yl.length : Nat)] 3)).drew (.slice (some ⟨gq, 0, none⟩) n6 cap) (.slice A (l6 ++ vbs [yl.length]).length c)) from counts_lit M6.drew [yl.length] #[.int .i64 (yl.length : Nat)] 1 rfl rfl (by omega) (fun x hx => by rw [List.mem_singleton.1 hx]; omega) hlen6.out)
            clear hl6 M6 MUd MUBd MUIBd W3IB W3BI W2I W3I RBI RIB RI2 nU nUI HMU fr5 CL1 CL2 CL3 V1 V2 V3 V1B V2I d0 d1 d2 d3 hlk hlk5 uI uIB uBI
            go_wp2_with fail
            go_region_law (first
              | (go_simp; go_at_call 41; with_reducible refine CL5.out.mono ?_; rintro e w7 ⟨A7, c7, rfl, M7, g7, li7⟩; obtain ⟨n7, hn7⟩ : ∃ n, n = (l6 ++ vbs [yl.length]).length := ⟨_, rfl⟩; rw [← hn7] at M7; rw [← hn7]; have v7 := cell_grown W6K.out uK.out hv6.out g7; clear hn7 g7 li7)
              | (refine step_app_bytes w7 w2.heap.size (.slice A7 n7 c7) (l6 ++ vbs [yl.length]) yl D c yl.length rfl (.tmp 82) (.tmp 84) rfl rfl rfl rfl M7.own ((HRD.out.below M7.below).more M7.hbase) hlen7.out M7.hbase ?_; intro v8 w8 o8 g8; have M8 := M7.of_grown g8 o8; obtain ⟨A8, c8, rfl⟩ := M8.form; obtain ⟨n8, hn8⟩ : ∃ n, n = (l6 ++ vbs [yl.length] ++ yl).length := ⟨_, rfl⟩; rw [← hn8] at M8; rw [← hn8]; have hn8 := Lib.hid hn8; clear o8 g8))
            all_goals
              have HM8 := Lib.hid M8
              clear M8 M7 v7 v6K v6'
              go_wp2
              go_roundw
              case rel =>
                have hE : l4 ++ (es.take (k + 1)).flatMap entB = l6 ++ vbs [yl.length] ++ yl := by
                  rw [HES.out, ← List.append_assoc, ← HLk.out, HL6.out, vbs_1, vbs_1]
                  simp [entB, vi, byI]
                refine ⟨k + 1, n8, A8, c8, by go_num, by omega, by rw [hn8.out]; simp, ?_⟩
                rw [hE]
                refine Lib.hid ⟨HM8.out, hn8.out, ?_⟩
                have h1 := HLl.out
                have h2 := congrArg List.length HLk.out
                have h3 := vb_nine (n := tk) (by omega)
                have h4 := vb_nine (n := yl.length) (by omega)
                rw [HL6.out, vbs_1, vbs_1]
                simp only [List.length_append, List.length_cons, List.length_nil]
                omega
              case measure => simp [intOf]; omega
        · have hkn : k = ne := by omega
          subst hkn
          obtain ⟨HM1, hnn, _⟩ := HM.out
          rw [List.take_of_length_le (by have := HNs.out.1; omega)] at HM1
          have HF := Lib.hid (HFin.out _ _ _ HM1 (by rw [HEN.out, HE4.out, HE3.out]; simp [encB, headB, restB, vi_nat, byI]; rw [← HNs.out.1]))
          clear HM1 hnn
          go_wp2
          go_ret2
          exact ⟨_, rfl, HF.out⟩
    by_cases hk4 : kN = 4
    · subst hk4
      have y5 := HM3.out.cell X5.out hr2.out
      have y8 := HM3.out.cell X8.out hr2.out
      have HD := Lib.hid HM3.out.drew
      have HDA := Lib.hid (Made.drew (HM3.out.alloc (.cells #[.int .i64 (iN : Nat)] 3)))
      have yA5 := HDA.out.cell X5.out hr2.out
      have yA8 := HDA.out.cell X8.out hr2.out
      have hl3 : Hid (l3.length ≤ 70368744170000) := by have := HL3.out; show _ ≤ _; omega
      have hl4 : Hid ((l3 ++ [tb ok]).length ≤ 70368744170000) := by have := HL3.out; show _ ≤ _; simp; omega
      have hI : Hid (∀ x ∈ [iN], x ≤ 9223372036854775807) := fun x hx => by rw [List.mem_singleton.1 hx]; omega
      have hne3 := Lib.hid HM3.out.ne
      have RI3 : Hid (RdI (w3.alloc (.cells #[.int .i64 (iN : Nat)] 3)).drew (w3.alloc (.cells #[.int .i64 (iN : Nat)] 3)).drew.heap.size (some ⟨w3.heap.size, 0, none⟩) ([iN].map natI)) := (rdI_lit w3 [natI iN] #[.int .i64 (iN : Nat)] rfl).more (by simp)
      have hq3 : Hid (w3.heap.size < (w3.alloc (.cells #[.int .i64 (iN : Nat)] 3)).drew.heap.size) := by show _ < (w3.alloc (.cells #[.int .i64 (iN : Nat)] 3)).heap.size; simp
      go_wp2_with fail
      go_region_law (first
        | (go_simp; go_at_call 42; refine (putbool_any ok w2.heap.size (.slice A3 n3 c3) l3 w3.drew HD.out.own hl3.out HD.out.hbase).mono ?_; rintro e w4 ⟨v4, rfl, o4, g4, _⟩; have M4a := HD.out.of_grown g4 o4; obtain ⟨A4, c4, rfl⟩ := M4a.form; obtain ⟨n4, hn4⟩ : ∃ n, n = (l3 ++ [tb ok]).length := ⟨_, rfl⟩; rw [← hn4] at M4a; rw [← hn4]; have y5 := M4a.cell X5.out hr2.out; clear hn4 o4 g4)
        | (go_simp; go_at_call 41; refine (counts_lit M4a [iN] #[.int .i64 (iN : Nat)] 1 rfl rfl (by omega) hI.out hl4.out).mono ?_; rintro e w5 ⟨A5, c5, rfl, M5, _⟩; obtain ⟨n5, hn5⟩ : ∃ n, n = (l3 ++ [tb ok] ++ vbs [iN]).length := ⟨_, rfl⟩; rw [← hn5] at M5; rw [← hn5]; clear hn5)
        | (go_simp; go_at_call 42; refine (putbool_any ok w2.heap.size (.slice A3 n3 c3) l3 (w3.alloc (.cells #[.int .i64 (iN : Nat)] 3)).drew HDA.out.own hl3.out HDA.out.hbase).mono ?_; rintro e w4 ⟨v4, rfl, o4, g4, li4⟩; have M4b := HDA.out.of_grown g4 o4; obtain ⟨A4, c4, rfl⟩ := M4b.form; obtain ⟨n4, hn4⟩ : ∃ n, n = (l3 ++ [tb ok]).length := ⟨_, rfl⟩; rw [← hn4] at M4b; rw [← hn4]; rw [← hn4] at li4; have g4 := Lib.hid g4; have li4 := Lib.hid li4; clear hn4 o4)
        | (go_simp; go_at_call 41; refine (counts_far M4b [iN] 1 rfl (by omega) hI.out hl4.out RI3.out hq3.out hne3.out g4.out li4.out).mono ?_; rintro e w5 ⟨A5, c5, rfl, M5⟩; obtain ⟨n5, hn5⟩ : ∃ n, n = (l3 ++ [tb ok] ++ vbs [iN]).length := ⟨_, rfl⟩; rw [← hn5] at M5; rw [← hn5]; clear hn5))
      all_goals
        have HF := Lib.hid (HFin.out _ _ _ M5 (by rw [vbs_1, HEN.out, HE3.out]; simp [encB, headB, restB, vi_nat, byI]))
        go_wp2
        go_ret2
        exact ⟨_, rfl, HF.out⟩
    have hk5 : kN = 5 := by have := HK.out.le; simp only at this; omega
    subst hk5
    have KP := (kindP_5 rfl).1 HK.out
    simp only at KP
    have HKP := Lib.hid KP
    have y5 := HM3.out.cell X5.out hr2.out
    have y6 := HM3.out.cell X6.out hr2.out
    have y10 := HM3.out.cell X10.out hr2.out
    have hnm5 : nm ≤ 5 := by have := HKP.out.2.2.2.1.2.five; have := HNs.out.2.1; omega
    have hnd6 : nd ≤ 60000 := by have := HKP.out.2.2.2.2.1; have := HNs.out.2.2; omega
    have C1 := Lib.hid (counts_lit HM3.out [iN, lN, nm] #[.int .i64 (iN : Nat), .int .i64 (lN : Nat), .int .i64 (nm : Nat)] 3 rfl rfl (by omega) (fun x hx => by simp at hx; omega) (by have := HL3.out; omega))
    clear KP
    go_wp2_with fail
    refine C1.out.mono ?_
    rintro e w4 ⟨A4, c4, rfl, M4, _⟩
    rw [vbs_3] at M4
    rw [vbs_3]
    obtain ⟨l4, hl4⟩ : ∃ l, l = l3 ++ (vb iN ++ vb lN ++ vb nm) := ⟨_, rfl⟩
    rw [← hl4] at M4
    rw [← hl4]
    have HL4 : Hid (l4.length ≤ 40) := by
      show _ ≤ _; rw [hl4]; have := vb_nine (n := iN) (by omega); have := vb_nine (n := lN) (by omega); have := vb_nine (n := nm) (by omega); have := HL3.out; simp; omega
    have HE4 := Lib.hid hl4
    obtain ⟨n4, hn4⟩ : ∃ n, n = l4.length := ⟨_, rfl⟩
    rw [← hn4] at M4
    rw [← hn4]
    have HN4 := Lib.hid hn4
    have HM4 := Lib.hid M4
    have S0 : Hid (Made w2 w4 w2.heap.size (.slice A4 n4 c4) (l4 ++ (mem.take 0).map byI) ∧ n4 = (l4 ++ (mem.take 0).map byI).length) := by
      simp only [List.take_zero, List.map_nil, List.append_nil]; exact ⟨M4, hn4⟩
    clear hl4 hn4 y5 y6 y10 C1
    have y10 := HM4.out.cell X10.out hr2.out
    clear M4
    go_wp2
    go_loopw [4, 112] (fun s4 s112 wr => ∃ (k nn : Nat) (B : Option Addr) (d : Nat), s112 = .int .i64 k ∧ k ≤ nm ∧ s4 = .slice B nn d ∧ Hid (Made w2 wr w2.heap.size (.slice B nn d) (l4 ++ (mem.take k).map byI) ∧ nn = (l4 ++ (mem.take k).map byI).length)) (fun _ s112 _ => nm - (intOf s112).toNat)
    case atStart => exact ⟨0, n4, A4, c4, rfl, by omega, rfl, S0⟩
    case round =>
      clear S0 HM4 y10
      obtain ⟨k, nn, B, d, rfl, hk, rfl, HM⟩ := hrel
      by_cases hlt : k < nm
      · have hkl : k < mem.length := by have := HNs.out.2.1; omega
        rcases HRd2.out.rm with h0 | ⟨q, o, hA, hq, hc⟩
        · simp only at h0; rw [h0] at hkl; simp at hkl
        simp only at hc hA
        rw [hA]
        have d0 := (HM.out.1.below.cell (p := ⟨q, o + k, none⟩) hq).trans (hc k hkl)
        have hnode := (HKP.out.2.2.2.1.2 k hkl).1
        obtain ⟨x, hx⟩ := nat_of (show 0 ≤ mem[k] by have := hnode.1; omega)
        have hx5 : x ≤ 5 := by have := hnode.2; omega
        rw [hx] at d0
        have HX := Lib.hid hx
        have hw8 := wrap8 (show x ≤ 255 by omega)
        have hby : Hid ((x : Int) = ((by8 x).toNat : Int)) := (by8_toNat (by omega)).symm
        have hll : Hid ((l4 ++ (mem.take k).map byI).length + 1 ≤ 70368744177664) := by
          have := HL4.out; show _ ≤ _; simp; omega
        have HS : Hid (l4 ++ (mem.take (k + 1)).map byI = (l4 ++ (mem.take k).map byI) ++ [by8 x]) := by
          show _ = _; rw [List.take_succ_eq_append_getElem hkl, List.map_append, List.append_assoc, List.map_cons, List.map_nil, hx, byI_nat]
        clear hc hx hnode hA
        obtain ⟨lk, hlk⟩ : ∃ l, l = l4 ++ (mem.take k).map byI := ⟨_, rfl⟩
        replace HM := HM.out
        replace HS := HS.out
        replace hll := hll.out
        rw [← hlk] at HM HS hll
        obtain ⟨HM, hnn⟩ := HM
        subst hnn
        replace HM := Lib.hid HM
        replace HS := Lib.hid HS
        replace hll := Lib.hid hll
        clear hlk
        go_wp2_with (at_builtin; refine app_byte wr w2.heap.size _ lk (by8 x) _ hby.out rfl (.tmp 116) (.tmp 119) rfl rfl wr.heap.size rfl rfl HM.out.own hll.out HM.out.hbase ?_)
        intro gq cap w6 O6 hg6 hl6
        have HF := Lib.hid (HM.out.of_grown hg6 O6)
        clear O6 hg6 hl6
        go_wp2
        go_roundw
        case rel => exact ⟨k + 1, lk.length + 1, some ⟨gq, 0, none⟩, cap, by go_num, by omega, rfl, by rw [HS.out]; exact ⟨HF.out, by simp⟩⟩
        case measure => simp [intOf]; omega
      · have hkn : k = nm := by omega
        subst hkn
        have HM' := HM.out
        rw [List.take_of_length_le (by have := HNs.out.2.1; omega)] at HM'
        obtain ⟨lk, hlk⟩ : ∃ l, l = l4 ++ mem.map byI := ⟨_, rfl⟩
        rw [← hlk] at HM'
        obtain ⟨HM2, hnn⟩ := HM'
        have HLk := Lib.hid hlk
        have hll : Hid (lk.length ≤ 100) := by have := HL4.out; have := HNs.out.2.1; show _ ≤ _; rw [hlk]; simp; omega
        have y11 := HM2.cell X11.out hr2.out
        have HMD := Lib.hid HM2.drew
        have yA := (HM2.alloc (.cells #[.int .i64 (nd : Nat)] 3)).cell X11.out hr2.out
        have hl5 : Hid (lk.length ≤ 70368744170000) := by have := hll.out; show _ ≤ _; omega
        have hI : Hid (∀ x ∈ [nd], x ≤ 9223372036854775807) := fun x hx => by rw [List.mem_singleton.1 hx]; omega
        have hRd : Hid (Rd w2 w2.heap.size a.d dat) := HRd2.out.rd
        have hNd : Hid (nd = dat.length) := HNs.out.2.2
        have hl6 : Hid ((lk ++ vbs [nd]).length + dat.length ≤ 225179981368000) := by have := hll.out; have := hNd.out; have := vb_nine (n := nd) (by omega); show _ ≤ _; rw [vbs_1]; simp; omega
        clear hlk hnn HM2 HM
        go_wp2_with fail
        go_region_law (first
          | (go_simp; go_at_call 41; refine (counts_lit HMD.out [nd] #[.int .i64 (nd : Nat)] 1 rfl rfl (by omega) hI.out hl5.out).mono ?_; rintro e w5 ⟨A5, c5, rfl, M5, _⟩; obtain ⟨n5, hn5⟩ : ∃ n, n = (lk ++ vbs [nd]).length := ⟨_, rfl⟩; rw [← hn5] at M5; rw [← hn5]; have y11 := M5.cell X11.out hr2.out; clear hn5)
          | (refine step_app_bytes w5 w2.heap.size (.slice A5 n5 c5) (lk ++ vbs [nd]) dat a.d a.dc nd rfl (.tmp 127) (.tmp 129) rfl rfl rfl hNd.out M5.own ((hRd.out.below M5.below).more M5.hbase) hl6.out M5.hbase ?_; intro v6 w6 o6 g6; have M6 := M5.of_grown g6 o6; obtain ⟨A6, c6, rfl⟩ := M6.form; obtain ⟨n6, hn6⟩ : ∃ n, n = (lk ++ vbs [nd] ++ dat).length := ⟨_, rfl⟩; rw [← hn6] at M6; rw [← hn6]; clear hn6 o6 g6))
        all_goals
          have HF := Lib.hid (HFin.out _ _ _ M6 (by rw [vbs_1, HEN.out, HLk.out, HE4.out, HE3.out]; simp [encB, headB, restB, vi_nat, byI]; rw [← hNd.out, HNs.out.2.1]))
          go_wp2
          go_ret2
          exact ⟨_, rfl, HF.out⟩
end Go.Proofs.Ytekgmgiokmbliaa
