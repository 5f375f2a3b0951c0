/-
  wal.Encode.
-/
import Derived.Test.YtfnifpgaieggbaaDoorApp
import Derived.Deep.CutBlock
import Derived.Deep.RegionLaw
set_option linter.unusedVariables false
namespace Go.Proofs.YtfnifpgaieggbaaDoor
open Go.RowKit

/-- append(v, xs...) at a step of a drawn region -/
theorem step_app_bytes {ops : Array Oper} {o : Oper} {a : Act} {K : Act → World → Prop} {Q : Exit → Act → World → Prop} {E : Prop} (w : World) (base : Nat) (v : Value) (l m : List UInt8) (A : Option Addr) (c n : Nat) (hgd : o.guard = none) (s x : Operand)
    (ho : o.op = .call { callee := .builtin .append, args := #[s, x], argTypes := #[28, 28] })
    (hs : a.eval s = v) (hx : a.eval x = .slice A n c) (hn : n = m.length) (hown : Own w base v l) (hr : Rd w w.heap.size A m) (hlen : l.length + m.length ≤ 225179981368000) (hbase : base ≤ w.heap.size)
    (h : ∀ v' w', Own w' base v' (l ++ m) → w.grownBy w' v.ownBlock → K (a.put o.dst v') w') : if Region.wanted o (yielded ops a.tmps) = true then Oper.wp Tryd.prog o a w K Q else E := by
  subst hn
  have hw : Region.wanted o (yielded ops a.tmps) = true := by simp [Region.wanted, hgd]
  rw [if_pos hw]
  obtain ⟨i0, hi0, hz0, hz1, hz2⟩ := info_parts info8
  have hmx : l.length + m.length ≤ maxLen := by unfold maxLen; omega
  rcases hr with rfl | ⟨g, off, rfl, hg, hc⟩
  · rcases A with _ | ad
    · have hrun := run_app_nil (ty := o.type) hown c
      have hl0 : a.eval x = .slice none 0 c := hx
      unfold Oper.wp
      simp [execOp, ho, resolve, invoke, builtin, hs, hl0, hrun, Result.andThen]
      exact h v w (by simpa using hown) (World.grownBy.refl w _)
    · refine wp_append_own_wide w s x 28 ho base 5 i0 _ 1 1 Tryd.underlying28 hi0 hz0 hz1 hz2 rfl (by decide) v l.length (l.map bv) hs hown ad 0 c [] hx rfl (by simp) (by simp) (by simpa using hmx) (by simp at hlen ⊢; omega) hbase ?_
      intro v' w' h1 h2 _
      exact h v' w' (by simpa [Own] using h1) h2
  · refine wp_append_own_wide w s x 28 ho base 5 i0 _ 1 1 Tryd.underlying28 hi0 hz0 hz1 hz2 rfl (by decide) v l.length (l.map bv) hs hown ⟨g, off, none⟩ m.length c (m.map bv) hx (by simp) ?_ ?_ hmx (by omega) hbase ?_
    · intro j u hu
      have hj : j < m.length := by
        rcases Nat.lt_or_ge j m.length with h | h
        · exact h
        · simp [List.getElem?_map, List.getElem?_eq_none h] at hu
      rw [add_at, hc j hj]
      simp [List.getElem?_map, List.getElem?_eq_getElem hj] at hu
      rw [hu]
    · intro u hu
      obtain ⟨b, _, rfl⟩ := List.mem_map.1 hu
      exact bv_one b
    · intro v' w' h1 h2 _
      exact h v' w' (by simpa [Own] using h1) h2

theorem encE_ops {seq : Nat} {l : List OpD} (h : ¬ OpsP l) : encE seq l = 60 := by unfold encE; rw [if_pos h]
theorem encE_seq {seq : Nat} {l : List OpD} (h : OpsP l) (h2 : ¬ SeqP seq l.length) : encE seq l = 61 := by unfold encE; rw [if_neg (fun k => k h), if_pos h2]
theorem encE_long {seq : Nat} {l : List OpD} (h : OpsP l) (h2 : SeqP seq l.length) (h3 : 1048576 < (bodyB seq l).length) : encE seq l = 62 := by unfold encE; rw [if_neg (fun k => k h), if_neg (fun k => k h2), if_pos h3]
def EncAns (seq : Nat) (l : List OpD) (w : World) (e : Ending) (w' : World) : Prop :=
  ∃ v, e = .returned (.tuple #[v, .int .i64 (encE seq l)]) ∧ (encE seq l = 0 → Own w' w.heap.size v (batB seq l)) ∧ (encE seq l ≠ 0 → v = .slice none 0 0)
theorem EncAns.bad {seq : Nat} {l : List OpD} {w w' : World} {e : Ending} {k : Nat} (h : encE seq l = k) (hk : k ≠ 0) (he : e = .returned (.tuple #[.slice none 0 0, .int .i64 (k : Int)])) : EncAns seq l w e w' :=
  ⟨_, by rw [he, h], fun h0 => absurd (h.symm.trans h0) hk, fun _ => rfl⟩

set_option maxHeartbeats 6400000 in
set_option maxRecDepth 100000 in
theorem encode_any (seq : Nat) (l : List OpD) (A : Option Addr) (n c : Nat) (w : World) (hn : n = l.length) (hr : OpsRd w w.heap.size A l) (hs : SmallW l) (hq : seq < 18446744073709551616) (hT : Tab w) (h0 : 0 < w.heap.size) :
    Calls Tryd.prog 9 #[.agg #[.int .u64 seq, .slice A n c]] w fun e w' => EncAns seq l w e w' ∧ Below w.heap.size w w' := by
  have hb := below1' w (.cells #[.int .u64 seq, .slice A n c] 25)
  have B0 := Cell.new w #[.int .u64 seq, .slice A n c] 25 0 (.int .u64 seq) rfl
  have B1 := Cell.new w #[.int .u64 seq, .slice A n c] 25 1 (.slice A n c) rfl
  have HV := Lib.hid (validops_any l A n c _ hn ((hr.below hb).more hb.size) hs)
  have HR := Lib.hid hr
  have HS := Lib.hid hs
  have HN := Lib.hid hn
  have HT := Lib.hid hT
  have H0 := Lib.hid h0
  have hn1 : n ≤ 2513169434843 := by rw [hn]; exact hs.n
  obtain ⟨u, hu⟩ : ∃ u, u = w.heap.size := ⟨_, rfl⟩
  have HU := Lib.hid hu
  rw [← hu] at B0 B1
  clear hr hs hn hT h0
  go_enter Tryd.func9, Tryd.ntmps9
  go_wp2_with fail
  rw [← hu]
  clear hu
  refine HV.out.mono ?_
  rintro e w1 ⟨⟨b, rfl, hbb⟩, h1⟩
  have hb1 := hb.trans (h1.mono hb.size)
  have X0 := B0.keep h1
  have X1 := B1.keep h1
  clear HV h1 hb B0 B1
  cases b with
  | false =>
    have hE := encE_ops (seq := seq) (fun h => by have := hbb.2 h; cases this)
    have HE := Lib.hid hE
    clear hbb hE
    go_wp2
    go_ret2
    exact ⟨EncAns.bad HE.out (by decide) rfl, hb1⟩
  | true =>
    have HO := Lib.hid (hbb.1 rfl)
    obtain ⟨x0, fx0⟩ := X0
    obtain ⟨x1, fx1⟩ := X1
    have hwc : IntKind.u64.wrap (n : Int) = (n : Int) := IntWalk.u64_in _ (by omega)
    clear hbb
    by_cases e1 : seq < 1
    · have HE := Lib.hid (encE_seq (seq := seq) HO.out (fun h => by have := h.1; omega))
      have e1' : (seq : Int) < 1 := by omega
      go_wp2
      go_ret2
      exact ⟨EncAns.bad HE.out (by decide) rfl, hb1⟩
    have e1' : (1 : Int) ≤ (seq : Int) := by omega
    by_cases e2 : 4611686018427387904 < seq
    · have HE := Lib.hid (encE_seq (seq := seq) HO.out (fun h => by have := h.2.1; omega))
      have e2' : (4611686018427387904 : Int) < (seq : Int) := by omega
      go_wp2
      go_ret2
      exact ⟨EncAns.bad HE.out (by decide) rfl, hb1⟩
    have e2' : (seq : Int) ≤ 4611686018427387904 := by omega
    have hws : IntKind.u64.wrap ((seq : Int) + (n : Int)) = (seq : Int) + (n : Int) := IntWalk.u64_in _ (by omega)
    by_cases e3 : 4611686018427387904 < seq + n
    · have HE := Lib.hid (encE_seq (seq := seq) HO.out (fun h => by have := h.2.2; have := HN.out; omega))
      have e3' : (4611686018427387904 : Int) < (seq : Int) + (n : Int) := by omega
      go_wp2
      go_ret2
      exact ⟨EncAns.bad HE.out (by decide) rfl, hb1⟩
    have e3' : (seq : Int) + (n : Int) ≤ 4611686018427387904 := by omega
    have HSQ : Hid (SeqP seq l.length) := ⟨by omega, by omega, by have := HN.out; omega⟩
    have N1 := Lib.hid (number_any seq w1.drew (Nat.lt_trans hq (by decide)))
    have N2 := Lib.hid (fun W => number_any n W (Nat.lt_of_le_of_lt hn1 (by decide)))
    have hX1 : Hid (Cell w1.drew u 1 (.slice A n c)) := Cell.drew (And.intro x1 fx1)
    have HB1d := Lib.hid (below_drew hb1)
    have hszw : Hid (w.heap.size ≤ w1.heap.size) := hb1.size
    have huw : u < w1.heap.size := World.block_lt_of_cell? _ _ x1
    go_upto_region 5 with fail
    go_cut [4] from 29 (fun s4 wx => ∃ (L : List UInt8) (A4 : Option Addr) (c4 : Nat), s4 = .slice A4 L.length c4 ∧ Hid (L = num seq ++ num n) ∧ Hid (Own wx w.heap.size (.slice A4 L.length c4) L) ∧ Below w.heap.size w wx ∧ Hid (Cell wx u 1 (.slice A n c)))
    case first =>
      go_region_law (first
        | (refine step_app_bytes w3 w1.drew.heap.size v2 (num seq) (num n) A3 c3 (num n).length rfl (.tmp 31) (.tmp 36) rfl rfl rfl rfl HO3.out HR3.out hlen3.out HZ3.out ?_; intro v4 w4 o4 g4; have HO4 := Lib.hid o4; have HG4 := Lib.hid g4; clear o4 g4)
        | (go_simp; go_at_call 19; refine (N2.out w2).mono ?_; rintro e w3 ⟨v3, rfl, o3, h3⟩; have HO3 := Lib.hid (HO2.out.belowFar h3); obtain ⟨A3, c3, rfl, rd3⟩ := o3.rd; have HR3 := Lib.hid rd3; have HY3 := Lib.hid (HY2.out.keep h3); have HB3 := Lib.hid (HB2.out.trans (h3.mono HB2.out.size)); have HZ3 := Lib.hid (Nat.le_trans HZ2.out h3.size); have hlen3 : Hid ((num seq).length + (num n).length ≤ 225179981368000) := (by have h1 := num_len seq; have h2 := num_len n; show _ ≤ _; omega); clear o3 h3 rd3)
        | (go_simp; go_at_call 19; refine N1.out.mono ?_; rintro e w2 ⟨v2, rfl, o2, h2⟩; have y1 := (hX1.out.keep h2).1; have HY2 := Lib.hid (hX1.out.keep h2); have HO2 := Lib.hid o2; have HB2 := Lib.hid (HB1d.out.trans (h2.mono HB1d.out.size)); have HZ2 := Lib.hid h2.size; clear o2 h2))
      all_goals
        have hgb := grown_below (B := w1.drew.heap.size) HG4.out HO3.out (Nat.le_refl _) HZ3.out
        have hX4 : Hid (Cell w4 u 1 (.slice A n c)) := ⟨(hgb.cell (p := ⟨u, 1, none⟩) huw).trans HY3.out.1, (hgb.frozen (p := ⟨u, 1, none⟩) huw).trans HY3.out.2⟩
        have hB4 := Lib.hid (HB3.out.trans (hgb.mono hszw.out))
        have hO4 := Lib.hid (HO4.out.mono hszw.out)
        obtain ⟨L, hL⟩ : ∃ x, x = num seq ++ num n := ⟨_, rfl⟩
        replace hO4 := hO4.out
        rw [← hL] at hO4
        obtain ⟨A4, c4, rfl, _⟩ := hO4.rd
        have HFF := Lib.hid (And.intro hL (And.intro hO4 (And.intro hB4.out hX4.out)))
        clear hgb hX4 hB4 hO4 hL HO4 HG4 HB3 HY3 HR3 HO3 HB2 HO2 HY2 y1
        go_wp2_with fail
        go_meet
        exact ⟨L, A4, c4, rfl, HFF.out.1, HFF.out.2.1, HFF.out.2.2.1, HFF.out.2.2.2⟩
    case rest =>
      obtain ⟨L0, A0, c0, rfl, HL0, HO0, hb0, HX0⟩ := hcut
      obtain ⟨z1, fz1⟩ := HX0.out
      have S0 : Hid (∃ L : List UInt8, L = num seq ++ num n ++ opsB (l.take 0) ∧ L.length = L0.length ∧ Own wc w.heap.size (.slice A0 L0.length c0) L) := ⟨L0, by rw [HL0.out]; simp [opsB], rfl, HO0.out⟩
      have hl0 : L0.length ≤ 1048576 := by rw [HL0.out, List.length_append]; have h1 := num_len seq; have h2 := num_len n; omega
      obtain ⟨m0, hm0⟩ : ∃ x, x = L0.length := ⟨_, rfl⟩
      rw [← hm0] at S0 hl0
      rw [← hm0]
      clear hm0 HO0 HX0 HL0 hb1 x0 x1 fx0 fx1 N1 N2 hX1
      go_wp2
      go_loopw [4, 41] (fun s4 s41 wr => ∃ (k m : Nat) (A4 : Option Addr) (c4 : Nat), s41 = .int .i64 k ∧ k ≤ n ∧ s4 = .slice A4 m c4 ∧ m ≤ 1048576 ∧ Hid (∃ L : List UInt8, L = num seq ++ num n ++ opsB (l.take k) ∧ L.length = m ∧ Own wr w.heap.size (.slice A4 m c4) L) ∧ Below w.heap.size w wr) (fun _ s41 _ => n - (intOf s41).toNat)
      case atStart => exact ⟨0, m0, A0, c0, rfl, by omega, rfl, hl0, S0, hb0⟩
      case round =>
        clear S0 z1 fz1 hb0
        obtain ⟨k, m, A4, c4, rfl, hk, rfl, hm, HI, hbr⟩ := hrel
        by_cases hlt : k < n
        · have hkl : k < l.length := by have := HN.out; omega
          rcases HR.out with hz | ⟨q, o, hA, hq, hc⟩
          · rw [hz] at hkl; simp at hkl
          rw [hA]
          obtain ⟨K, kc, V, vc, c0, c1, c2, rk, rv⟩ := hc k hkl
          have HSN := Lib.hid (opsB_snoc hkl)
          have HTL := Lib.hid (opsB_take_le l (k + 1))
          obtain ⟨y, hy⟩ : ∃ y, y = l[k] := ⟨_, rfl⟩
          have hsk : l[k].key.length ≤ 1048576 := by have := (HO.out.2 _ (List.getElem_mem hkl)).1.2; omega
          have hsv : l[k].val.length ≤ 1048576 := by have := (HO.out.2 _ (List.getElem_mem hkl)).2.1; omega
          replace HSN := HSN.out
          rw [← hy] at c0 c1 c2 rk rv hsk hsv HSN
          replace HSN := Lib.hid HSN
          have d0 := (hbr.cell (p := ⟨q, o + k * 3, none⟩) hq).trans c0
          have d1 := (hbr.cell (p := ⟨q, o + k * 3 + 1, none⟩) hq).trans c1
          have d2 := (hbr.cell (p := ⟨q, o + k * 3 + 2, none⟩) hq).trans c2
          obtain ⟨L, hL, hLm, hO⟩ := HI.out
          have hbx := below1' wr (.cells #[.bool y.del, .slice K y.key.length kc, .slice V y.val.length vc] 43)
          have hb2 := hbr.trans (hbx.mono hbr.size)
          have AP := Lib.hid (appendop_any y w.heap.size (.slice A4 m c4) L K kc V vc _ (hO.alloc (.cells #[.bool y.del, .slice K y.key.length kc, .slice V y.val.length vc] 43)) hb2.size (by omega) ((rk.below hb2).more hb2.size) ((rv.below hb2).more hb2.size) hsk hsv)
          have HLL := Lib.hid (And.intro hL hLm)
          have HB2 := Lib.hid hb2
          clear hc c0 c1 c2 rk rv hy hsk hsv hL hLm hO hbx hb2 HI hbr hA
          go_wp2_with fail
          refine AP.out.mono ?_
          rintro e w5 ⟨v5, rfl, o5, h5⟩
          obtain ⟨L5, hL5⟩ : ∃ x, x = L ++ opB y := ⟨_, rfl⟩
          rw [← hL5] at o5
          obtain ⟨A5, c5, rfl, _⟩ := o5.rd
          have HB5 := Lib.hid (HB2.out.trans h5)
          have HL5 : Hid (L5 = num seq ++ num n ++ opsB (l.take (k + 1))) := by show _ = _; rw [hL5, HLL.out.1, HSN.out, List.append_assoc]
          have HO5 := Lib.hid o5
          obtain ⟨m5, hm5⟩ : ∃ x, x = L5.length := ⟨_, rfl⟩
          replace HO5 := HO5.out
          rw [← hm5] at HO5
          replace HO5 := Lib.hid HO5
          rw [← hm5]
          have HM5 := Lib.hid hm5
          clear AP o5 h5 hL5 hm5 d0 d1 d2 HB2
          by_cases hbig : 1048576 < m5
          · have HE := Lib.hid (encE_long HO.out HSQ.out (by
              have h1 := HTL.out
              have h2 := congrArg List.length HL5.out
              rw [← HM5.out] at h2
              unfold bodyB
              rw [← HN.out]
              simp only [List.length_append] at h2 ⊢
              omega))
            have hbig' : (1048576 : Int) < (m5 : Int) := by omega
            go_wp2
            go_ret2
            exact ⟨EncAns.bad HE.out (by decide) rfl, HB5.out⟩
          · have hbig' : (m5 : Int) ≤ 1048576 := by omega
            have HF : Hid (∃ L : List UInt8, L = num seq ++ num n ++ opsB (l.take (k + 1)) ∧ L.length = m5 ∧ Own w5 w.heap.size (.slice A5 m5 c5) L) := ⟨L5, HL5.out, HM5.out.symm, HO5.out⟩
            clear HO5 HL5 HM5
            go_wp2
            go_roundw
            case rel => exact ⟨k + 1, m5, A5, c5, by go_num, by omega, rfl, by omega, HF, HB5.out⟩
            case measure => simp [intOf]; omega
        · have hkn : k = n := by omega
          subst hkn
          obtain ⟨L, hL, hLm, hO⟩ := HI.out
          have hLb : L = bodyB seq l := by rw [hL, List.take_of_length_le (by have := HN.out; omega)]; unfold bodyB; rw [← HN.out]
          have HE := Lib.hid (encE_zero.2 ⟨HO.out, HSQ.out, by rw [← hLb]; omega⟩)
          obtain ⟨A6, c6, hv6, hr6⟩ := hO.rd
          injection hv6 with hA6 hm6 hc6
          subst hA6 hc6
          have FR : Calls Tryd.prog 21 #[.int .u8 66, .slice A4 L.length c4] wr fun e w' => ∃ v, e = .returned (.tuple #[v, .int .i64 0]) ∧ Own w' wr.heap.size v (frame 66 L) ∧ Below wr.heap.size wr w' := frame_ok 66 A4 c4 L wr hr6 (by omega) (HT.out.below hbr H0.out) (Nat.lt_of_lt_of_le H0.out hbr.size)
          rw [hLm, hLb] at FR
          have HFR := Lib.hid FR
          have HBR := Lib.hid hbr
          clear hL hLm hO hLb hr6 hm6 FR HI hbr
          go_wp2_with fail
          refine HFR.out.mono ?_
          rintro e w7 ⟨v7, rfl, o7, h7⟩
          have HO7 := Lib.hid (o7.mono HBR.out.size)
          have HB7 := Lib.hid (HBR.out.trans (h7.mono HBR.out.size))
          clear o7 h7 HFR
          go_wp2
          go_ret2
          exact ⟨⟨v7, by rw [HE.out]; rfl, fun _ => HO7.out, fun h => absurd HE.out h⟩, HB7.out⟩
end Go.Proofs.YtfnifpgaieggbaaDoor
