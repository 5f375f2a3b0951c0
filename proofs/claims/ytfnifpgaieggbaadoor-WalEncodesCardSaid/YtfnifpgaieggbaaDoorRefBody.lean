/-
  The reference's body and Encode.
-/
import Derived.Test.YtfnifpgaieggbaaDoorRefOps
import Derived.Test.YtfnifpgaieggbaaDoorRefFrame
import Derived.Test.YtfnifpgaieggbaaDoorRefNumber
import Derived.Test.YtfnifpgaieggbaaDoorGotO
set_option linter.unusedVariables false
namespace Go.Proofs.YtfnifpgaieggbaaDoor
open Go.RowKit

set_option maxHeartbeats 6400000 in
set_option maxRecDepth 100000 in
theorem rbody_any (seq : Nat) (l : List OpD) (A : Option Addr) (n c : Nat) (w : World) (hn : n = l.length) (hr : OpsRd w w.heap.size A l) (hl : OpsP l) (hq : seq ≤ 18446744073709551615) :
    Calls Tryd.prog 16 #[.agg #[.int .u64 seq, .slice A n c]] w fun e w' => ∃ v, e = .returned v ∧ Own w' w.heap.size v (bodyB seq l) ∧ Below w.heap.size w w' := by
  have hb := below1' w (.cells #[.int .u64 seq, .slice A n c] 25)
  have B0 := Cell.new w #[.int .u64 seq, .slice A n c] 25 0 (.int .u64 seq) rfl
  have B1 := Cell.new w #[.int .u64 seq, .slice A n c] 25 1 (.slice A n c) rfl
  have HR := Lib.hid hr
  have HS := Lib.hid hl
  have HN := Lib.hid hn
  have hn1 : n ≤ 256 := by rw [hn]; exact hl.1.2
  have N1 := Lib.hid (rnumber_any seq (w.alloc (.cells #[.int .u64 seq, .slice A n c] 25)) hq)
  have N2 := Lib.hid (fun W => rnumber_any n W (Nat.le_trans hn1 (by decide)))
  have hwn : IntKind.u64.wrap (n : Int) = (n : Int) := IntWalk.u64_in _ (by omega)
  obtain ⟨u, hu⟩ : ∃ u, u = w.heap.size := ⟨_, rfl⟩
  rw [← hu] at B0 B1
  clear hr hl hn
  have HU := Lib.hid hu
  go_enter Tryd.func16, Tryd.ntmps16
  go_wp2_with fail
  rw [← hu]
  clear hu
  obtain ⟨b0, _⟩ := B0
  obtain ⟨b1, fb1⟩ := B1
  go_wp2_with fail
  refine N1.out.mono ?_
  rintro e w2 ⟨v2, rfl, o2, h2⟩
  have X1 := (show Cell _ u 1 (.slice A n c) from ⟨b1, fb1⟩).keep h2
  have HB2 := Lib.hid (hb.trans (h2.mono hb.size))
  have HO2 := Lib.hid o2
  have HZ2 := Lib.hid h2.size
  clear N1 o2 h2 b0 b1 fb1 hb
  obtain ⟨x1, fx1⟩ := X1
  go_wp2_with fail
  refine (N2.out w2).mono ?_
  rintro e w3 ⟨v3, rfl, o3, h3⟩
  have HB3 := Lib.hid (HB2.out.trans (h3.mono HB2.out.size))
  have X1 := (show Cell _ u 1 (.slice A n c) from ⟨x1, fx1⟩).keep h3
  have HO23 := Lib.hid (HO2.out.belowFar h3)
  obtain ⟨A3, c3, rfl, rd3⟩ := o3.rd
  have HR3 := Lib.hid rd3
  have hlen3 : Hid ((num seq).length + (num n).length ≤ 225179981368000) := by have h1 := num_len seq; have h2 := num_len n; show _ ≤ _; omega
  have HZ3 := Lib.hid h3.size
  clear x1 fx1 o3 h3 rd3 HO2 HB2 N2
  obtain ⟨x1, fx1⟩ := X1
  go_wp2_with (at_builtin; refine app_bytes w3 (w.alloc (.cells #[.int .u64 seq, .slice A n c] 25)).heap.size _ (num seq) (num n) A3 c3 rfl (.tmp 16) (.tmp 17) rfl rfl rfl HO23.out HR3.out hlen3.out (Nat.le_trans HZ2.out HZ3.out) ?_)
  intro v4 w4 o4 h4 _
  have hz1 : w.heap.size ≤ w.heap.size + 1 := by omega
  have HB4 := Lib.hid (HB3.out.trans (h4.mono hz1))
  have X1 : Cell w4 u 1 (.slice A n c) := ⟨(h4.cell (p := ⟨u, 1, none⟩) (by rw [HU.out]; simp)).trans x1, (h4.frozen (p := ⟨u, 1, none⟩) (by rw [HU.out]; simp)).trans fx1⟩
  have HO4 := Lib.hid (show Own w4 (w.heap.size + 1) v4 _ from o4)
  clear o4 h4 x1 fx1 HO23 HR3 hlen3 HB3 HZ2 HZ3 hz1
  obtain ⟨x1, fx1⟩ := X1
  obtain ⟨L0, hL0⟩ : ∃ L, L = num seq ++ num n := ⟨_, rfl⟩
  have HL0 := Lib.hid hL0
  replace HO4 := HO4.out
  rw [← hL0] at HO4
  clear hL0
  obtain ⟨A0, c0, rfl, _⟩ := HO4.rd
  have HO4 := Lib.hid HO4
  have hl0 : L0.length ≤ 20 := by rw [HL0.out, List.length_append]; have h1 := num_len seq; have h2 := num_len n; omega
  have S0 : Hid (∃ L : List UInt8, L = num seq ++ num n ++ opsB (l.take 0) ∧ L.length = L0.length ∧ Own w4 (w.heap.size + 1) (.slice A0 L0.length c0) L) := ⟨L0, by rw [HL0.out]; simp [opsB], rfl, HO4.out⟩
  obtain ⟨m0, hm0⟩ : ∃ x, x = L0.length := ⟨_, rfl⟩
  rw [← hm0] at S0 hl0
  rw [← hm0]
  clear hm0 HO4 HL0
  have hXC : Hid (Cell w4 u 1 (.slice A n c)) := ⟨x1, fx1⟩
  clear x1 fx1
  have hx1 := hXC.out.1
  go_wp2
  go_loopw [3, 5] (fun s3 s5 wr => ∃ (k m : Nat) (A4 : Option Addr) (c4 : Nat), s5 = .int .i64 k ∧ k ≤ n ∧ s3 = .slice A4 m c4 ∧ Hid (m ≤ 20 + k * 66000) ∧ Hid (∃ L : List UInt8, L = num seq ++ num n ++ opsB (l.take k) ∧ L.length = m ∧ Own wr (w.heap.size + 1) (.slice A4 m c4) L) ∧ Below w.heap.size w wr ∧ Hid (Cell wr u 1 (.slice A n c))) (fun _ s5 _ => n - (intOf s5).toNat)
  case atStart => exact ⟨0, m0, A0, c0, rfl, by omega, rfl, (by show _ ≤ _; omega), S0, HB4.out, hXC⟩
  case round =>
    clear S0 hx1 hXC
    obtain ⟨k, m, A4, c4, rfl, hk, rfl, hm, HI, hbr, HXR⟩ := hrel
    obtain ⟨x1, fx1⟩ := HXR.out
    by_cases hlt : k < n
    · have hkl : k < l.length := by have := HN.out; omega
      rcases HR.out with hz | ⟨q, o, hA, hq, hc⟩
      · rw [hz] at hkl; simp at hkl
      have HA := Lib.hid hA
      rw [hA] at x1 HXR
      obtain ⟨K, kc, V, vc, q0, q1, q2, rk, rv⟩ := hc k hkl
      have HSN := Lib.hid (opsB_snoc hkl)
      obtain ⟨y, hy⟩ : ∃ y, y = l[k] := ⟨_, rfl⟩
      have HOY := Lib.hid (HS.out.2 _ (List.getElem_mem hkl))
      replace HSN := HSN.out
      replace HOY := HOY.out
      rw [← hy] at q0 q1 q2 rk rv HOY HSN
      replace HSN := Lib.hid HSN
      obtain ⟨del, key, val⟩ := y
      simp only at q0 q1 q2 rk rv
      have hkl2 : key.length ≤ 256 := HOY.1.2
      have hvl2 : val.length ≤ 65536 := HOY.2.1
      have d0 := (hbr.cell (p := ⟨q, o + k * 3, none⟩) hq).trans q0
      have d1 := (hbr.cell (p := ⟨q, o + k * 3 + 1, none⟩) hq).trans q1
      have d2 := (hbr.cell (p := ⟨q, o + k * 3 + 2, none⟩) hq).trans q2
      obtain ⟨L, hL, hLm, hO⟩ := HI.out
      have HRK := Lib.hid rk
      have HRV := Lib.hid rv
      have HO := Lib.hid hO
      have HLL := Lib.hid (And.intro hL hLm)
      have HBR := Lib.hid hbr
      have hlt' : (k : Int) < (n : Int) := by omega
      obtain ⟨nk, hnk⟩ : ∃ x, x = key.length := ⟨_, rfl⟩
      obtain ⟨nv, hnv⟩ : ∃ x, x = val.length := ⟨_, rfl⟩
      obtain ⟨tk, htk⟩ : ∃ x, x = num key.length ++ key := ⟨_, rfl⟩
      have HTK : Hid (tk = textB key) := htk
      have htk1 := (textB_len (s := key)).1
      have htk2 := (textB_len (s := key)).2
      rw [← HTK.out] at htk1 htk2
      obtain ⟨tv, htv⟩ : ∃ x, x = num val.length ++ val := ⟨_, rfl⟩
      have HTV : Hid (tv = textB val) := htv
      have htv1 := (textB_len (s := val)).1
      have htv2 := (textB_len (s := val)).2
      rw [← HTV.out] at htv1 htv2
      have RTK := fun (W : World) (h : Below w.heap.size w W) => rtext_ok K kc key W ((rk.below h).more h.size) (by omega)
      have RTV := fun (W : World) (h : Below w.heap.size w W) => rtext_ok V vc val W ((rv.below h).more h.size) (by omega)
      rw [← htk, ← hnk] at RTK
      rw [← htv, ← hnv] at RTV
      rw [← hnk] at d1
      rw [← hnv] at d2
      obtain ⟨ntk, hntk⟩ : ∃ x, x = tk.length := ⟨_, rfl⟩
      obtain ⟨ntv, hntv⟩ : ∃ x, x = tv.length := ⟨_, rfl⟩
      have HNT := Lib.hid (And.intro hntk hntv)
      have HBT : Hid ((0 < ntk ∧ ntk ≤ 266) ∧ 0 < ntv ∧ ntv ≤ 65546) := by show _ ∧ _; omega
      replace RTK := Lib.hid RTK
      replace RTV := Lib.hid RTV
      have hkm := hm.out
      have HMM : Hid (m + ntk + ntv + 1 ≤ 70368744177664 ∧ m + ntk + ntv + 1 ≤ 20 + (k + 1) * 66000) := by show _ ∧ _; rw [hntk, hntv]; omega
      have hszw : Hid (w.heap.size + 1 ≤ wr.heap.size) := by have := HXR.out.lt; rw [HU.out] at this; exact this
      have HOW : Hid (∀ q, (Value.slice A4 m c4).ownBlock = some q → q < wr.heap.size) := fun q hq => (World.ownsRow.lt hO q hq).2
      clear hc q0 q1 q2 rk rv hy HOY hL hLm hO HI hA hnk hnv htk htv htk1 htk2 htv1 htv2 hntk hntv hkm hbr
      have BX : Cell (wr.alloc (.cells #[.bool del, .slice K nk kc, .slice V nv vc] 43)) wr.heap.size 0 (.bool del) ∧ Cell (wr.alloc (.cells #[.bool del, .slice K nk kc, .slice V nv vc] 43)) wr.heap.size 1 (.slice K nk kc) ∧ Cell (wr.alloc (.cells #[.bool del, .slice K nk kc, .slice V nv vc] 43)) wr.heap.size 2 (.slice V nv vc) := by
        exact ⟨Cell.new _ _ _ 0 _ rfl, Cell.new _ _ _ 1 _ rfl, Cell.new _ _ _ 2 _ rfl⟩
      have BU : Cell (wr.alloc (.cells #[.bool del, .slice K nk kc, .slice V nv vc] 43)) u 1 (.slice (some ⟨q, o, none⟩) n c) := HXR.out.alloc _
      have HBX := Lib.hid (And.intro BX BU)
      clear BX BU
      cases del with
      | true =>
        have hE : Hid (L ++ [by8 1] ++ tk = num seq ++ num n ++ opsB (l.take (k + 1))) := by show _ = _; rw [HSN.out, ← List.append_assoc, ← HLL.out.1, HTK.out]; simp [opB]
        have HR1 : Hid (Rd ((wr.alloc (.cells #[.bool true, .slice K nk kc, .slice V nv vc] 43)).alloc (.cells #[.int .u8 1] 5)) ((wr.alloc (.cells #[.bool true, .slice K nk kc, .slice V nv vc] 43)).alloc (.cells #[.int .u8 1] 5)).heap.size (some ⟨wr.heap.size + 1, 0, none⟩) [by8 1]) := by
          have h := lit1 (show (1 : Int) = ((by8 1).toNat : Int) by rw [by8_nat]; rfl) (wr.alloc (.cells #[.bool true, .slice K nk kc, .slice V nv vc] 43))
          show Rd _ _ _ _
          simpa using h
        have HO1 := Lib.hid ((HO.out.alloc (.cells #[.bool true, .slice K nk kc, .slice V nv vc] 43)).alloc (.cells #[.int .u8 1] 5))
        have hl1 : Hid (L.length + 1 ≤ 70368744177664) := by show _ ≤ _; rw [HLL.out.2]; have := HMM.out.1; omega
        have hs1 : Hid (w.heap.size + 1 ≤ ((wr.alloc (.cells #[.bool true, .slice K nk kc, .slice V nv vc] 43)).alloc (.cells #[.int .u8 1] 5)).heap.size) := by have := hszw.out; show _ ≤ _; simp; omega
        have HB1 : Hid (Below w.heap.size w ((wr.alloc (.cells #[.bool true, .slice K nk kc, .slice V nv vc] 43)).alloc (.cells #[.int .u8 1] 5))) := ((HBR.out.alloc HBR.out.size _).alloc (by simp; have := HBR.out.size; omega) _)
        have HX1 : Hid (Cell ((wr.alloc (.cells #[.bool true, .slice K nk kc, .slice V nv vc] 43)).alloc (.cells #[.int .u8 1] 5)) wr.heap.size 1 (.slice K nk kc) ∧ Cell ((wr.alloc (.cells #[.bool true, .slice K nk kc, .slice V nv vc] 43)).alloc (.cells #[.int .u8 1] 5)) wr.heap.size 0 (.bool true) ∧ Cell ((wr.alloc (.cells #[.bool true, .slice K nk kc, .slice V nv vc] 43)).alloc (.cells #[.int .u8 1] 5)) wr.heap.size 2 (.slice V nv vc) ∧ Cell ((wr.alloc (.cells #[.bool true, .slice K nk kc, .slice V nv vc] 43)).alloc (.cells #[.int .u8 1] 5)) u 1 (.slice (some ⟨q, o, none⟩) n c)) := ⟨HBX.out.1.2.1.alloc _, HBX.out.1.1.alloc _, HBX.out.1.2.2.alloc _, HBX.out.2.alloc _⟩
        have hne1 : Hid ((Value.slice A4 m c4).ownBlock ≠ some wr.heap.size ∧ (Value.slice A4 m c4).ownBlock ≠ some u) := ⟨fun e => by have := HOW.out _ e; omega, fun e => by have h1 := (World.ownsRow.lt HO.out _ e).1; rw [HU.out] at h1; omega⟩
        have HLn : Hid (L.length = m) := HLL.out.2
        clear HBX hszw

        go_wp2_with (at_builtin; refine app_more ((wr.alloc (.cells #[.bool true, .slice K nk kc, .slice V nv vc] 43)).alloc (.cells #[.int .u8 1] 5)) (w.heap.size + 1) (.slice A4 m c4) L [by8 1] (some ⟨wr.heap.size + 1, 0, none⟩) 1 1 rfl (by decide) rfl (.tmp 33) (.tmp 35) rfl rfl rfl HO1.out HR1.out hl1.out hs1.out ?_)
        intro gq2 cap2 w2 o2 g2 l2
        have HX2 : Hid (Cell w2 wr.heap.size 1 (.slice K nk kc) ∧ Cell w2 wr.heap.size 0 (.bool true) ∧ Cell w2 wr.heap.size 2 (.slice V nv vc) ∧ Cell w2 u 1 (.slice (some ⟨q, o, none⟩) n c)) := ⟨HX1.out.1.grown g2 hne1.out.1.symm, HX1.out.2.1.grown g2 hne1.out.1.symm, HX1.out.2.2.1.grown g2 hne1.out.1.symm, HX1.out.2.2.2.grown g2 hne1.out.2.symm⟩
        have HB2 := Lib.hid (HB1.out.trans (grown_below g2 HO1.out (Nat.le_succ _) (Nat.le_of_succ_le hs1.out)))
        have hs2 : Hid (w.heap.size + 1 ≤ w2.heap.size) := Nat.le_trans hs1.out g2.size
        have hne2 : Hid ((Value.slice (some ⟨gq2, 0, none⟩) (L.length + 1) cap2).ownBlock ≠ some wr.heap.size ∧ (Value.slice (some ⟨gq2, 0, none⟩) (L.length + 1) cap2).ownBlock ≠ some u) := ⟨l2.ne hne1.out.1 HX1.out.1.lt, l2.ne hne1.out.2 HX1.out.2.2.2.lt⟩
        obtain ⟨L2, hL2⟩ : ∃ x, x = L ++ [by8 1] := ⟨_, rfl⟩
        rw [← hL2] at o2
        have HL2 := Lib.hid hL2
        have HO2 := Lib.hid o2
        obtain ⟨n2, hn2⟩ : ∃ x, x = L.length + 1 := ⟨_, rfl⟩
        have HN2 := Lib.hid hn2
        rw [← hn2] at HO2 hne2
        rw [← hn2]
        have hll2 : Hid (L2.length = n2) := by show _ = _; rw [hL2, hn2, List.length_append]; first | rfl | (rw [HNT.out.1]) | (rw [HNT.out.2])
        clear o2 g2 l2 hn2 hL2

        have hm2 : Hid (n2 = m + 1) := by show _ = _; rw [HN2.out, HLn.out]

        obtain ⟨x3a, x3b⟩ := HX2.out.1
        go_wp2_with fail
        refine (RTK.out w2 HB2.out).mono ?_
        rintro e w3 ⟨v3, rfl, o3, h3⟩
        have HX3 : Hid (Cell w3 wr.heap.size 1 (.slice K nk kc) ∧ Cell w3 wr.heap.size 0 (.bool true) ∧ Cell w3 wr.heap.size 2 (.slice V nv vc) ∧ Cell w3 u 1 (.slice (some ⟨q, o, none⟩) n c)) := ⟨HX2.out.1.keep h3, HX2.out.2.1.keep h3, HX2.out.2.2.1.keep h3, HX2.out.2.2.2.keep h3⟩
        have HB3 := Lib.hid (HB2.out.trans (h3.mono HB2.out.size))
        have hs3 : Hid (w.heap.size + 1 ≤ w3.heap.size) := Nat.le_trans hs2.out h3.size
        have HO3 := Lib.hid (HO2.out.belowFar h3)
        obtain ⟨A3, c3, rfl, rd3⟩ := o3.rd
        have HR3 := Lib.hid rd3
        rw [← HNT.out.1]
        clear o3 h3 rd3 x3a x3b

        have hl3 : Hid (L2.length + ntk ≤ 70368744177664) := by show _ ≤ _; rw [hll2.out, hm2.out]; have := HMM.out.1; omega
        have hne3 := hne2

        go_wp2_with (at_builtin; refine app_more w3 (w.heap.size + 1) (.slice (some ⟨gq2, 0, none⟩) n2 cap2) L2 tk A3 c3 ntk HNT.out.1 HBT.out.1.1 rfl (.tmp 43) (.tmp 44) rfl rfl rfl HO3.out HR3.out hl3.out hs3.out ?_)
        intro gq4 cap4 w4 o4 g4 l4
        have HX4 : Hid (Cell w4 wr.heap.size 1 (.slice K nk kc) ∧ Cell w4 wr.heap.size 0 (.bool true) ∧ Cell w4 wr.heap.size 2 (.slice V nv vc) ∧ Cell w4 u 1 (.slice (some ⟨q, o, none⟩) n c)) := ⟨HX3.out.1.grown g4 hne3.out.1.symm, HX3.out.2.1.grown g4 hne3.out.1.symm, HX3.out.2.2.1.grown g4 hne3.out.1.symm, HX3.out.2.2.2.grown g4 hne3.out.2.symm⟩
        have HB4 := Lib.hid (HB3.out.trans (grown_below g4 HO3.out (Nat.le_succ _) (Nat.le_of_succ_le hs3.out)))
        have hs4 : Hid (w.heap.size + 1 ≤ w4.heap.size) := Nat.le_trans hs3.out g4.size
        have hne4 : Hid ((Value.slice (some ⟨gq4, 0, none⟩) (L2.length + ntk) cap4).ownBlock ≠ some wr.heap.size ∧ (Value.slice (some ⟨gq4, 0, none⟩) (L2.length + ntk) cap4).ownBlock ≠ some u) := ⟨l4.ne hne3.out.1 HX3.out.1.lt, l4.ne hne3.out.2 HX3.out.2.2.2.lt⟩
        obtain ⟨L4, hL4⟩ : ∃ x, x = L2 ++ tk := ⟨_, rfl⟩
        rw [← hL4] at o4
        have HL4 := Lib.hid hL4
        have HO4 := Lib.hid o4
        obtain ⟨n4, hn4⟩ : ∃ x, x = L2.length + ntk := ⟨_, rfl⟩
        have HN4 := Lib.hid hn4
        rw [← hn4] at HO4 hne4
        rw [← hn4]
        have hll4 : Hid (L4.length = n4) := by show _ = _; rw [hL4, hn4, List.length_append]; first | rfl | (rw [HNT.out.1]) | (rw [HNT.out.2])
        clear o4 g4 l4 hn4 hL4

        have hm4 : Hid (n4 = m + 1 + ntk) := by show _ = _; rw [HN4.out, hll2.out, hm2.out]
        have hdel := HX4.out.2.1.1

        have HF : Hid (∃ L' : List UInt8, L' = num seq ++ num n ++ opsB (l.take (k + 1)) ∧ L'.length = n4 ∧ Own w4 (w.heap.size + 1) (.slice (some ⟨gq4, 0, none⟩) n4 cap4) L') := ⟨L4, by rw [HL4.out, HL2.out]; exact hE.out, hll4.out, HO4.out⟩

        have HXF : Hid (Cell w4 u 1 (.slice A n c)) := by have h := HX4.out.2.2.2; rw [← HA.out] at h; exact h
        have HMF : Hid (n4 ≤ 20 + (k + 1) * 66000) := by show _ ≤ _; rw [hm4.out]; have := HMM.out.2; have := HBT.out.2.1; omega
        go_wp2
        go_roundw
        case rel => exact ⟨k + 1, n4, _, cap4, by go_num, by omega, rfl, HMF, HF, HB4.out, HXF⟩
        case measure => simp [intOf]; omega
      | false =>
        have hE : Hid (L ++ [by8 0] ++ tk ++ tv = num seq ++ num n ++ opsB (l.take (k + 1))) := by show _ = _; rw [HSN.out, ← List.append_assoc, ← HLL.out.1, HTK.out, HTV.out]; simp [opB]
        have HR1 : Hid (Rd ((wr.alloc (.cells #[.bool false, .slice K nk kc, .slice V nv vc] 43)).alloc (.cells #[.int .u8 0] 5)) ((wr.alloc (.cells #[.bool false, .slice K nk kc, .slice V nv vc] 43)).alloc (.cells #[.int .u8 0] 5)).heap.size (some ⟨wr.heap.size + 1, 0, none⟩) [by8 0]) := by
          have h := lit1 (show (0 : Int) = ((by8 0).toNat : Int) by rw [by8_nat]; rfl) (wr.alloc (.cells #[.bool false, .slice K nk kc, .slice V nv vc] 43))
          show Rd _ _ _ _
          simpa using h
        have HO1 := Lib.hid ((HO.out.alloc (.cells #[.bool false, .slice K nk kc, .slice V nv vc] 43)).alloc (.cells #[.int .u8 0] 5))
        have hl1 : Hid (L.length + 1 ≤ 70368744177664) := by show _ ≤ _; rw [HLL.out.2]; have := HMM.out.1; omega
        have hs1 : Hid (w.heap.size + 1 ≤ ((wr.alloc (.cells #[.bool false, .slice K nk kc, .slice V nv vc] 43)).alloc (.cells #[.int .u8 0] 5)).heap.size) := by have := hszw.out; show _ ≤ _; simp; omega
        have HB1 : Hid (Below w.heap.size w ((wr.alloc (.cells #[.bool false, .slice K nk kc, .slice V nv vc] 43)).alloc (.cells #[.int .u8 0] 5))) := ((HBR.out.alloc HBR.out.size _).alloc (by simp; have := HBR.out.size; omega) _)
        have HX1 : Hid (Cell ((wr.alloc (.cells #[.bool false, .slice K nk kc, .slice V nv vc] 43)).alloc (.cells #[.int .u8 0] 5)) wr.heap.size 1 (.slice K nk kc) ∧ Cell ((wr.alloc (.cells #[.bool false, .slice K nk kc, .slice V nv vc] 43)).alloc (.cells #[.int .u8 0] 5)) wr.heap.size 0 (.bool false) ∧ Cell ((wr.alloc (.cells #[.bool false, .slice K nk kc, .slice V nv vc] 43)).alloc (.cells #[.int .u8 0] 5)) wr.heap.size 2 (.slice V nv vc) ∧ Cell ((wr.alloc (.cells #[.bool false, .slice K nk kc, .slice V nv vc] 43)).alloc (.cells #[.int .u8 0] 5)) u 1 (.slice (some ⟨q, o, none⟩) n c)) := ⟨HBX.out.1.2.1.alloc _, HBX.out.1.1.alloc _, HBX.out.1.2.2.alloc _, HBX.out.2.alloc _⟩
        have hne1 : Hid ((Value.slice A4 m c4).ownBlock ≠ some wr.heap.size ∧ (Value.slice A4 m c4).ownBlock ≠ some u) := ⟨fun e => by have := HOW.out _ e; omega, fun e => by have h1 := (World.ownsRow.lt HO.out _ e).1; rw [HU.out] at h1; omega⟩
        have HLn : Hid (L.length = m) := HLL.out.2
        clear HBX hszw

        go_wp2_with (at_builtin; refine app_more ((wr.alloc (.cells #[.bool false, .slice K nk kc, .slice V nv vc] 43)).alloc (.cells #[.int .u8 0] 5)) (w.heap.size + 1) (.slice A4 m c4) L [by8 0] (some ⟨wr.heap.size + 1, 0, none⟩) 1 1 rfl (by decide) rfl (.tmp 33) (.tmp 35) rfl rfl rfl HO1.out HR1.out hl1.out hs1.out ?_)
        intro gq2 cap2 w2 o2 g2 l2
        have HX2 : Hid (Cell w2 wr.heap.size 1 (.slice K nk kc) ∧ Cell w2 wr.heap.size 0 (.bool false) ∧ Cell w2 wr.heap.size 2 (.slice V nv vc) ∧ Cell w2 u 1 (.slice (some ⟨q, o, none⟩) n c)) := ⟨HX1.out.1.grown g2 hne1.out.1.symm, HX1.out.2.1.grown g2 hne1.out.1.symm, HX1.out.2.2.1.grown g2 hne1.out.1.symm, HX1.out.2.2.2.grown g2 hne1.out.2.symm⟩
        have HB2 := Lib.hid (HB1.out.trans (grown_below g2 HO1.out (Nat.le_succ _) (Nat.le_of_succ_le hs1.out)))
        have hs2 : Hid (w.heap.size + 1 ≤ w2.heap.size) := Nat.le_trans hs1.out g2.size
        have hne2 : Hid ((Value.slice (some ⟨gq2, 0, none⟩) (L.length + 1) cap2).ownBlock ≠ some wr.heap.size ∧ (Value.slice (some ⟨gq2, 0, none⟩) (L.length + 1) cap2).ownBlock ≠ some u) := ⟨l2.ne hne1.out.1 HX1.out.1.lt, l2.ne hne1.out.2 HX1.out.2.2.2.lt⟩
        obtain ⟨L2, hL2⟩ : ∃ x, x = L ++ [by8 0] := ⟨_, rfl⟩
        rw [← hL2] at o2
        have HL2 := Lib.hid hL2
        have HO2 := Lib.hid o2
        obtain ⟨n2, hn2⟩ : ∃ x, x = L.length + 1 := ⟨_, rfl⟩
        have HN2 := Lib.hid hn2
        rw [← hn2] at HO2 hne2
        rw [← hn2]
        have hll2 : Hid (L2.length = n2) := by show _ = _; rw [hL2, hn2, List.length_append]; first | rfl | (rw [HNT.out.1]) | (rw [HNT.out.2])
        clear o2 g2 l2 hn2 hL2

        have hm2 : Hid (n2 = m + 1) := by show _ = _; rw [HN2.out, HLn.out]

        obtain ⟨x3a, x3b⟩ := HX2.out.1
        go_wp2_with fail
        refine (RTK.out w2 HB2.out).mono ?_
        rintro e w3 ⟨v3, rfl, o3, h3⟩
        have HX3 : Hid (Cell w3 wr.heap.size 1 (.slice K nk kc) ∧ Cell w3 wr.heap.size 0 (.bool false) ∧ Cell w3 wr.heap.size 2 (.slice V nv vc) ∧ Cell w3 u 1 (.slice (some ⟨q, o, none⟩) n c)) := ⟨HX2.out.1.keep h3, HX2.out.2.1.keep h3, HX2.out.2.2.1.keep h3, HX2.out.2.2.2.keep h3⟩
        have HB3 := Lib.hid (HB2.out.trans (h3.mono HB2.out.size))
        have hs3 : Hid (w.heap.size + 1 ≤ w3.heap.size) := Nat.le_trans hs2.out h3.size
        have HO3 := Lib.hid (HO2.out.belowFar h3)
        obtain ⟨A3, c3, rfl, rd3⟩ := o3.rd
        have HR3 := Lib.hid rd3
        rw [← HNT.out.1]
        clear o3 h3 rd3 x3a x3b

        have hl3 : Hid (L2.length + ntk ≤ 70368744177664) := by show _ ≤ _; rw [hll2.out, hm2.out]; have := HMM.out.1; omega
        have hne3 := hne2

        go_wp2_with (at_builtin; refine app_more w3 (w.heap.size + 1) (.slice (some ⟨gq2, 0, none⟩) n2 cap2) L2 tk A3 c3 ntk HNT.out.1 HBT.out.1.1 rfl (.tmp 43) (.tmp 44) rfl rfl rfl HO3.out HR3.out hl3.out hs3.out ?_)
        intro gq4 cap4 w4 o4 g4 l4
        have HX4 : Hid (Cell w4 wr.heap.size 1 (.slice K nk kc) ∧ Cell w4 wr.heap.size 0 (.bool false) ∧ Cell w4 wr.heap.size 2 (.slice V nv vc) ∧ Cell w4 u 1 (.slice (some ⟨q, o, none⟩) n c)) := ⟨HX3.out.1.grown g4 hne3.out.1.symm, HX3.out.2.1.grown g4 hne3.out.1.symm, HX3.out.2.2.1.grown g4 hne3.out.1.symm, HX3.out.2.2.2.grown g4 hne3.out.2.symm⟩
        have HB4 := Lib.hid (HB3.out.trans (grown_below g4 HO3.out (Nat.le_succ _) (Nat.le_of_succ_le hs3.out)))
        have hs4 : Hid (w.heap.size + 1 ≤ w4.heap.size) := Nat.le_trans hs3.out g4.size
        have hne4 : Hid ((Value.slice (some ⟨gq4, 0, none⟩) (L2.length + ntk) cap4).ownBlock ≠ some wr.heap.size ∧ (Value.slice (some ⟨gq4, 0, none⟩) (L2.length + ntk) cap4).ownBlock ≠ some u) := ⟨l4.ne hne3.out.1 HX3.out.1.lt, l4.ne hne3.out.2 HX3.out.2.2.2.lt⟩
        obtain ⟨L4, hL4⟩ : ∃ x, x = L2 ++ tk := ⟨_, rfl⟩
        rw [← hL4] at o4
        have HL4 := Lib.hid hL4
        have HO4 := Lib.hid o4
        obtain ⟨n4, hn4⟩ : ∃ x, x = L2.length + ntk := ⟨_, rfl⟩
        have HN4 := Lib.hid hn4
        rw [← hn4] at HO4 hne4
        rw [← hn4]
        have hll4 : Hid (L4.length = n4) := by show _ = _; rw [hL4, hn4, List.length_append]; first | rfl | (rw [HNT.out.1]) | (rw [HNT.out.2])
        clear o4 g4 l4 hn4 hL4

        have hm4 : Hid (n4 = m + 1 + ntk) := by show _ = _; rw [HN4.out, hll2.out, hm2.out]
        have hdel := HX4.out.2.1.1

        obtain ⟨x5a, x5b⟩ := HX4.out.2.2.1
        go_wp2_with fail
        refine (RTV.out w4 HB4.out).mono ?_
        rintro e w5 ⟨v5, rfl, o5, h5⟩
        have HX5 : Hid (Cell w5 wr.heap.size 1 (.slice K nk kc) ∧ Cell w5 wr.heap.size 0 (.bool false) ∧ Cell w5 wr.heap.size 2 (.slice V nv vc) ∧ Cell w5 u 1 (.slice (some ⟨q, o, none⟩) n c)) := ⟨HX4.out.1.keep h5, HX4.out.2.1.keep h5, HX4.out.2.2.1.keep h5, HX4.out.2.2.2.keep h5⟩
        have HB5 := Lib.hid (HB4.out.trans (h5.mono HB4.out.size))
        have hs5 : Hid (w.heap.size + 1 ≤ w5.heap.size) := Nat.le_trans hs4.out h5.size
        have HO5 := Lib.hid (HO4.out.belowFar h5)
        obtain ⟨A5, c5, rfl, rd5⟩ := o5.rd
        have HR5 := Lib.hid rd5
        rw [← HNT.out.2]
        clear o5 h5 rd5 x5a x5b

        have hl5 : Hid (L4.length + ntv ≤ 70368744177664) := by show _ ≤ _; rw [hll4.out, hm4.out]; have := HMM.out.1; omega
        have hne5 := hne4

        go_wp2_with (at_builtin; refine app_more w5 (w.heap.size + 1) (.slice (some ⟨gq4, 0, none⟩) n4 cap4) L4 tv A5 c5 ntv HNT.out.2 HBT.out.2.1 rfl (.tmp 55) (.tmp 56) rfl rfl rfl HO5.out HR5.out hl5.out hs5.out ?_)
        intro gq6 cap6 w6 o6 g6 l6
        have HX6 : Hid (Cell w6 wr.heap.size 1 (.slice K nk kc) ∧ Cell w6 wr.heap.size 0 (.bool false) ∧ Cell w6 wr.heap.size 2 (.slice V nv vc) ∧ Cell w6 u 1 (.slice (some ⟨q, o, none⟩) n c)) := ⟨HX5.out.1.grown g6 hne5.out.1.symm, HX5.out.2.1.grown g6 hne5.out.1.symm, HX5.out.2.2.1.grown g6 hne5.out.1.symm, HX5.out.2.2.2.grown g6 hne5.out.2.symm⟩
        have HB6 := Lib.hid (HB5.out.trans (grown_below g6 HO5.out (Nat.le_succ _) (Nat.le_of_succ_le hs5.out)))
        have hs6 : Hid (w.heap.size + 1 ≤ w6.heap.size) := Nat.le_trans hs5.out g6.size
        have hne6 : Hid ((Value.slice (some ⟨gq6, 0, none⟩) (L4.length + ntv) cap6).ownBlock ≠ some wr.heap.size ∧ (Value.slice (some ⟨gq6, 0, none⟩) (L4.length + ntv) cap6).ownBlock ≠ some u) := ⟨l6.ne hne5.out.1 HX5.out.1.lt, l6.ne hne5.out.2 HX5.out.2.2.2.lt⟩
        obtain ⟨L6, hL6⟩ : ∃ x, x = L4 ++ tv := ⟨_, rfl⟩
        rw [← hL6] at o6
        have HL6 := Lib.hid hL6
        have HO6 := Lib.hid o6
        obtain ⟨n6, hn6⟩ : ∃ x, x = L4.length + ntv := ⟨_, rfl⟩
        have HN6 := Lib.hid hn6
        rw [← hn6] at HO6 hne6
        rw [← hn6]
        have hll6 : Hid (L6.length = n6) := by show _ = _; rw [hL6, hn6, List.length_append]; first | rfl | (rw [HNT.out.1]) | (rw [HNT.out.2])
        clear o6 g6 l6 hn6 hL6

        have hm6 : Hid (n6 = m + 1 + ntk + ntv) := by show _ = _; rw [HN6.out, hll4.out, hm4.out]
        have HF : Hid (∃ L' : List UInt8, L' = num seq ++ num n ++ opsB (l.take (k + 1)) ∧ L'.length = n6 ∧ Own w6 (w.heap.size + 1) (.slice (some ⟨gq6, 0, none⟩) n6 cap6) L') := ⟨L6, by rw [HL6.out, HL4.out, HL2.out]; exact hE.out, hll6.out, HO6.out⟩

        have HXF : Hid (Cell w6 u 1 (.slice A n c)) := by have h := HX6.out.2.2.2; rw [← HA.out] at h; exact h
        have HMF : Hid (n6 ≤ 20 + (k + 1) * 66000) := by show _ ≤ _; rw [hm6.out]; have := HMM.out.2; have := HBT.out.2.1; omega
        go_wp2
        go_roundw
        case rel => exact ⟨k + 1, n6, _, cap6, by go_num, by omega, rfl, HMF, HF, HB6.out, HXF⟩
        case measure => simp [intOf]; omega
    · have hkn : k = n := by omega
      subst hkn
      obtain ⟨L, hL, hLm, hO⟩ := HI.out
      have HE := Lib.hid (show L = bodyB seq l by
        rw [hL, List.take_of_length_le (by have := HN.out; omega)]; unfold bodyB; rw [← HN.out])
      replace HE := HE.out
      rw [HE] at hO
      have HO := Lib.hid (hO.mono (Nat.le_succ _))
      clear hL hLm HE hO HI
      go_wp2
      go_ret
      exact ⟨_, rfl, HO.out, hbr⟩

set_option maxHeartbeats 3200000 in
set_option maxRecDepth 100000 in
theorem rencode_any (seq : Nat) (l : List OpD) (A : Option Addr) (n c : Nat) (w : World) (hn : n = l.length) (hr : OpsRd w w.heap.size A l) (hs : SmallW l) (hq : seq < 18446744073709551616) :
    Calls Tryd.prog 8 #[.agg #[.int .u64 seq, .slice A n c]] w fun e w' => EncAns seq l w e w' ∧ Below w.heap.size w w' := by
  have hb := below1' w (.cells #[.int .u64 seq, .slice A n c] 25)
  have B0 := Cell.new w #[.int .u64 seq, .slice A n c] 25 0 (.int .u64 seq) rfl
  have B1 := Cell.new w #[.int .u64 seq, .slice A n c] 25 1 (.slice A n c) rfl
  have HV := Lib.hid (opsmay_any l A n c _ hn ((hr.below hb).more hb.size) hs)
  have HR := Lib.hid hr
  have HN := Lib.hid hn
  have hn1 : n ≤ 2513169434843 := by rw [hn]; exact hs.n
  obtain ⟨u, hu⟩ : ∃ u, u = w.heap.size := ⟨_, rfl⟩
  rw [← hu] at B0 B1
  clear hr hs hn
  go_enter Tryd.func8, Tryd.ntmps8
  go_wp2_with fail
  rw [← hu]
  clear hu
  refine HV.out.mono ?_
  rintro e w1 ⟨⟨b, rfl, hbb⟩, h1⟩
  have hb1 := hb.trans (h1.mono hb.size)
  have X0 := B0.keep h1
  have X1 := B1.keep h1
  clear HV h1 hb B0 B1
  cases b with
  | false =>
    have hE := encE_ops (seq := seq) (fun h => by have := hbb.2 h; cases this)
    have HE := Lib.hid hE
    clear hbb hE
    go_wp2
    go_ret2
    exact ⟨EncAns.bad HE.out (by decide) rfl, hb1⟩
  | true =>
    have HO := Lib.hid (hbb.1 rfl)
    obtain ⟨x0, fx0⟩ := X0
    obtain ⟨x1, fx1⟩ := X1
    have hwc : IntKind.u64.wrap (n : Int) = (n : Int) := IntWalk.u64_in _ (by omega)
    clear hbb
    by_cases e1 : seq < 1
    · have HE := Lib.hid (encE_seq (seq := seq) HO.out (fun h => by have := h.1; omega))
      have e1' : (seq : Int) < 1 := by omega
      go_wp2
      go_ret2
      exact ⟨EncAns.bad HE.out (by decide) rfl, hb1⟩
    have e1' : (1 : Int) ≤ (seq : Int) := by omega
    by_cases e2 : 4611686018427387904 < seq
    · have HE := Lib.hid (encE_seq (seq := seq) HO.out (fun h => by have := h.2.1; omega))
      have e2' : (4611686018427387904 : Int) < (seq : Int) := by omega
      go_wp2
      go_ret2
      exact ⟨EncAns.bad HE.out (by decide) rfl, hb1⟩
    have e2' : (seq : Int) ≤ 4611686018427387904 := by omega
    have hws : IntKind.u64.wrap (4611686018427387904 - (seq : Int)) = 4611686018427387904 - (seq : Int) := IntWalk.u64_in _ (by omega)
    by_cases e3 : 4611686018427387904 < seq + n
    · have HE := Lib.hid (encE_seq (seq := seq) HO.out (fun h => by have := h.2.2; have := HN.out; omega))
      have e3' : 4611686018427387904 - (seq : Int) < (n : Int) := by omega
      go_wp2
      go_ret2
      exact ⟨EncAns.bad HE.out (by decide) rfl, hb1⟩
    have e3' : (n : Int) ≤ 4611686018427387904 - (seq : Int) := by omega
    have HSQ : Hid (SeqP seq l.length) := ⟨by omega, by omega, by have := HN.out; omega⟩
    have HBo := Lib.hid (rbody_any seq l A n c w1 HN.out ((HR.out.below hb1).more hb1.size) HO.out (by omega))
    go_wp2_with fail
    refine HBo.out.mono ?_
    rintro e w2 ⟨v, rfl, o2, h2⟩
    have HB2 := Lib.hid (hb1.trans (h2.mono hb1.size))
    obtain ⟨A2, c2, rfl, rd2⟩ := o2.rd
    have HR2 := Lib.hid rd2
    obtain ⟨bo, hbo⟩ : ∃ x, x = bodyB seq l := ⟨_, rfl⟩
    rw [← hbo] at HR2
    rw [← hbo]
    have HBO := Lib.hid hbo
    obtain ⟨m, hm⟩ : ∃ x, x = bo.length := ⟨_, rfl⟩
    rw [← hm]
    have HM := Lib.hid hm
    clear o2 h2 rd2 HBo hb1 x0 x1 fx0 fx1 hbo hm
    by_cases hbig : 1048576 < m
    · have HE := Lib.hid (encE_long HO.out HSQ.out (by rw [← HBO.out, ← HM.out]; exact hbig))
      have hbig' : (1048576 : Int) < (m : Int) := by omega
      go_wp2
      go_ret2
      exact ⟨EncAns.bad HE.out (by decide) rfl, HB2.out⟩
    · have hbig' : (m : Int) ≤ 1048576 := by omega
      have HE := Lib.hid (encE_zero.2 ⟨HO.out, HSQ.out, by rw [← HBO.out, ← HM.out]; omega⟩)
      have FR := rframe_ok 66 A2 c2 bo w2 HR2.out (by rw [← HM.out]; omega)
      rw [← HM.out] at FR
      have FR : Calls Tryd.prog 17 #[.int .u8 66, .slice A2 m c2] w2 fun e w' => ∃ v, e = .returned (.tuple #[v, .int .i64 0]) ∧ Own w' w2.heap.size v (frame 66 bo) ∧ Below w2.heap.size w2 w' := FR
      have HFR := Lib.hid FR
      clear FR
      go_wp2_with fail
      refine HFR.out.mono ?_
      rintro e w7 ⟨v7, rfl, o7, h7⟩
      have HO7 := Lib.hid (o7.mono HB2.out.size)
      have HB7 := Lib.hid (HB2.out.trans (h7.mono HB2.out.size))
      replace HO7 := HO7.out
      rw [HBO.out] at HO7
      have HO7 := Lib.hid HO7
      clear o7 h7 HFR
      go_wp2
      go_ret2
      exact ⟨⟨v7, by rw [HE.out]; rfl, fun _ => HO7.out, fun h => absurd HE.out h⟩, HB7.out⟩
end Go.Proofs.YtfnifpgaieggbaaDoor
