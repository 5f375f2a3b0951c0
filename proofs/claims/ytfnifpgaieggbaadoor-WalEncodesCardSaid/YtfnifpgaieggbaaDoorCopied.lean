/-
  The law's copies of operations.
-/
import Derived.Test.YtfnifpgaieggbaaDoorTakeBat
set_option linter.unusedVariables false
namespace Go.Proofs.YtfnifpgaieggbaaDoor
open Go.RowKit

theorem apart_own {w : World} {base b : Nat} {v : Value} {A : Option Addr} {c n : Nat} {l : List UInt8} (h : Own w b (.slice A n c) l) (hb : base ≤ b) (hv : ∀ q, v.ownBlock = some q → q < b) : Apart w base v A l := by
  obtain ⟨A', c', he, hr⟩ := h.rd
  obtain ⟨e1, e2, e3⟩ := Value.slice.inj he
  subst e1 e2 e3
  refine ⟨hr, fun hl q o e => ?_⟩
  subst e
  obtain ⟨g, c2, he2, hg⟩ := h.shape (fun h0 => hl (List.eq_nil_of_length_eq_zero h0))
  obtain ⟨e1, e2, e3⟩ := Value.slice.inj he2
  injection e1 with e1
  injection e1 with e1
  subst e1
  exact ⟨fun e => by have := hv _ e; omega, by omega⟩
theorem Box.toD {w : World} {k : Nat} {vs : List Value} (h : Box w k vs) : Box w.drew k vs := h
theorem Own.len {w : World} {base n c : Nat} {A : Option Addr} {l : List UInt8} (h : Own w base (.slice A n c) l) : n = l.length := by
  obtain ⟨A', c', he, _⟩ := h.rd
  exact (Value.slice.inj he).2.1
theorem Own.formN {w : World} {base n : Nat} {v : Value} {l : List UInt8} (h : Own w base v l) (hn : l.length = n) : ∃ A c, v = .slice A n c := by
  subst hn
  obtain ⟨A, c, he, _⟩ := h.rd
  exact ⟨A, c, he⟩
theorem Own.form {w : World} {base : Nat} {v : Value} {l : List UInt8} (h : Own w base v l) : ∃ A c, v = .slice A l.length c := by
  obtain ⟨A, c, he, _⟩ := h.rd
  exact ⟨A, c, he⟩
theorem Own.setOff {w : World} {base : Nat} {v : Value} {l : List UInt8} (h : Own w base v l) {p : Addr} (hp : v.ownBlock ≠ some p.block) (u : Value) : Own (w.setCell p u) base v l :=
  row_block h (fun k hk => by
    rw [Below.heap_setCell _ _ _ _ (by
      intro e
      exact hp (by rw [hk, e]))])
theorem app_opN {ops : Array Oper} {rest : List Oper} {o : Oper} {a : Act} {Q : Exit → Act → World → Prop} (w : World) (base : Nat) (v : Value) (n : Nat) (l : List OV) (y : OV) (nk nv : Nat) (hnk : nk = y.d.key.length) (hnv : nv = y.d.val.length) (hgd : o.guard = none) (s x : Operand)
    (ho : o.op = .call { callee := .builtin .append, args := #[s, x], argTypes := #[23, 23] })
    (hs : a.eval s = v) (H : Nat) (hH : w.heap.size = H) (hx : a.eval x = .slice (some ⟨H, 0, none⟩) 1 1) (hg : GotO w base v l) (hk : Apart w base v y.K y.d.key) (hv : Apart w base v y.V y.d.val) (hn : n = l.length) (hlen : n < 2513169434844) (hbase : base ≤ w.heap.size)
    (h : ∀ gq cap w', GotO w' base (.slice (some ⟨gq, 0, none⟩) (n + 1) cap) (l ++ [y]) → w.grownBy w' v.ownBlock → wpList Tryd.prog ops Q rest (a.put o.dst (.slice (some ⟨gq, 0, none⟩) (n + 1) cap)) w') :
    wpList Tryd.prog ops Q (o :: rest) a (w.alloc (.cells #[.bool y.d.del, .slice y.K nk y.kc, .slice y.V nv y.vc] 43)) := by
  subst hnk hnv
  exact app_op w base v n l y hgd s x ho hs H hH hx hg hk hv hn hlen hbase h
set_option maxHeartbeats 6400000 in
set_option maxRecDepth 100000 in
theorem copiedops_any (l : List OpD) (A : Option Addr) (n c : Nat) (w : World) (hn : n = l.length) (hr : OpsRd w w.heap.size A l) (hs : SmallW l) :
    Calls Tryd.prog 14 #[.slice A n c] w fun e w' => ∃ A' c' L, e = .returned (.slice A' n c') ∧ GotO w' w.heap.size (.slice A' n c') L ∧ L.map (·.d) = l ∧ Below w.heap.size w w' := by
  have HR := Lib.hid hr
  have HS := Lib.hid hs
  have HN := Lib.hid hn
  have hn1 : n ≤ 2513169434843 := by rw [hn]; exact hs.n
  clear hr hs hn
  go_enter Tryd.func14, Tryd.ntmps14
  go_wp2
  go_loopw [3, 4] (fun s3 s4 wr => ∃ (k : Nat) (A4 : Option Addr) (c4 : Nat), s4 = .int .i64 k ∧ k ≤ n ∧ s3 = .slice A4 k c4 ∧ Hid (∃ L : List OV, L.map (·.d) = l.take k ∧ GotO wr w.heap.size (.slice A4 k c4) L) ∧ Below w.heap.size w wr) (fun _ s4 _ => n - (intOf s4).toNat)
  case atStart => exact ⟨0, none, 0, rfl, by omega, rfl, ⟨[], rfl, World.ownsRow_nil _ _ _ _, fun o h => nomatch h⟩, Below.refl _ _⟩
  case round =>
    obtain ⟨k, A4, c4, rfl, hk, rfl, HI, hbr⟩ := hrel
    by_cases hlt : k < n
    · have hkl : k < l.length := by have := HN.out; omega
      rcases HR.out with hz | ⟨q, o, hA, hq, hc⟩
      · rw [hz] at hkl; simp at hkl
      rw [hA]
      obtain ⟨K, kc, V, vc, q0, q1, q2, rk, rv⟩ := hc k hkl
      have HTK := Lib.hid (List.take_succ_eq_append_getElem hkl)
      obtain ⟨y, hy⟩ : ∃ y, y = l[k] := ⟨_, rfl⟩
      have hsk := HS.out.k _ (List.getElem_mem hkl)
      have hsv := HS.out.v _ (List.getElem_mem hkl)
      replace HTK := HTK.out
      rw [← hy] at q0 q1 q2 rk rv hsk hsv HTK
      replace HTK := Lib.hid HTK
      obtain ⟨del, key, val⟩ := y
      simp only at q0 q1 q2 rk rv hsk hsv
      obtain ⟨L, hL, hG⟩ := HI.out
      have HGL := Lib.hid (And.intro hL hG)
      obtain ⟨nk, hnk⟩ : ∃ x, x = key.length := ⟨_, rfl⟩
      obtain ⟨nv, hnv⟩ : ∃ x, x = val.length := ⟨_, rfl⟩
      have HNK := Lib.hid (And.intro hnk hnv)
      rw [← hnk] at q1 hsk
      rw [← hnv] at q2 hsv
      have HRK := Lib.hid rk
      have HRV := Lib.hid rv
      have HQ0 := Lib.hid (And.intro q0 (And.intro q1 q2))
      have HBR := Lib.hid hbr
      have HQ := Lib.hid hq
      have hlt' : (k : Int) < (n : Int) := by omega
      have HSZ := Lib.hid (And.intro hsk hsv)
      have CC := fun (W : World) (h : Below w.heap.size w W) => (show W.cell? ⟨q, o + k * 3, none⟩ = some (.bool del) ∧ W.cell? ⟨q, o + k * 3 + 1, none⟩ = some (.slice K nk kc) ∧ W.cell? ⟨q, o + k * 3 + 2, none⟩ = some (.slice V nv vc) from ⟨(h.cell (p := ⟨q, o + k * 3, none⟩) HQ.out).trans HQ0.out.1, (h.cell (p := ⟨q, o + k * 3 + 1, none⟩) HQ.out).trans HQ0.out.2.1, (h.cell (p := ⟨q, o + k * 3 + 2, none⟩) HQ.out).trans HQ0.out.2.2⟩)
      have HCC := Lib.hid CC
      have HOW : Hid (∀ q, (Value.slice A4 k c4).ownBlock = some q → q < wr.heap.size) := fun q hq => (World.ownsRow.lt hG.own q hq).2
      have d0 := (CC wr hbr).1
      have hszw : Hid (w.heap.size ≤ wr.heap.size) := hbr.size
      clear hc q0 q1 q2 rk rv hy hL hG HI hA hnk hnv hbr hq hsk hsv CC
      have B1w : Hid (Below w.heap.size w (wr.alloc (.cells #[.bool del, .slice none 0 0, .slice none 0 0] 43))) := HBR.out.alloc hszw.out _
      obtain ⟨W1, hW1⟩ : ∃ x, x = wr.alloc (.cells #[.bool del, .slice none 0 0, .slice none 0 0] 43) := ⟨_, rfl⟩
      have hz1 : Hid (W1.heap.size = wr.heap.size + 1) := by show _ = _; rw [hW1]; simp
      have X1 : Hid (Box W1 wr.heap.size [.bool del, .slice none 0 0, .slice none 0 0]) := by show Box _ _ _; rw [hW1]; exact Box.new _ _ _ _ rfl
      have BW1 : Hid (Below wr.heap.size wr W1) := by show Below _ _ _; rw [hW1]; exact below1' _ _
      rw [← hW1] at B1w
      have e1 := (HCC.out _ B1w.out).2.1
      have R1 : Hid (Rd W1.drew W1.drew.heap.size K key) := (HRK.out.below B1w.out).more B1w.out.size
      have hl1 : Hid (([] : List UInt8).length + key.length ≤ 225179981368000) := by have := HSZ.out.1; have := HNK.out.1; show _ ≤ _; simp; omega
      have hl2 : Hid (([] : List UInt8).length + val.length ≤ 225179981368000) := by have := HSZ.out.2; have := HNK.out.2; show _ ≤ _; simp; omega
      have b10 := (X1.out 1 _ rfl).1
      go_upto_region 6 with fail
      rw [← hW1]
      clear hW1
      go_region_law (refine step_app_bytes W1.drew W1.heap.size (.slice none 0 0) [] key K kc nk rfl (.tmp 19) (.tmp 24) rfl rfl rfl HNK.out.1 (Own.nil_ _ _) R1.out hl1.out (Nat.le_refl _) ?_; intro v4 w4 o4 g4; obtain ⟨A5, c5, rfl⟩ := o4.formN (show ([] ++ key : List UInt8).length = nk from HNK.out.1.symm); have Y1 := (X1.out.toD).grown g4 (fun e => by cases e); have y1 := (Y1 1 _ rfl).1; have f1 := (Y1 1 _ rfl).2; have O4 := Lib.hid (show Own w4 _ _ key from o4); have G4 := Lib.hid g4; clear o4 g4 Y1)
      all_goals
        have HB2 := Lib.hid ((BW1.out.trans (below_of_drew (grown_belowR (B := wr.heap.size) G4.out (fun q e => by cases e) (show wr.heap.size ≤ W1.heap.size by have := hz1.out; omega)))).setCell (p := ⟨wr.heap.size, 1, none⟩) (Nat.le_refl _) (.slice A5 nk c5))
        have X2 := Lib.hid ((X1.out.toD.grown G4.out (fun e => by cases e)).set 1 (.slice A5 nk c5))
        have HO2 := Lib.hid (O4.out.setFar (p := ⟨wr.heap.size, 1, none⟩) (by have := hz1.out; show wr.heap.size < _; omega) (.slice A5 nk c5))
        obtain ⟨W2, hW2⟩ : ∃ x, x = w4.setCell ⟨wr.heap.size, 1, none⟩ (.slice A5 nk c5) := ⟨_, rfl⟩
        have hz2 : Hid (wr.heap.size < W2.heap.size) := by
          have h1 := (X2.out 0 _ rfl).lt
          rw [← hW2] at h1
          exact h1
        rw [← hW2] at HB2 X2 HO2
        rw [← hW2]
        have B2w := Lib.hid (HBR.out.trans (HB2.out.mono hszw.out))
        have e2 := (HCC.out _ B2w.out).2.2
        have b20 := (X2.out 2 _ rfl).1
        have R2 : Hid (Rd W2.drew W2.drew.heap.size V val) := (HRV.out.below B2w.out).more B2w.out.size
        clear hW2 O4 G4 X1 BW1 b10 y1 f1 R1 hl1 e1 B1w
        go_upto_region 7 with fail
        go_region_law (refine step_app_bytes W2.drew W2.heap.size (.slice none 0 0) [] val V vc nv rfl (.tmp 28) (.tmp 33) rfl rfl rfl HNK.out.2 (Own.nil_ _ _) R2.out hl2.out (Nat.le_refl _) ?_; intro v6 w6 o6 g6; obtain ⟨A7, c7, rfl⟩ := o6.formN (show ([] ++ val : List UInt8).length = nv from HNK.out.2.symm); have Y2 := (X2.out.toD).grown g6 (fun e => by cases e); have y2 := (Y2 2 _ rfl).1; have f2 := (Y2 2 _ rfl).2; have O6 := Lib.hid (show Own w6 _ _ val from o6); have G6 := Lib.hid g6; clear o6 g6 Y2)
        all_goals
          have HB3 := Lib.hid ((HB2.out.trans (below_of_drew (grown_belowR (B := wr.heap.size) G6.out (fun q e => by cases e) (Nat.le_of_lt hz2.out)))).setCell (p := ⟨wr.heap.size, 2, none⟩) (Nat.le_refl _) (.slice A7 nv c7))
          have X3 := Lib.hid ((X2.out.toD.grown G6.out (fun e => by cases e)).set 2 (.slice A7 nv c7))
          have HO3v := Lib.hid (O6.out.setFar (p := ⟨wr.heap.size, 2, none⟩) (show wr.heap.size < _ from hz2.out) (.slice A7 nv c7))
          have HO3k := Lib.hid (((show Own W2.drew _ _ _ from HO2.out).grownFar G6.out (fun g e => by cases e)).setFar (p := ⟨wr.heap.size, 2, none⟩) (by have := hz1.out; show wr.heap.size < _; omega) (.slice A7 nv c7))
          obtain ⟨W3, hW3⟩ : ∃ x, x = w6.setCell ⟨wr.heap.size, 2, none⟩ (.slice A7 nv c7) := ⟨_, rfl⟩
          rw [← hW3] at HB3 X3 HO3v HO3k
          rw [← hW3]
          have B3w := Lib.hid (HBR.out.trans (HB3.out.mono hszw.out))
          have b30 := (X3.out 0 _ rfl).1
          have b31 := (X3.out 1 _ rfl).1
          have b32 := (X3.out 2 _ rfl).1
          have hGo3 := Lib.hid (HGL.out.2.keep HB3.out)
          have hK3 := Lib.hid (apart_own HO3k.out (show w.heap.size ≤ _ by have := hz1.out; have := hszw.out; omega) (fun q hq => by have := HOW.out q hq; have := hz1.out; omega))
          have hV3 := Lib.hid (apart_own HO3v.out (show w.heap.size ≤ _ by have := hz2.out; have := hszw.out; omega) (fun q hq => by have := HOW.out q hq; have := hz2.out; omega))
          have hkL : Hid (k = L.length) := by
            have h := congrArg List.length HGL.out.1
            simp at h
            show _ = _
            omega
          have hkk : Hid (k < 2513169434844) := by show _ < _; omega
          clear hW3 O6 G6 X2 b20 y2 f2 R2 hl2 e2 B2w HO2 HB2
          go_wp2_with (at_builtin; refine app_opN W3 w.heap.size (.slice A4 k c4) k L ⟨⟨del, key, val⟩, A5, c5, A7, c7⟩ nk nv HNK.out.1 HNK.out.2 rfl (.tmp 36) (.tmp 38) rfl rfl W3.heap.size rfl rfl hGo3.out hK3.out hV3.out hkL.out hkk.out B3w.out.size ?_)
          intro gq cap w8 o8 g8
          have HB8 := Lib.hid (B3w.out.trans (grown_belowR (B := w.heap.size) g8 (fun q e => (World.ownsRow.lt hGo3.out.own q e).1) B3w.out.size))
          have HF : Hid (∃ L' : List OV, L'.map (·.d) = l.take (k + 1) ∧ GotO w8 w.heap.size (.slice (some ⟨gq, 0, none⟩) (k + 1) cap) L') := ⟨_, by rw [List.map_append, HGL.out.1, HTK.out]; rfl, o8⟩
          clear o8 g8 b30 b31 b32 hGo3 hK3 hV3 X3
          go_wp2
          go_roundw
          case rel => exact ⟨k + 1, some ⟨gq, 0, none⟩, cap, by go_num, by omega, rfl, HF, HB8.out⟩
          case measure => simp [intOf]; omega
    · have hkn : k = n := by omega
      subst hkn
      obtain ⟨L, hL, hG⟩ := HI.out
      rw [List.take_of_length_le (by have := HN.out; omega)] at hL
      have HF := Lib.hid (And.intro hL hG)
      clear hL hG HI
      go_wp2
      go_ret
      exact ⟨_, _, L, rfl, HF.out.2, HF.out.1, hbr⟩

theorem GotO.lower {w : World} {b b' : Nat} {v : Value} {l : List OV} (h : GotO w b v l) (hb : b' ≤ b) : GotO w b' v l :=
  ⟨⟨h.own.1, by
    rcases h.own.2 with hn | ⟨g, cap, cur, hv, hg, r⟩
    · exact .inl hn
    · exact .inr ⟨g, cap, cur, hv, Nat.le_trans hb hg, r⟩⟩,
   fun o ho => ⟨⟨(h.rd o ho).1.rd, fun h0 q o' e => ⟨((h.rd o ho).1.ne h0 q o' e).1, Nat.le_trans hb ((h.rd o ho).1.ne h0 q o' e).2⟩⟩, ⟨(h.rd o ho).2.rd, fun h0 q o' e => ⟨((h.rd o ho).2.ne h0 q o' e).1, Nat.le_trans hb ((h.rd o ho).2.ne h0 q o' e).2⟩⟩⟩⟩
set_option maxHeartbeats 3200000 in
set_option maxRecDepth 100000 in
theorem copied_any (seq : Nat) (l : List OpD) (A : Option Addr) (n c : Nat) (w : World) (hn : n = l.length) (hr : OpsRd w w.heap.size A l) (hs : SmallW l) :
    Calls Tryd.prog 7 #[.agg #[.int .u64 seq, .slice A n c]] w fun e w' => ∃ A' c' L, e = .returned (.agg #[.int .u64 seq, .slice A' n c']) ∧ GotO w' w.heap.size (.slice A' n c') L ∧ L.map (·.d) = l ∧ Below w.heap.size w w' := by
  obtain ⟨W0, hW0⟩ : ∃ x, x = ((w.alloc (.cells #[.int .u64 seq, .slice A n c] 25)).alloc (.cells #[.int .u64 0, .slice none 0 0] 25)).alloc (.cells #[.int .u64 seq, .slice none 0 0] 25) := ⟨_, rfl⟩
  have hz0 : Hid (W0.heap.size = w.heap.size + 1 + 1 + 1) := by show _ = _; rw [hW0]; simp
  have hb0 : Hid (Below w.heap.size w W0) := by
    show Below _ _ _
    rw [hW0]
    exact (((below1' w _).alloc (by simp) _).alloc (by simp; omega) _)
  have Z0 : Hid (Box W0 (w.heap.size + 1) [.int .u64 0, .slice none 0 0]) := by
    show Box _ _ _
    rw [hW0]
    have h := Box.new (w.alloc (.cells #[.int .u64 seq, .slice A n c] 25)) #[.int .u64 0, .slice none 0 0] 25 _ rfl
    rw [show (w.alloc (.cells #[.int .u64 seq, .slice A n c] 25)).heap.size = w.heap.size + 1 by simp] at h
    exact h.keep (below1' _ _)
  have X0 : Hid (Box W0 (w.heap.size + 1 + 1) [.int .u64 seq, .slice none 0 0]) := by
    show Box _ _ _
    rw [hW0]
    have h := Box.new ((w.alloc (.cells #[.int .u64 seq, .slice A n c] 25)).alloc (.cells #[.int .u64 0, .slice none 0 0] 25)) #[.int .u64 seq, .slice none 0 0] 25 _ rfl
    rw [show ((w.alloc (.cells #[.int .u64 seq, .slice A n c] 25)).alloc (.cells #[.int .u64 0, .slice none 0 0] 25)).heap.size = w.heap.size + 1 + 1 by simp] at h
    exact h
  have HC := Lib.hid (copiedops_any l A n c W0 hn ((hr.below hb0.out).more hb0.out.size) hs)
  clear hr hs hn
  go_enter Tryd.func7, Tryd.ntmps7
  go_wp2_with fail
  rw [← hW0]
  clear hW0
  refine HC.out.mono ?_
  rintro e W1 ⟨A', c', L, rfl, hG, hL, h1⟩
  have HB1 := Lib.hid (hb0.out.trans (h1.mono hb0.out.size))
  have HGL := Lib.hid (And.intro hG hL)
  have Z1 := Lib.hid (Z0.out.keep h1)
  have X1 := Lib.hid (X0.out.keep h1)
  obtain ⟨x0, fx0⟩ := X1.out 0 _ rfl
  obtain ⟨x1, fx1⟩ := X1.out 1 _ rfl
  obtain ⟨z0, fz0⟩ := Z1.out 0 _ rfl
  obtain ⟨z1, fz1⟩ := Z1.out 1 _ rfl
  clear hG hL h1 Z0 X0 HC
  go_wp2
  have O1 := (Only.refl (w.heap.size + 1 + 1) W1).set1 1 (.slice A' n c')
  have O2 := ((Only.refl (w.heap.size + 1) (W1.setCell ⟨w.heap.size + 1 + 1, 1, none⟩ (.slice A' n c'))).set1 0 (.int .u64 seq)).set1 1 (.slice A' n c')
  refine bodyPost_ret (v := .agg #[.int .u64 seq, .slice A' n c']) (by rw [results_cell1 rfl]; go_simp) rfl ⟨A', c', L, rfl, ((HGL.out.1.off O1 (by have := hz0.out; omega)).off O2 (by have := hz0.out; omega)).lower hb0.out.size, HGL.out.2, ?_⟩
  exact (HB1.out.trans (O1.below (by omega) HB1.out.size)).trans (O2.below (by omega) (Nat.le_trans HB1.out.size O1.size))
end Go.Proofs.YtfnifpgaieggbaaDoor
