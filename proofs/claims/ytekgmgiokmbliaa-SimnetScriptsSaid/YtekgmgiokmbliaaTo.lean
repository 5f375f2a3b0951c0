/-
  To of both lines; SameInts of two lists that are the same.
-/
import Derived.Test.YtekgmgiokmbliaaBoth
import Derived.Test.YtekgmgiokmbliaaOnce
set_option linter.unusedVariables false
namespace Go.Proofs.Ytekgmgiokmbliaa
open Go.RowKit

/-- the numbers of those to x, among the first k -/
def toL (es : List Ev) (k : Nat) (x : Int) : List Int := ((es.take k).filter (fun e => e.2.2.1 == x)).map (·.1)
theorem toL_succ {es : List Ev} {k : Nat} {x : Int} (hk : k < es.length) : toL es (k + 1) x = toL es k x ++ (if (evAt es k).2.2.1 = x then [(evAt es k).1] else []) := by
  have he : evAt es k = es[k] := by unfold evAt; rw [List.getD_eq_getElem?_getD, List.getElem?_eq_getElem hk]; rfl
  unfold toL
  rw [List.take_succ_eq_append_getElem hk, List.filter_append, List.map_append, he]
  by_cases h : es[k].2.2.1 = x <;> simp [h]
theorem toL_len (es : List Ev) (k : Nat) (x : Int) : (toL es k x).length ≤ k := by
  unfold toL
  rw [List.length_map]
  exact Nat.le_trans (List.length_filter_le _ _) (by simp; omega)

set_option maxHeartbeats 3200000 in
set_option maxRecDepth 100000 in
theorem to_any (g base : Nat) (last : Int) (fv : Value) (es : List Ev) (x : Int) (w : World) (hN : Net w g base last fv es) (hlen : es.length ≤ 1000) (hne : ∀ e ∈ es, ∃ A n c, e.2.2.2.2 = Value.slice A n c) :
    Calls Try.prog 20 #[.pointer (some ⟨g, 0, none⟩), .int .i64 x] w fun e w' => ∃ A c, e = .returned (.slice A (toL es es.length x).length c) ∧ OwnI w' w.heap.size (.slice A (toL es es.length x).length c) (toL es es.length x) ∧ Below w.heap.size w w' := by
  obtain ⟨fA, fc, rfl⟩ := hN.own.form
  have HE := Lib.hid hN.own.evs
  have k1 := hN.c1.1
  obtain ⟨n, hn⟩ : ∃ n, n = es.length := ⟨_, rfl⟩
  rw [← hn] at k1 hlen
  have HN := Lib.hid hn
  have HNE := Lib.hid hne
  have O0 : Hid (OwnI w w.heap.size (.slice none 0 0) (toL es 0 x)) := World.ownsRow_nil _ _ _ _
  rw [← hn]
  clear hN hn hne
  go_enter Try.func20, Try.ntmps20
  go_wp2
  go_loopw [5, 13] (fun s5 s13 wr => ∃ (k : Nat) (A : Option Addr) (c : Nat), s13 = .int .i64 k ∧ k ≤ n ∧ s5 = .slice A (toL es k x).length c ∧ Hid (OwnI wr w.heap.size (.slice A (toL es k x).length c) (toL es k x)) ∧ Below w.heap.size w wr) (fun _ s13 _ => n - (intOf s13).toNat)
  case atStart => exact ⟨0, none, 0, rfl, by omega, rfl, O0, Below.refl _ _⟩
  case round =>
    obtain ⟨k, A, c, rfl, hk, rfl, HO, hb⟩ := hrel
    by_cases hlt : k < n
    · have hkl : k < es.length := by have := HN.out; omega
      rcases HE.out with h0 | ⟨q, rfl, hq, hc⟩
      · have := HN.out; rw [h0] at this; simp at this; omega
      · obtain ⟨c0, c1, c2, c3, c4⟩ := hc k hkl
        obtain ⟨sA, sn, sc, hsl⟩ := HNE.out _ (evAt_mem hkl)
        have TS := Lib.hid (toL_succ (x := x) hkl)
        have TL := Lib.hid (toL_len es k x)
        obtain ⟨qk, hqk⟩ : ∃ E, E = evAt es k := ⟨_, rfl⟩
        replace TS := TS.out
        rw [← hqk] at c0 c1 c2 c3 c4 hsl TS
        replace TS := Lib.hid TS
        obtain ⟨qi, qf, qt, qn, qv⟩ := qk
        simp only at c0 c1 c2 c3 c4 hsl
        subst hsl
        clear hc hqk
        have d0 := (hb.cell (p := ⟨q, k * 5, none⟩) hq).trans c0
        have d1 := (hb.cell (p := ⟨q, k * 5 + 1, none⟩) hq).trans c1
        have d2 := (hb.cell (p := ⟨q, k * 5 + 2, none⟩) hq).trans c2
        have d3 := (hb.cell (p := ⟨q, k * 5 + 3, none⟩) hq).trans c3
        have d4 := (hb.cell (p := ⟨q, k * 5 + 4, none⟩) hq).trans c4
        have hbV := hb.alloc hb.size (.cells #[.int .i64 qi, .int .i64 qf, .int .i64 qt, .int .i64 qn, .slice sA sn sc] 32)
        have OV := Lib.hid (World.ownsRow.alloc HO.out (.cells #[.int .i64 qi, .int .i64 qf, .int .i64 qt, .int .i64 qn, .slice sA sn sc] 32))
        clear c0 c1 c2 c3 c4
        by_cases hx : qt = x
        · subst hx
          have hsz := Lib.hid hbV.size
          have HB := Lib.hid hbV
          have Tl : Hid ((toL es k qt).length < 1000) := by have := TL.out; show _ < _; omega
          clear hbV
          go_wp2_with (at_builtin; refine app_int _ w.heap.size (.slice A (toL es k qt).length c) (toL es k qt).length (toL es k qt) qi rfl (.tmp 21) (.tmp 24) rfl rfl (wr.heap.size + 1) (by simp) rfl OV.out rfl Tl.out hsz.out ?_)
          intro gq cap w6 O6 hgr hl6
          have h6 : Below w.heap.size w w6 := (HB.out.alloc HB.out.size (.cells #[.int .i64 qi] 3)).grown hgr (Nat.le_trans HB.out.size (by simp)) (fun b hb' => (World.ownsRow.lt HO.out b hb').1)
          have HO6 := Lib.hid O6
          clear O6 hgr hl6 HO OV
          go_wp2
          go_roundw
          case rel =>
            have e1 : toL es (k + 1) qt = toL es k qt ++ [qi] := by rw [TS.out]; simp
            refine ⟨k + 1, some ⟨gq, 0, none⟩, cap, by go_num, by omega, by rw [e1]; simp, ?_, h6⟩
            rw [e1]
            have := HO6.out
            exact Lib.hid (by simpa using this)
          case measure => simp [intOf]; omega
        · have hne : (qt == x) = false := by rw [beq_eq_false_iff_ne]; exact hx
          have e1 : Hid (toL es (k + 1) x = toL es k x) := by show _ = _; rw [TS.out]; simp [hx]
          go_wp2
          go_roundw
          case rel => exact ⟨k + 1, A, c, by go_num, by omega, by rw [e1.out], by rw [e1.out]; exact OV.out, hbV⟩
          case measure => simp [intOf]; omega
    · have hkn : k = n := by omega
      subst hkn
      go_wp2
      go_ret
      exact ⟨A, c, rfl, HO.out, hb⟩

set_option maxHeartbeats 3200000 in
set_option maxRecDepth 100000 in
theorem rto_any (g base : Nat) (last : Int) (fv : Value) (es : List Ev) (x : Int) (w : World) (hN : RNet w g base last fv es) (hlen : es.length ≤ 1000) :
    Calls Try.prog 21 #[.pointer (some ⟨g, 0, none⟩), .int .i64 x] w fun e w' => ∃ A c, e = .returned (.slice A (toL es es.length x).length c) ∧ OwnI w' w.heap.size (.slice A (toL es es.length x).length c) (toL es es.length x) ∧ Below w.heap.size w w' := by
  obtain ⟨fA, fc, rfl⟩ := hN.own.form
  have HE := Lib.hid hN.own.evs
  have k1 := hN.c1.1
  have hgw := hN.c1.lt
  obtain ⟨n, hn⟩ : ∃ n, n = es.length := ⟨_, rfl⟩
  rw [← hn] at k1 hlen
  have HN := Lib.hid hn
  have O0 : Hid (OwnI w w.heap.size (.slice none 0 0) (toL es 0 x)) := World.ownsRow_nil _ _ _ _
  rw [← hn]
  clear hN hn
  go_enter Try.func21, Try.ntmps21
  go_wp2
  go_loopw [5, 6] (fun s5 s6 wr => ∃ (k : Nat) (A : Option Addr) (c : Nat), s6 = .int .i64 k ∧ k ≤ n ∧ s5 = .slice A (toL es k x).length c ∧ Hid (OwnI wr w.heap.size (.slice A (toL es k x).length c) (toL es k x)) ∧ Below w.heap.size w wr) (fun _ s6 _ => n - (intOf s6).toNat)
  case atStart => exact ⟨0, none, 0, rfl, by omega, rfl, O0, Below.refl _ _⟩
  case round =>
    obtain ⟨k, A, c, rfl, hk, rfl, HO, hb⟩ := hrel
    have k2 := (hb.cell (p := ⟨g, 0, none⟩) hgw).trans k1
    by_cases hlt : k < n
    · have hkl : k < es.length := by have := HN.out; omega
      rcases HE.out with h0 | ⟨q, rfl, hq, hc⟩
      · have := HN.out; rw [h0] at this; simp at this; omega
      · obtain ⟨c0, _, c2, _, _⟩ := hc k hkl
        have TS := Lib.hid (toL_succ (x := x) hkl)
        have TL := Lib.hid (toL_len es k x)
        obtain ⟨qk, hqk⟩ : ∃ E, E = evAt es k := ⟨_, rfl⟩
        replace TS := TS.out
        rw [← hqk] at c0 c2 TS
        replace TS := Lib.hid TS
        obtain ⟨qi, qf, qt, qn, qv⟩ := qk
        simp only at c0 c2
        clear hc hqk
        have d0 := (hb.cell (p := ⟨q, k * 5, none⟩) hq).trans c0
        have d2 := (hb.cell (p := ⟨q, k * 5 + 2, none⟩) hq).trans c2
        clear c0 c2
        by_cases hx : qt = x
        · subst hx
          have hsz := Lib.hid hb.size
          have HB := Lib.hid hb
          have Tl : Hid ((toL es k qt).length < 1000) := by have := TL.out; show _ < _; omega
          clear hb
          go_wp2_with (at_builtin; refine app_int _ w.heap.size (.slice A (toL es k qt).length c) (toL es k qt).length (toL es k qt) qi rfl (.tmp 26) (.tmp 35) rfl rfl wr.heap.size (by simp) rfl HO.out rfl Tl.out hsz.out ?_)
          intro gq cap w6 O6 hgr hl6
          have h6 : Below w.heap.size w w6 := (HB.out.alloc HB.out.size (.cells #[.int .i64 qi] 3)).grown hgr (Nat.le_trans HB.out.size (by simp)) (fun b hb' => (World.ownsRow.lt HO.out b hb').1)
          have HO6 := Lib.hid O6
          clear O6 hgr hl6 HO
          go_wp2
          go_roundw
          case rel =>
            have e1 : toL es (k + 1) qt = toL es k qt ++ [qi] := by rw [TS.out]; simp
            refine ⟨k + 1, some ⟨gq, 0, none⟩, cap, by go_num, by omega, by rw [e1]; simp, ?_, h6⟩
            rw [e1]
            have := HO6.out
            exact Lib.hid (by simpa using this)
          case measure => simp [intOf]; omega
        · have hne : (qt == x) = false := by rw [beq_eq_false_iff_ne]; exact hx
          have e1 : Hid (toL es (k + 1) x = toL es k x) := by show _ = _; rw [TS.out]; simp [hx]
          go_wp2
          go_roundw
          case rel => exact ⟨k + 1, A, c, by go_num, by omega, by rw [e1.out], by rw [e1.out]; exact HO.out, hb⟩
          case measure => simp [intOf]; omega
    · have hkn : k = n := by omega
      subst hkn
      go_wp2
      go_ret
      exact ⟨A, c, rfl, HO.out, hb⟩
end Go.Proofs.Ytekgmgiokmbliaa
