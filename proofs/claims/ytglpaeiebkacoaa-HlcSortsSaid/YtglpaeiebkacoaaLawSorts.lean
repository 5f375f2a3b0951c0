/-
  The walk of the law HlcSorts.
-/
import Derived.Test.YtglpaeiebkacoaaSorts
set_option linter.unusedVariables false
namespace Go.Proofs.Ytglpaeiebkacoaa
open Go.RowKit

theorem bytes_in (a b : Nat) (w : World) (h : stOk a b = true) : Calls Try.prog 18 #[.agg #[.int .i64 a, .int .i64 b]] w fun e w' => ∃ A c, e = .returned (.tuple #[.slice A (stBytes a b).length c, .int .i64 0]) ∧ Rd w' w'.heap.size A (stBytes a b) ∧ (stBytes a b).length ≤ c ∧ Below w.heap.size w w' := by
  refine (bytes_ok a b w h).mono ?_
  rintro e w' ⟨v, rfl, ho, hb⟩
  obtain ⟨A, c, rfl, hr, hc⟩ := ho.rdc
  exact ⟨A, c, rfl, hr, hc, hb⟩

set_option maxHeartbeats 800000 in
set_option maxRecDepth 100000 in
theorem sorts_bad1 (a b c d : Int) (w : World) (h : stOk a b = false) :
    Calls Try.prog 5 #[.agg #[.int .i64 a, .int .i64 b], .agg #[.int .i64 c, .int .i64 d]] w fun e w' => e = .returned (.bool true) ∧ Below w.heap.size w w' := by
  have RA := Lib.hid (rright_any a b)
  have RB := Lib.hid (rright_any c d)
  rw [h] at RA
  obtain ⟨q, hq⟩ : ∃ q, q = stOk c d := ⟨_, rfl⟩
  rw [← hq] at RB
  clear hq
  clear h
  go_enter Try.func5, Try.ntmps5
  go_wp2_with fail
  refine (awake_any _).mono ?_
  rintro e w1 ⟨rfl, hb1⟩
  obtain ⟨za, zb, zc, zd, hb, hsz⟩ := after_two hb1
  clear hb1
  go_wp2_with fail
  refine (RA.out _).mono ?_
  rintro e w2 ⟨rfl, hw2⟩
  have za := kept0 hw2 za
  have zb := kept0 hw2 zb
  have zc := kept0 hw2 zc
  have zd := kept0 hw2 zd
  have hb := hb.trans (hw2.mono hb.size)
  clear hw2
  go_wp2_with fail
  refine (RB.out _).mono ?_
  rintro e w3 ⟨rfl, hw3⟩
  have za := kept0 hw3 za
  have zb := kept0 hw3 zb
  have zc := kept0 hw3 zc
  have zd := kept0 hw3 zd
  have hb := hb.trans (hw3.mono hb.size)
  clear hw3
  go_wp2
  go_ret
  exact ⟨by simp, hb⟩

set_option maxHeartbeats 800000 in
set_option maxRecDepth 100000 in
theorem sorts_bad2 (a b c d : Int) (w : World) (h : stOk a b = true) (h2 : stOk c d = false) :
    Calls Try.prog 5 #[.agg #[.int .i64 a, .int .i64 b], .agg #[.int .i64 c, .int .i64 d]] w fun e w' => e = .returned (.bool true) ∧ Below w.heap.size w w' := by
  have RA := Lib.hid (rright_any a b)
  have RB := Lib.hid (rright_any c d)
  rw [h] at RA
  rw [h2] at RB
  clear h2
  clear h
  go_enter Try.func5, Try.ntmps5
  go_wp2_with fail
  refine (awake_any _).mono ?_
  rintro e w1 ⟨rfl, hb1⟩
  obtain ⟨za, zb, zc, zd, hb, hsz⟩ := after_two hb1
  clear hb1
  go_wp2_with fail
  refine (RA.out _).mono ?_
  rintro e w2 ⟨rfl, hw2⟩
  have za := kept0 hw2 za
  have zb := kept0 hw2 zb
  have zc := kept0 hw2 zc
  have zd := kept0 hw2 zd
  have hb := hb.trans (hw2.mono hb.size)
  clear hw2
  go_wp2_with fail
  refine (RB.out _).mono ?_
  rintro e w3 ⟨rfl, hw3⟩
  have za := kept0 hw3 za
  have zb := kept0 hw3 zb
  have zc := kept0 hw3 zc
  have zd := kept0 hw3 zd
  have hb := hb.trans (hw3.mono hb.size)
  clear hw3
  go_wp2
  go_ret
  exact ⟨by simp, hb⟩

set_option maxHeartbeats 1600000 in
set_option maxRecDepth 100000 in
theorem sorts_next (a b c d : Nat) (w : World) (h : stOk a b = true) (h2 : stOk c d = true) (hn : (stNext a b).2.2 = 0) :
    Calls Try.prog 5 #[.agg #[.int .i64 a, .int .i64 b], .agg #[.int .i64 c, .int .i64 d]] w fun e w' => e = .returned (.bool true) ∧ Below w.heap.size w w' := by
  have RA := Lib.hid (rright_any a b)
  have RB := Lib.hid (rright_any c d)
  rw [h] at RA
  rw [h2] at RB
  have BA := Lib.hid (fun w => bytes_in a b w h)
  have BB := Lib.hid (fun w => bytes_in c d w h2)
  have hl := st_less h h2
  have hs := st_same h h2
  have hr := rdAll_st h
  have CC := Lib.hid (compare_any a b c d)
  obtain ⟨S, hS⟩ : ∃ S, S = stBytes a b := ⟨_, rfl⟩
  obtain ⟨R, hR⟩ : ∃ R, R = stBytes c d := ⟨_, rfl⟩
  obtain ⟨K, hK⟩ : ∃ K, K = stCmp a b c d := ⟨_, rfl⟩
  rw [← hS] at BA hl hs hr
  rw [← hR] at BB hl hs
  rw [← hK] at hl hs CC
  have RD := Lib.hid (fun (A : Option Addr) (q : Nat) (w : World) (hw : Rd w w.heap.size A S) (hq : S.length ≤ q) => read_any A q S w hw hq)
  rw [hr] at RD
  have NX := Lib.hid (next_any a b)
  obtain ⟨hp, hc1⟩ := next_back hn
  have PV := Lib.hid (prev_any (stNext a b).1 (stNext a b).2.1)
  rw [hp] at PV
  have CN := Lib.hid (compare_any a b (stNext a b).1 (stNext a b).2.1)
  rw [hc1] at CN
  rw [hn] at NX
  obtain ⟨x, hx⟩ : ∃ x, x = (stNext a b).1 := ⟨_, rfl⟩
  obtain ⟨y, hy⟩ : ∃ y, y = (stNext a b).2.1 := ⟨_, rfl⟩
  rw [← hx, ← hy] at NX PV CN
  clear hp hc1 hn hx hy
  replace hl := Lib.hid hl
  replace hs := Lib.hid hs
  clear h h2 hr hS hR hK
  go_enter Try.func5, Try.ntmps5
  go_wp2_with fail
  refine (awake_any _).mono ?_
  rintro e w1 ⟨rfl, hb1⟩
  obtain ⟨za, zb, zc, zd, hb, hsz⟩ := after_two hb1
  clear hb1
  go_wp2_with fail
  refine (RA.out _).mono ?_
  rintro e w2 ⟨rfl, hw2⟩
  have za := kept0 hw2 za
  have zb := kept0 hw2 zb
  have zc := kept0 hw2 zc
  have zd := kept0 hw2 zd
  have hb := hb.trans (hw2.mono hb.size)
  clear hw2
  go_wp2_with fail
  refine (RB.out _).mono ?_
  rintro e w3 ⟨rfl, hw3⟩
  have za := kept0 hw3 za
  have zb := kept0 hw3 zb
  have zc := kept0 hw3 zc
  have zd := kept0 hw3 zd
  have hb := hb.trans (hw3.mono hb.size)
  clear hw3
  go_wp2_with fail
  refine (BA.out _).mono ?_
  rintro e w4 ⟨A1, c1, rfl, r1, lc1, hw4⟩
  have za := kept0 hw4 za
  have zb := kept0 hw4 zb
  have zc := kept0 hw4 zc
  have zd := kept0 hw4 zd
  have hb := hb.trans (hw4.mono hb.size)
  clear hw4
  go_wp2_with fail
  refine (BB.out _).mono ?_
  rintro e w5 ⟨A2, c2, rfl, r2, lc2, hw5⟩
  have za := kept0 hw5 za
  have zb := kept0 hw5 zb
  have zc := kept0 hw5 zc
  have zd := kept0 hw5 zd
  have r1 := (r1.below hw5).more hw5.size
  have hb := hb.trans (hw5.mono hb.size)
  clear hw5
  go_wp2_with fail
  refine (CC.out _).mono ?_
  rintro e w6 ⟨rfl, hw6⟩
  have za := kept0 hw6 za
  have zb := kept0 hw6 zb
  have zc := kept0 hw6 zc
  have zd := kept0 hw6 zd
  have r1 := (r1.below hw6).more hw6.size
  have r2 := (r2.below hw6).more hw6.size
  have hb := hb.trans (hw6.mono hb.size)
  clear hw6
  go_wp2_with fail
  refine (RD.out _ _ _ r1 lc1).mono ?_
  rintro e w7 ⟨rfl, hw7⟩
  have za := kept0 hw7 za
  have zb := kept0 hw7 zb
  have zc := kept0 hw7 zc
  have zd := kept0 hw7 zd
  have r1 := (r1.below hw7).more hw7.size
  have r2 := (r2.below hw7).more hw7.size
  have hb := hb.trans (hw7.mono hb.size)
  clear hw7
  have ta := laid0 w7 (.int .i64 a) (.int .i64 b) 23
  have tb := laid1 w7 (.int .i64 a) (.int .i64 b) 23
  have oza := fun o => over za o
  have ozb := fun o => over zb o
  have ozc := fun o => over zc o
  have ozd := fun o => over zd o
  go_wp2_with fail
  refine (NX.out _).mono ?_
  rintro e w8 ⟨rfl, hw8⟩
  have za := kept0 hw8 (over za _)
  have zb := kept0 hw8 (over zb _)
  have zc := kept0 hw8 (over zc _)
  have zd := kept0 hw8 (over zd _)
  have r1 := ((r1.below (below1 _ _)).more (below1 _ _).size |>.below hw8).more hw8.size
  have r2 := ((r2.below (below1 _ _)).more (below1 _ _).size |>.below hw8).more hw8.size
  have hb := (hb.alloc hb.size _).trans (hw8.mono (Nat.le_trans hb.size (by simp)))
  have ta := kept0 hw8 ta
  have tb := kept0 hw8 tb
  clear hw8
  have na := laid0 w8 (.int .i64 x) (.int .i64 y) 23
  have nb := laid1 w8 (.int .i64 x) (.int .i64 y) 23
  have oza := fun o => over za o
  have ozb := fun o => over zb o
  have ozc := fun o => over zc o
  have ozd := fun o => over zd o
  have ota := fun o => over ta o
  have otb := fun o => over tb o
  go_wp2_with fail
  refine (PV.out _).mono ?_
  rintro e w9 ⟨rfl, hw9⟩
  have za := kept0 hw9 (over za _)
  have zb := kept0 hw9 (over zb _)
  have zc := kept0 hw9 (over zc _)
  have zd := kept0 hw9 (over zd _)
  have ta := kept0 hw9 (over ta _)
  have tb := kept0 hw9 (over tb _)
  have r1 := ((r1.below (below1 _ _)).more (below1 _ _).size |>.below hw9).more hw9.size
  have r2 := ((r2.below (below1 _ _)).more (below1 _ _).size |>.below hw9).more hw9.size
  have hb := (hb.alloc hb.size _).trans (hw9.mono (Nat.le_trans hb.size (by simp)))
  have na := kept0 hw9 na
  have nb := kept0 hw9 nb
  clear hw9
  have pa := laid0 w9 (.int .i64 a) (.int .i64 b) 23
  have pb := laid1 w9 (.int .i64 a) (.int .i64 b) 23
  have oza := fun o => over za o
  have ozb := fun o => over zb o
  have ozc := fun o => over zc o
  have ozd := fun o => over zd o
  have ota := fun o => over ta o
  have otb := fun o => over tb o
  have ona := fun o => over na o
  have onb := fun o => over nb o
  go_wp2_with fail
  refine (CN.out _).mono ?_
  rintro e w10 ⟨rfl, hw10⟩
  have za := kept0 hw10 (over za _)
  have zb := kept0 hw10 (over zb _)
  have zc := kept0 hw10 (over zc _)
  have zd := kept0 hw10 (over zd _)
  have ta := kept0 hw10 (over ta _)
  have tb := kept0 hw10 (over tb _)
  have na := kept0 hw10 (over na _)
  have nb := kept0 hw10 (over nb _)
  have r1 := ((r1.below (below1 _ _)).more (below1 _ _).size |>.below hw10).more hw10.size
  have r2 := ((r2.below (below1 _ _)).more (below1 _ _).size |>.below hw10).more hw10.size
  have hb := (hb.alloc hb.size _).trans (hw10.mono (Nat.le_trans hb.size (by simp)))
  have pa := kept0 hw10 pa
  have pb := kept0 hw10 pb
  clear hw10
  have q1 := str_of r1 c1
  have q2 := str_of r2 c2
  go_wp2
  all_goals go_ret
  · exact ⟨by simp [hs.out], hb⟩

set_option maxHeartbeats 1600000 in
set_option maxRecDepth 100000 in
theorem sorts_end (a b c d : Nat) (w : World) (h : stOk a b = true) (h2 : stOk c d = true) (hn : (stNext a b).2.2 ≠ 0) :
    Calls Try.prog 5 #[.agg #[.int .i64 a, .int .i64 b], .agg #[.int .i64 c, .int .i64 d]] w fun e w' => e = .returned (.bool true) ∧ Below w.heap.size w w' := by
  have RA := Lib.hid (rright_any a b)
  have RB := Lib.hid (rright_any c d)
  rw [h] at RA
  rw [h2] at RB
  have BA := Lib.hid (fun w => bytes_in a b w h)
  have BB := Lib.hid (fun w => bytes_in c d w h2)
  have hl := st_less h h2
  have hs := st_same h h2
  have hr := rdAll_st h
  have CC := Lib.hid (compare_any a b c d)
  obtain ⟨S, hS⟩ : ∃ S, S = stBytes a b := ⟨_, rfl⟩
  obtain ⟨R, hR⟩ : ∃ R, R = stBytes c d := ⟨_, rfl⟩
  obtain ⟨K, hK⟩ : ∃ K, K = stCmp a b c d := ⟨_, rfl⟩
  rw [← hS] at BA hl hs hr
  rw [← hR] at BB hl hs
  rw [← hK] at hl hs CC
  have RD := Lib.hid (fun (A : Option Addr) (q : Nat) (w : World) (hw : Rd w w.heap.size A S) (hq : S.length ≤ q) => read_any A q S w hw hq)
  rw [hr] at RD
  have NX := Lib.hid (next_any a b)
  obtain ⟨x, hx⟩ : ∃ x, x = (stNext a b).1 := ⟨_, rfl⟩
  obtain ⟨y, hy⟩ : ∃ y, y = (stNext a b).2.1 := ⟨_, rfl⟩
  obtain ⟨z, hz⟩ : ∃ z, z = (stNext a b).2.2 := ⟨_, rfl⟩
  rw [← hx, ← hy, ← hz] at NX
  rw [← hz] at hn
  clear hx hy hz
  have hz0 : (z == 0) = false := by rw [beq_eq_false_iff_ne]; exact hn
  clear hn
  replace hl := Lib.hid hl
  replace hs := Lib.hid hs
  clear h h2 hr hS hR hK
  go_enter Try.func5, Try.ntmps5
  go_wp2_with fail
  refine (awake_any _).mono ?_
  rintro e w1 ⟨rfl, hb1⟩
  obtain ⟨za, zb, zc, zd, hb, hsz⟩ := after_two hb1
  clear hb1
  go_wp2_with fail
  refine (RA.out _).mono ?_
  rintro e w2 ⟨rfl, hw2⟩
  have za := kept0 hw2 za
  have zb := kept0 hw2 zb
  have zc := kept0 hw2 zc
  have zd := kept0 hw2 zd
  have hb := hb.trans (hw2.mono hb.size)
  clear hw2
  go_wp2_with fail
  refine (RB.out _).mono ?_
  rintro e w3 ⟨rfl, hw3⟩
  have za := kept0 hw3 za
  have zb := kept0 hw3 zb
  have zc := kept0 hw3 zc
  have zd := kept0 hw3 zd
  have hb := hb.trans (hw3.mono hb.size)
  clear hw3
  go_wp2_with fail
  refine (BA.out _).mono ?_
  rintro e w4 ⟨A1, c1, rfl, r1, lc1, hw4⟩
  have za := kept0 hw4 za
  have zb := kept0 hw4 zb
  have zc := kept0 hw4 zc
  have zd := kept0 hw4 zd
  have hb := hb.trans (hw4.mono hb.size)
  clear hw4
  go_wp2_with fail
  refine (BB.out _).mono ?_
  rintro e w5 ⟨A2, c2, rfl, r2, lc2, hw5⟩
  have za := kept0 hw5 za
  have zb := kept0 hw5 zb
  have zc := kept0 hw5 zc
  have zd := kept0 hw5 zd
  have r1 := (r1.below hw5).more hw5.size
  have hb := hb.trans (hw5.mono hb.size)
  clear hw5
  go_wp2_with fail
  refine (CC.out _).mono ?_
  rintro e w6 ⟨rfl, hw6⟩
  have za := kept0 hw6 za
  have zb := kept0 hw6 zb
  have zc := kept0 hw6 zc
  have zd := kept0 hw6 zd
  have r1 := (r1.below hw6).more hw6.size
  have r2 := (r2.below hw6).more hw6.size
  have hb := hb.trans (hw6.mono hb.size)
  clear hw6
  go_wp2_with fail
  refine (RD.out _ _ _ r1 lc1).mono ?_
  rintro e w7 ⟨rfl, hw7⟩
  have za := kept0 hw7 za
  have zb := kept0 hw7 zb
  have zc := kept0 hw7 zc
  have zd := kept0 hw7 zd
  have r1 := (r1.below hw7).more hw7.size
  have r2 := (r2.below hw7).more hw7.size
  have hb := hb.trans (hw7.mono hb.size)
  clear hw7
  have ta := laid0 w7 (.int .i64 a) (.int .i64 b) 23
  have tb := laid1 w7 (.int .i64 a) (.int .i64 b) 23
  have oza := fun o => over za o
  have ozb := fun o => over zb o
  have ozc := fun o => over zc o
  have ozd := fun o => over zd o
  go_wp2_with fail
  refine (NX.out _).mono ?_
  rintro e w8 ⟨rfl, hw8⟩
  have za := kept0 hw8 (over za _)
  have zb := kept0 hw8 (over zb _)
  have zc := kept0 hw8 (over zc _)
  have zd := kept0 hw8 (over zd _)
  have r1 := ((r1.below (below1 _ _)).more (below1 _ _).size |>.below hw8).more hw8.size
  have r2 := ((r2.below (below1 _ _)).more (below1 _ _).size |>.below hw8).more hw8.size
  have hb := (hb.alloc hb.size _).trans (hw8.mono (Nat.le_trans hb.size (by simp)))
  have ta := kept0 hw8 ta
  have tb := kept0 hw8 tb
  clear hw8
  have na := laid0 w8 (.int .i64 x) (.int .i64 y) 23
  have nb := laid1 w8 (.int .i64 x) (.int .i64 y) 23
  have oza := fun o => over za o
  have ozb := fun o => over zb o
  have ozc := fun o => over zc o
  have ozd := fun o => over zd o
  have ota := fun o => over ta o
  have otb := fun o => over tb o
  have q1 := str_of (r1.below (below1 w8 (.cells #[.int .i64 x, .int .i64 y] 23))) c1
  have q2 := str_of (r2.below (below1 w8 (.cells #[.int .i64 x, .int .i64 y] 23))) c2
  have hb := hb.alloc hb.size (.cells #[.int .i64 x, .int .i64 y] 23)
  go_wp2
  all_goals go_ret
  · exact ⟨by simp [hs.out], hb⟩

theorem law_sorts (a b c d : Int) (w : World) :
    Calls Try.prog 5 #[.agg #[.int .i64 a, .int .i64 b], .agg #[.int .i64 c, .int .i64 d]] w fun e w' => e = .returned (.bool true) ∧ Below w.heap.size w w' := by
  by_cases h : stOk a b = true
  · by_cases h2 : stOk c d = true
    · obtain ⟨ea, eb⟩ := stOk_nat h
      obtain ⟨ec, ed⟩ := stOk_nat h2
      rw [← ea, ← eb] at h ⊢
      rw [← ec, ← ed] at h2 ⊢
      by_cases hn : (stNext (a.toNat : Nat) (b.toNat : Nat)).2.2 = 0
      · exact sorts_next _ _ _ _ w h h2 hn
      · exact sorts_end _ _ _ _ w h h2 hn
    · exact sorts_bad2 a b c d w h (by simpa using h2)
  · exact sorts_bad1 a b c d w (by simpa using h)
end Go.Proofs.Ytglpaeiebkacoaa
