/-
  The walk of the law HlcPasses.
-/
import Derived.Test.YtglpaeiebkacoaaNow
import Derived.Test.YtglpaeiebkacoaaPassed
import Derived.Test.YtglpaeiebkacoaaLawStamps
set_option linter.unusedVariables false
namespace Go.Proofs.Ytglpaeiebkacoaa
open Go.RowKit

theorem passed_now {o a b w0 w1 : Int} (hp : passed o a b w0 = true) (hw : wallOk w1 = true) (h : ¬ (w1 < w0 ∧ o < w0 - w1)) (ho : wallOk o = true) :
    nowR 0 0 w1 = (w1, 0, 0) ∧ stCmp a b w1 0 = -1 := by
  simp only [passed, Bool.and_eq_true, decide_eq_true_iff] at hp
  obtain ⟨⟨hs, h0⟩, h1⟩ := hp
  obtain ⟨a0, a1⟩ := stOk_wall hs
  obtain ⟨l0, l1⟩ := wallOk_le hw
  obtain ⟨o0, o1⟩ := wallOk_le ho
  have hlt : a < w1 := by omega
  constructor
  · unfold nowR
    rw [if_neg (by rw [hw]; decide), if_neg]
    unfold stCmp
    rw [if_neg (by omega), if_pos (by omega)]
    omega
  · unfold stCmp
    rw [if_pos hlt]

set_option maxHeartbeats 1600000 in
set_option maxRecDepth 100000 in
theorem passes_bad (o a b w0 w1 : Int) (w : World) (ho : wallOk o = false) :
    Calls Try.prog 8 #[.int .i64 o, .agg #[.int .i64 a, .int .i64 b], .agg #[.int .i64 w0, .int .i64 w1]] w fun e w' => e = .returned (.bool true) ∧ Below w.heap.size w w' := by
  have NB := Lib.hid (fun w => new_bad o w ho)
  have IO := Lib.hid (risWall_any o)
  rw [ho] at IO
  have IW := Lib.hid (risWall_any w1)
  obtain ⟨q, hq⟩ : ∃ q, q = wallOk w1 := ⟨_, rfl⟩
  rw [← hq] at IW
  clear hq ho
  go_enter Try.func8, Try.ntmps8
  go_wp2_with fail
  refine (awake_any _).mono ?_
  rintro e W1 ⟨rfl, hb1⟩
  have hb := (below2 w _ _).trans (hb1.mono (by simp; omega))
  have y1 := ((Cell.new' (w := w.alloc (.cells #[.int .i64 a, .int .i64 b] 23)) (n := w.heap.size + 1) (by simp) #[.int .i64 w0, .int .i64 w1] 50 1 _ rfl).keep hb1).1
  clear hb1
  go_wp2_with fail
  refine (NB.out _).mono ?_
  rintro e W2 ⟨rfl, rfl⟩
  go_wp2_with fail
  refine (NB.out _).mono ?_
  rintro e W2 ⟨rfl, rfl⟩
  go_wp2_with fail
  refine (IO.out _).mono ?_
  rintro e W2 ⟨rfl, rfl⟩
  go_wp2_with fail
  refine (IW.out _).mono ?_
  rintro e W2 ⟨rfl, rfl⟩
  go_wp2
  go_ret
  exact ⟨rfl, hb⟩
-- WAYS
set_option maxHeartbeats 1600000 in
set_option maxRecDepth 100000 in
theorem passes_is (o a b w0 w1 : Int) (w : World) (ho : wallOk o = true) (hp : passed o a b w0 = false) :
    Calls Try.prog 8 #[.int .i64 o, .agg #[.int .i64 a, .int .i64 b], .agg #[.int .i64 w0, .int .i64 w1]] w fun e w' => e = .returned (.bool true) ∧ Below w.heap.size w w' := by
  have NB := Lib.hid (fun w => new_ok o w ho)
  have IO := Lib.hid (risWall_any o)
  rw [ho] at IO
  have IW := Lib.hid (risWall_any w1)
  obtain ⟨q, hq⟩ : ∃ q, q = wallOk w1 := ⟨_, rfl⟩
  rw [← hq] at IW
  clear hq
  have PA := Lib.hid (fun g w hk => passed_any g o 0 0 a b w0 w hk ho)
  rw [hp] at PA
  clear ho hp
  go_enter Try.func8, Try.ntmps8
  go_wp2_with fail
  refine (awake_any _).mono ?_
  rintro e W1 ⟨rfl, hb1⟩
  have hb := (below2 w _ _).trans (hb1.mono (by simp; omega))
  have z1 := hb.size
  have Y0 := (Cell.new' (w := w.alloc (.cells #[.int .i64 a, .int .i64 b] 23)) (n := w.heap.size + 1) (by simp) #[.int .i64 w0, .int .i64 w1] 50 0 (.int .i64 w0) rfl).keep hb1
  have Y1 := (Cell.new' (w := w.alloc (.cells #[.int .i64 a, .int .i64 b] 23)) (n := w.heap.size + 1) (by simp) #[.int .i64 w0, .int .i64 w1] 50 1 (.int .i64 w1) rfl).keep hb1
  have S0 := ((Cell.new w #[.int .i64 a, .int .i64 b] 23 0 (.int .i64 a) rfl).alloc (.cells #[.int .i64 w0, .int .i64 w1] 50)).keep hb1
  have S1 := ((Cell.new w #[.int .i64 a, .int .i64 b] 23 1 (.int .i64 b) rfl).alloc (.cells #[.int .i64 w0, .int .i64 w1] 50)).keep hb1
  clear hb1
  go_wp2_with fail
  refine (NB.out _).mono ?_
  rintro e W2 ⟨rfl, CK, h2⟩
  have Y0 := Y0.keep h2
  have Y1 := Y1.keep h2
  have S0 := S0.keep h2
  have S1 := S1.keep h2
  have hb := hb.trans (h2.mono hb.size)
  clear h2
  go_wp2_with fail
  refine (NB.out _).mono ?_
  rintro e W3 ⟨rfl, DK, h3⟩
  have hdc := CK.lt
  have Y0 := Y0.keep h3
  have Y1 := Y1.keep h3
  have S0 := S0.keep h3
  have S1 := S1.keep h3
  have CK := CK.keep h3
  have hb := hb.trans (h3.mono hb.size)
  clear h3
  go_wp2_with fail
  refine (IO.out _).mono ?_
  rintro e W4 ⟨rfl, rfl⟩
  have y0 := Y0.1
  have y1 := Y1.1
  have s0 := S0.1
  have s1 := S1.1
  go_wp2_with fail
  refine (IW.out _).mono ?_
  rintro e W4 ⟨rfl, rfl⟩
  go_wp2_with fail
  refine (PA.out _ _ CK).mono ?_
  rintro e W4 ⟨rfl, h4⟩
  clear y0 y1 s0 s1
  have Y0 := Y0.keep h4
  have Y1 := Y1.keep h4
  have S0 := S0.keep h4
  have S1 := S1.keep h4
  have CK := CK.keep h4
  have DK := DK.keep h4
  have hb := hb.trans (h4.mono hb.size)
  clear h4
  have y0 := Y0.1
  have y1 := Y1.1
  have s0 := S0.1
  have s1 := S1.1
  go_wp2
  go_ret
  exact ⟨by first | rfl | simp, hb⟩

set_option maxHeartbeats 1600000 in
set_option maxRecDepth 100000 in
theorem passes_wall (o a b w0 w1 : Int) (w : World) (ho : wallOk o = true) (hp : passed o a b w0 = true) (hv : wallOk w1 = false) :
    Calls Try.prog 8 #[.int .i64 o, .agg #[.int .i64 a, .int .i64 b], .agg #[.int .i64 w0, .int .i64 w1]] w fun e w' => e = .returned (.bool true) ∧ Below w.heap.size w w' := by
  have NB := Lib.hid (fun w => new_ok o w ho)
  have IO := Lib.hid (risWall_any o)
  rw [ho] at IO
  have IW := Lib.hid (risWall_any w1)
  rw [hv] at IW
  have PA := Lib.hid (fun g w hk => passed_any g o 0 0 a b w0 w hk ho)
  rw [hp] at PA
  clear ho hp hv
  go_enter Try.func8, Try.ntmps8
  go_wp2_with fail
  refine (awake_any _).mono ?_
  rintro e W1 ⟨rfl, hb1⟩
  have hb := (below2 w _ _).trans (hb1.mono (by simp; omega))
  have z1 := hb.size
  have Y0 := (Cell.new' (w := w.alloc (.cells #[.int .i64 a, .int .i64 b] 23)) (n := w.heap.size + 1) (by simp) #[.int .i64 w0, .int .i64 w1] 50 0 (.int .i64 w0) rfl).keep hb1
  have Y1 := (Cell.new' (w := w.alloc (.cells #[.int .i64 a, .int .i64 b] 23)) (n := w.heap.size + 1) (by simp) #[.int .i64 w0, .int .i64 w1] 50 1 (.int .i64 w1) rfl).keep hb1
  have S0 := ((Cell.new w #[.int .i64 a, .int .i64 b] 23 0 (.int .i64 a) rfl).alloc (.cells #[.int .i64 w0, .int .i64 w1] 50)).keep hb1
  have S1 := ((Cell.new w #[.int .i64 a, .int .i64 b] 23 1 (.int .i64 b) rfl).alloc (.cells #[.int .i64 w0, .int .i64 w1] 50)).keep hb1
  clear hb1
  go_wp2_with fail
  refine (NB.out _).mono ?_
  rintro e W2 ⟨rfl, CK, h2⟩
  have Y0 := Y0.keep h2
  have Y1 := Y1.keep h2
  have S0 := S0.keep h2
  have S1 := S1.keep h2
  have hb := hb.trans (h2.mono hb.size)
  clear h2
  go_wp2_with fail
  refine (NB.out _).mono ?_
  rintro e W3 ⟨rfl, DK, h3⟩
  have hdc := CK.lt
  have Y0 := Y0.keep h3
  have Y1 := Y1.keep h3
  have S0 := S0.keep h3
  have S1 := S1.keep h3
  have CK := CK.keep h3
  have hb := hb.trans (h3.mono hb.size)
  clear h3
  go_wp2_with fail
  refine (IO.out _).mono ?_
  rintro e W4 ⟨rfl, rfl⟩
  have y0 := Y0.1
  have y1 := Y1.1
  have s0 := S0.1
  have s1 := S1.1
  go_wp2_with fail
  refine (IW.out _).mono ?_
  rintro e W4 ⟨rfl, rfl⟩
  go_wp2_with fail
  refine (PA.out _ _ CK).mono ?_
  rintro e W4 ⟨rfl, h4⟩
  clear y0 y1 s0 s1
  have Y0 := Y0.keep h4
  have Y1 := Y1.keep h4
  have S0 := S0.keep h4
  have S1 := S1.keep h4
  have CK := CK.keep h4
  have DK := DK.keep h4
  have hb := hb.trans (h4.mono hb.size)
  clear h4
  have y0 := Y0.1
  have y1 := Y1.1
  have s0 := S0.1
  have s1 := S1.1
  go_wp2
  go_ret
  exact ⟨by first | rfl | simp, hb⟩

set_option maxHeartbeats 1600000 in
set_option maxRecDepth 100000 in
theorem passes_early (o a b w0 w1 : Int) (w : World) (ho : wallOk o = true) (hp : passed o a b w0 = true) (hv : wallOk w1 = true) (h1 : w1 < w0) (h2 : o < w0 - w1) :
    Calls Try.prog 8 #[.int .i64 o, .agg #[.int .i64 a, .int .i64 b], .agg #[.int .i64 w0, .int .i64 w1]] w fun e w' => e = .returned (.bool true) ∧ Below w.heap.size w w' := by
  have NB := Lib.hid (fun w => new_ok o w ho)
  have IO := Lib.hid (risWall_any o)
  rw [ho] at IO
  have IW := Lib.hid (risWall_any w1)
  rw [hv] at IW
  have PA := Lib.hid (fun g w hk => passed_any g o 0 0 a b w0 w hk ho)
  rw [hp] at PA
  have d1 : decide (w1 < w0) = true := decide_eq_true h1
  have hw0 : wallOk w0 = true := by simp only [passed, Bool.and_eq_true] at hp; exact hp.1.2
  obtain ⟨l0, l1⟩ := wallOk_le hv
  obtain ⟨m0, m1⟩ := wallOk_le hw0
  have hsub : IntKind.i64.wrap (w0 - w1) = w0 - w1 := IntWalk.i64_in _ (by omega)
  have d2 : decide (o < w0 - w1) = true := decide_eq_true h2
  clear ho hp hv
  clear l0 l1 m0 m1 hw0 h2 h1
  go_enter Try.func8, Try.ntmps8
  go_wp2_with fail
  refine (awake_any _).mono ?_
  rintro e W1 ⟨rfl, hb1⟩
  have hb := (below2 w _ _).trans (hb1.mono (by simp; omega))
  have z1 := hb.size
  have Y0 := (Cell.new' (w := w.alloc (.cells #[.int .i64 a, .int .i64 b] 23)) (n := w.heap.size + 1) (by simp) #[.int .i64 w0, .int .i64 w1] 50 0 (.int .i64 w0) rfl).keep hb1
  have Y1 := (Cell.new' (w := w.alloc (.cells #[.int .i64 a, .int .i64 b] 23)) (n := w.heap.size + 1) (by simp) #[.int .i64 w0, .int .i64 w1] 50 1 (.int .i64 w1) rfl).keep hb1
  have S0 := ((Cell.new w #[.int .i64 a, .int .i64 b] 23 0 (.int .i64 a) rfl).alloc (.cells #[.int .i64 w0, .int .i64 w1] 50)).keep hb1
  have S1 := ((Cell.new w #[.int .i64 a, .int .i64 b] 23 1 (.int .i64 b) rfl).alloc (.cells #[.int .i64 w0, .int .i64 w1] 50)).keep hb1
  clear hb1
  go_wp2_with fail
  refine (NB.out _).mono ?_
  rintro e W2 ⟨rfl, CK, h2⟩
  have Y0 := Y0.keep h2
  have Y1 := Y1.keep h2
  have S0 := S0.keep h2
  have S1 := S1.keep h2
  have hb := hb.trans (h2.mono hb.size)
  clear h2
  go_wp2_with fail
  refine (NB.out _).mono ?_
  rintro e W3 ⟨rfl, DK, h3⟩
  have hdc := CK.lt
  have Y0 := Y0.keep h3
  have Y1 := Y1.keep h3
  have S0 := S0.keep h3
  have S1 := S1.keep h3
  have CK := CK.keep h3
  have hb := hb.trans (h3.mono hb.size)
  clear h3
  go_wp2_with fail
  refine (IO.out _).mono ?_
  rintro e W4 ⟨rfl, rfl⟩
  have y0 := Y0.1
  have y1 := Y1.1
  have s0 := S0.1
  have s1 := S1.1
  go_wp2_with fail
  refine (IW.out _).mono ?_
  rintro e W4 ⟨rfl, rfl⟩
  go_wp2_with fail
  refine (PA.out _ _ CK).mono ?_
  rintro e W4 ⟨rfl, h4⟩
  clear y0 y1 s0 s1
  have Y0 := Y0.keep h4
  have Y1 := Y1.keep h4
  have S0 := S0.keep h4
  have S1 := S1.keep h4
  have CK := CK.keep h4
  have DK := DK.keep h4
  have hb := hb.trans (h4.mono hb.size)
  clear h4
  have y0 := Y0.1
  have y1 := Y1.1
  have s0 := S0.1
  have s1 := S1.1
  go_wp2
  go_ret
  exact ⟨by first | rfl | simp, hb⟩

set_option maxHeartbeats 1600000 in
set_option maxRecDepth 100000 in
theorem passes_near (o a b w0 w1 : Int) (w : World) (ho : wallOk o = true) (hp : passed o a b w0 = true) (hv : wallOk w1 = true) (h1 : w1 < w0) (h2 : ¬ o < w0 - w1) :
    Calls Try.prog 8 #[.int .i64 o, .agg #[.int .i64 a, .int .i64 b], .agg #[.int .i64 w0, .int .i64 w1]] w fun e w' => e = .returned (.bool true) ∧ Below w.heap.size w w' := by
  have NB := Lib.hid (fun w => new_ok o w ho)
  have IO := Lib.hid (risWall_any o)
  rw [ho] at IO
  have IW := Lib.hid (risWall_any w1)
  rw [hv] at IW
  have PA := Lib.hid (fun g w hk => passed_any g o 0 0 a b w0 w hk ho)
  rw [hp] at PA
  have d1 : decide (w1 < w0) = true := decide_eq_true h1
  have hw0 : wallOk w0 = true := by simp only [passed, Bool.and_eq_true] at hp; exact hp.1.2
  obtain ⟨l0, l1⟩ := wallOk_le hv
  obtain ⟨m0, m1⟩ := wallOk_le hw0
  have hsub : IntKind.i64.wrap (w0 - w1) = w0 - w1 := IntWalk.i64_in _ (by omega)
  have d2 : decide (o < w0 - w1) = false := decide_eq_false h2
  obtain ⟨hr, hc⟩ := passed_now hp hv (by omega) ho
  have NOW := Lib.hid (fun g w hk => now_any g o 0 0 w1 w hk)
  rw [hr] at NOW
  have CP := Lib.hid (rcompare_any a b w1 0)
  rw [hc] at CP
  clear hr hc
  clear ho hp hv
  clear l0 l1 m0 m1 hw0 h2 h1
  go_enter Try.func8, Try.ntmps8
  go_wp2_with fail
  refine (awake_any _).mono ?_
  rintro e W1 ⟨rfl, hb1⟩
  have hb := (below2 w _ _).trans (hb1.mono (by simp; omega))
  have z1 := hb.size
  have Y0 := (Cell.new' (w := w.alloc (.cells #[.int .i64 a, .int .i64 b] 23)) (n := w.heap.size + 1) (by simp) #[.int .i64 w0, .int .i64 w1] 50 0 (.int .i64 w0) rfl).keep hb1
  have Y1 := (Cell.new' (w := w.alloc (.cells #[.int .i64 a, .int .i64 b] 23)) (n := w.heap.size + 1) (by simp) #[.int .i64 w0, .int .i64 w1] 50 1 (.int .i64 w1) rfl).keep hb1
  have S0 := ((Cell.new w #[.int .i64 a, .int .i64 b] 23 0 (.int .i64 a) rfl).alloc (.cells #[.int .i64 w0, .int .i64 w1] 50)).keep hb1
  have S1 := ((Cell.new w #[.int .i64 a, .int .i64 b] 23 1 (.int .i64 b) rfl).alloc (.cells #[.int .i64 w0, .int .i64 w1] 50)).keep hb1
  clear hb1
  go_wp2_with fail
  refine (NB.out _).mono ?_
  rintro e W2 ⟨rfl, CK, h2⟩
  have Y0 := Y0.keep h2
  have Y1 := Y1.keep h2
  have S0 := S0.keep h2
  have S1 := S1.keep h2
  have hb := hb.trans (h2.mono hb.size)
  clear h2
  go_wp2_with fail
  refine (NB.out _).mono ?_
  rintro e W3 ⟨rfl, DK, h3⟩
  have hdc := CK.lt
  have Y0 := Y0.keep h3
  have Y1 := Y1.keep h3
  have S0 := S0.keep h3
  have S1 := S1.keep h3
  have CK := CK.keep h3
  have hb := hb.trans (h3.mono hb.size)
  clear h3
  go_wp2_with fail
  refine (IO.out _).mono ?_
  rintro e W4 ⟨rfl, rfl⟩
  have y0 := Y0.1
  have y1 := Y1.1
  have s0 := S0.1
  have s1 := S1.1
  go_wp2_with fail
  refine (IW.out _).mono ?_
  rintro e W4 ⟨rfl, rfl⟩
  go_wp2_with fail
  refine (PA.out _ _ CK).mono ?_
  rintro e W4 ⟨rfl, h4⟩
  clear y0 y1 s0 s1
  have Y0 := Y0.keep h4
  have Y1 := Y1.keep h4
  have S0 := S0.keep h4
  have S1 := S1.keep h4
  have CK := CK.keep h4
  have DK := DK.keep h4
  have hb := hb.trans (h4.mono hb.size)
  clear h4
  have y0 := Y0.1
  have y1 := Y1.1
  have s0 := S0.1
  have s1 := S1.1
  go_wp2_with fail
  refine (NOW.out _ _ DK).mono ?_
  rintro e W5 ⟨rfl, _, h5⟩
  have g0 := S0.lt
  have g1 := DK.lt
  have S0 := (S0.only h5 (by omega)).alloc (.cells #[.int .i64 w1, .int .i64 0] 23)
  have S1 := (S1.only h5 (by omega)).alloc (.cells #[.int .i64 w1, .int .i64 0] 23)
  have hb := hb.trans (h5.below (by omega) hb.size)
  have hb := hb.alloc hb.size (.cells #[.int .i64 w1, .int .i64 0] 23)
  have X0 := Cell.new W5 #[.int .i64 w1, .int .i64 0] 23 0 _ rfl
  have X1 := Cell.new W5 #[.int .i64 w1, .int .i64 0] 23 1 _ rfl
  clear h5 y0 y1 s0 s1
  have s0 := S0.1
  have s1 := S1.1
  have x0 := X0.1
  have x1 := X1.1
  go_wp2_with fail
  refine (CP.out _).mono ?_
  rintro e W6 ⟨rfl, h6⟩
  have hb := hb.trans (h6.mono hb.size)
  go_wp2
  go_ret
  exact ⟨by first | rfl | simp, hb⟩

set_option maxHeartbeats 1600000 in
set_option maxRecDepth 100000 in
theorem passes_past (o a b w0 w1 : Int) (w : World) (ho : wallOk o = true) (hp : passed o a b w0 = true) (hv : wallOk w1 = true) (h1 : ¬ w1 < w0) :
    Calls Try.prog 8 #[.int .i64 o, .agg #[.int .i64 a, .int .i64 b], .agg #[.int .i64 w0, .int .i64 w1]] w fun e w' => e = .returned (.bool true) ∧ Below w.heap.size w w' := by
  have NB := Lib.hid (fun w => new_ok o w ho)
  have IO := Lib.hid (risWall_any o)
  rw [ho] at IO
  have IW := Lib.hid (risWall_any w1)
  rw [hv] at IW
  have PA := Lib.hid (fun g w hk => passed_any g o 0 0 a b w0 w hk ho)
  rw [hp] at PA
  have d1 : decide (w1 < w0) = false := decide_eq_false h1
  have hw0 : wallOk w0 = true := by simp only [passed, Bool.and_eq_true] at hp; exact hp.1.2
  obtain ⟨l0, l1⟩ := wallOk_le hv
  obtain ⟨m0, m1⟩ := wallOk_le hw0
  obtain ⟨hr, hc⟩ := passed_now hp hv (by omega) ho
  have NOW := Lib.hid (fun g w hk => now_any g o 0 0 w1 w hk)
  rw [hr] at NOW
  have CP := Lib.hid (rcompare_any a b w1 0)
  rw [hc] at CP
  clear hr hc
  clear ho hp hv
  clear l0 l1 m0 m1 hw0 h1
  go_enter Try.func8, Try.ntmps8
  go_wp2_with fail
  refine (awake_any _).mono ?_
  rintro e W1 ⟨rfl, hb1⟩
  have hb := (below2 w _ _).trans (hb1.mono (by simp; omega))
  have z1 := hb.size
  have Y0 := (Cell.new' (w := w.alloc (.cells #[.int .i64 a, .int .i64 b] 23)) (n := w.heap.size + 1) (by simp) #[.int .i64 w0, .int .i64 w1] 50 0 (.int .i64 w0) rfl).keep hb1
  have Y1 := (Cell.new' (w := w.alloc (.cells #[.int .i64 a, .int .i64 b] 23)) (n := w.heap.size + 1) (by simp) #[.int .i64 w0, .int .i64 w1] 50 1 (.int .i64 w1) rfl).keep hb1
  have S0 := ((Cell.new w #[.int .i64 a, .int .i64 b] 23 0 (.int .i64 a) rfl).alloc (.cells #[.int .i64 w0, .int .i64 w1] 50)).keep hb1
  have S1 := ((Cell.new w #[.int .i64 a, .int .i64 b] 23 1 (.int .i64 b) rfl).alloc (.cells #[.int .i64 w0, .int .i64 w1] 50)).keep hb1
  clear hb1
  go_wp2_with fail
  refine (NB.out _).mono ?_
  rintro e W2 ⟨rfl, CK, h2⟩
  have Y0 := Y0.keep h2
  have Y1 := Y1.keep h2
  have S0 := S0.keep h2
  have S1 := S1.keep h2
  have hb := hb.trans (h2.mono hb.size)
  clear h2
  go_wp2_with fail
  refine (NB.out _).mono ?_
  rintro e W3 ⟨rfl, DK, h3⟩
  have hdc := CK.lt
  have Y0 := Y0.keep h3
  have Y1 := Y1.keep h3
  have S0 := S0.keep h3
  have S1 := S1.keep h3
  have CK := CK.keep h3
  have hb := hb.trans (h3.mono hb.size)
  clear h3
  go_wp2_with fail
  refine (IO.out _).mono ?_
  rintro e W4 ⟨rfl, rfl⟩
  have y0 := Y0.1
  have y1 := Y1.1
  have s0 := S0.1
  have s1 := S1.1
  go_wp2_with fail
  refine (IW.out _).mono ?_
  rintro e W4 ⟨rfl, rfl⟩
  go_wp2_with fail
  refine (PA.out _ _ CK).mono ?_
  rintro e W4 ⟨rfl, h4⟩
  clear y0 y1 s0 s1
  have Y0 := Y0.keep h4
  have Y1 := Y1.keep h4
  have S0 := S0.keep h4
  have S1 := S1.keep h4
  have CK := CK.keep h4
  have DK := DK.keep h4
  have hb := hb.trans (h4.mono hb.size)
  clear h4
  have y0 := Y0.1
  have y1 := Y1.1
  have s0 := S0.1
  have s1 := S1.1
  go_wp2_with fail
  refine (NOW.out _ _ DK).mono ?_
  rintro e W5 ⟨rfl, _, h5⟩
  have g0 := S0.lt
  have g1 := DK.lt
  have S0 := (S0.only h5 (by omega)).alloc (.cells #[.int .i64 w1, .int .i64 0] 23)
  have S1 := (S1.only h5 (by omega)).alloc (.cells #[.int .i64 w1, .int .i64 0] 23)
  have hb := hb.trans (h5.below (by omega) hb.size)
  have hb := hb.alloc hb.size (.cells #[.int .i64 w1, .int .i64 0] 23)
  have X0 := Cell.new W5 #[.int .i64 w1, .int .i64 0] 23 0 _ rfl
  have X1 := Cell.new W5 #[.int .i64 w1, .int .i64 0] 23 1 _ rfl
  clear h5 y0 y1 s0 s1
  have s0 := S0.1
  have s1 := S1.1
  have x0 := X0.1
  have x1 := X1.1
  go_wp2_with fail
  refine (CP.out _).mono ?_
  rintro e W6 ⟨rfl, h6⟩
  have hb := hb.trans (h6.mono hb.size)
  go_wp2
  go_ret
  exact ⟨by first | rfl | simp, hb⟩

theorem law_passes (o a b w0 w1 : Int) (w : World) :
    Calls Try.prog 8 #[.int .i64 o, .agg #[.int .i64 a, .int .i64 b], .agg #[.int .i64 w0, .int .i64 w1]] w fun e w' => e = .returned (.bool true) ∧ Below w.heap.size w w' := by
  rcases ho : wallOk o with _ | _
  · exact passes_bad o a b w0 w1 w ho
  · rcases hp : passed o a b w0 with _ | _
    · exact passes_is o a b w0 w1 w ho hp
    · rcases hv : wallOk w1 with _ | _
      · exact passes_wall o a b w0 w1 w ho hp hv
      · by_cases h1 : w1 < w0
        · by_cases h2 : o < w0 - w1
          · exact passes_early o a b w0 w1 w ho hp hv h1 h2
          · exact passes_near o a b w0 w1 w ho hp hv h1 h2
        · exact passes_past o a b w0 w1 w ho hp hv h1
end Go.Proofs.Ytglpaeiebkacoaa
