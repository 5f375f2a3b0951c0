/-
  The contracts of Learn and Passed, of the code's clock and of the reference's.
-/
import Derived.Test.YtglpaeiebkacoaaClock
import Derived.BigQuiet
set_option linter.unusedVariables false
namespace Go.Proofs.Ytglpaeiebkacoaa
open Go.RowKit

def learnE (o a b wall : Int) : Int := if wallOk wall = false then 1 else if stOk a b = false then 80 else if o < a - wall then 81 else 0
def learnL (o x y a b wall : Int) : Int × Int := if learnE o a b wall = 0 ∧ 0 < stCmp a b x y then (a, b) else (x, y)
def passed (o a b wall : Int) : Bool := stOk a b && wallOk wall && decide (a + o < wall)
theorem wallOk_le {n : Int} (h : wallOk n = true) : 0 ≤ n ∧ n ≤ 9007199254740991 := by simpa [wallOk] using h
theorem stOk_wall {a b : Int} (h : stOk a b = true) : 0 ≤ a ∧ a ≤ 9007199254740991 := by
  simp [stOk, wallOk] at h
  omega

set_option maxHeartbeats 1600000 in
set_option maxRecDepth 100000 in
theorem learn_wall (g : Nat) (o x y a b wall : Int) (w : World) (hk : Clk w g o x y) (hw : wallOk wall = false) :
    Calls Try.prog 26 #[.pointer (some ⟨g, 0, none⟩), .agg #[.int .i64 a, .int .i64 b], .int .i64 wall] w fun e w' => e = .returned (.int .i64 1) ∧ Clk w' g o x y ∧ Only g w w' := by
  replace hw := Lib.hid hw
  have hb := below1 w (.cells #[.int .i64 a, .int .i64 b] 23)
  have K := hk.keep hb
  have hg := hk.lt
  have S0 := Cell.new w #[.int .i64 a, .int .i64 b] 23 0 _ rfl
  have S1 := Cell.new w #[.int .i64 a, .int .i64 b] 23 1 _ rfl
  clear hk
  go_enter Try.func26, Try.ntmps26
  go_wp2_with (go_at_call 31; refine (isWall_any _ _).mono ?_; rintro e w1 ⟨rfl, rfl⟩; rw [hw.out])
  go_ret
  exact ⟨rfl, K, by first | exact Only.of_below hb | exact Only.of_below (below_toN hb _)⟩

set_option maxHeartbeats 1600000 in
set_option maxRecDepth 100000 in
theorem learn_form (g : Nat) (o x y a b wall : Int) (w : World) (hk : Clk w g o x y) (hw : wallOk wall = true) (hr : stOk a b = false) :
    Calls Try.prog 26 #[.pointer (some ⟨g, 0, none⟩), .agg #[.int .i64 a, .int .i64 b], .int .i64 wall] w fun e w' => e = .returned (.int .i64 80) ∧ Clk w' g o x y ∧ Only g w w' := by
  replace hr := Lib.hid hr
  replace hw := Lib.hid hw
  have hb := below1 w (.cells #[.int .i64 a, .int .i64 b] 23)
  have K := hk.keep hb
  have hg := hk.lt
  have S0 := Cell.new w #[.int .i64 a, .int .i64 b] 23 0 _ rfl
  have S1 := Cell.new w #[.int .i64 a, .int .i64 b] 23 1 _ rfl
  clear hk
  go_enter Try.func26, Try.ntmps26
  go_wp2_with (first | (go_at_call 31; refine (isWall_any _ _).mono ?_; rintro e w1 ⟨rfl, rfl⟩; rw [hw.out]) | (go_at_call 10; refine (right_any _ _ _).mono ?_; rintro e w2 ⟨rfl, hw2⟩; rw [hr.out]; have K := K.keep hw2; have S0 := S0.keep hw2; have S1 := S1.keep hw2; have hb := hb.trans (hw2.mono hb.size); have s0 := S0.1; have s1 := S1.1; have k0 := K.1.1; have k1 := K.2.1.1; have k2 := K.2.2.1; have f1 := K.2.1.2; have f2 := K.2.2.2; clear hw2))
  go_ret
  exact ⟨rfl, K, by first | exact Only.of_below hb | exact Only.of_below (below_toN hb _)⟩

set_option maxHeartbeats 1600000 in
set_option maxRecDepth 100000 in
theorem learn_ahead (g : Nat) (o x y a b wall : Int) (w : World) (hk : Clk w g o x y) (hw : wallOk wall = true) (hr : stOk a b = true) (h : o < a - wall) :
    Calls Try.prog 26 #[.pointer (some ⟨g, 0, none⟩), .agg #[.int .i64 a, .int .i64 b], .int .i64 wall] w fun e w' => e = .returned (.int .i64 81) ∧ Clk w' g o x y ∧ Only g w w' := by
  have h2 : decide (o < a - wall) = true := by rw [decide_eq_true_iff]; exact h
  obtain ⟨a0, a1⟩ := stOk_wall hr
  obtain ⟨l0, l1⟩ := wallOk_le hw
  have hsub : IntKind.i64.wrap (a - wall) = a - wall := IntWalk.i64_in _ (by omega)
  replace hr := Lib.hid hr
  replace hw := Lib.hid hw
  have hb := below1 w (.cells #[.int .i64 a, .int .i64 b] 23)
  have K := hk.keep hb
  have hg := hk.lt
  have S0 := Cell.new w #[.int .i64 a, .int .i64 b] 23 0 _ rfl
  have S1 := Cell.new w #[.int .i64 a, .int .i64 b] 23 1 _ rfl
  clear hk
  go_enter Try.func26, Try.ntmps26
  go_wp2_with (first | (go_at_call 31; refine (isWall_any _ _).mono ?_; rintro e w1 ⟨rfl, rfl⟩; rw [hw.out]) | (go_at_call 10; refine (right_any _ _ _).mono ?_; rintro e w2 ⟨rfl, hw2⟩; rw [hr.out]; have K := K.keep hw2; have S0 := S0.keep hw2; have S1 := S1.keep hw2; have hb := hb.trans (hw2.mono hb.size); have s0 := S0.1; have s1 := S1.1; have k0 := K.1.1; have k1 := K.2.1.1; have k2 := K.2.2.1; have f1 := K.2.1.2; have f2 := K.2.2.2; clear hw2))
  go_quiet (fail)
  go_wp2
  go_ret
  exact ⟨rfl, K, by first | exact Only.of_below hb | exact Only.of_below (below_toN hb _)⟩

set_option maxHeartbeats 1600000 in
set_option maxRecDepth 100000 in
theorem learn_in_up (g : Nat) (o x y a b wall : Int) (w : World) (hk : Clk w g o x y) (hw : wallOk wall = true) (hr : stOk a b = true) (h : ¬ o < a - wall) (hN : 0 < stCmp a b x y) :
    Calls Try.prog 26 #[.pointer (some ⟨g, 0, none⟩), .agg #[.int .i64 a, .int .i64 b], .int .i64 wall] w fun e w' => e = .returned (.int .i64 0) ∧ Clk w' g o a b ∧ Only g w w' := by
  have h2 : decide (o < a - wall) = false := by rw [decide_eq_false_iff_not]; exact h
  have CC := Lib.hid (compare_any a b x y)
  obtain ⟨N, hN'⟩ : ∃ N, N = stCmp a b x y := ⟨_, rfl⟩
  rw [← hN'] at CC hN
  clear hN'
  obtain ⟨a0, a1⟩ := stOk_wall hr
  obtain ⟨l0, l1⟩ := wallOk_le hw
  have hsub : IntKind.i64.wrap (a - wall) = a - wall := IntWalk.i64_in _ (by omega)
  replace hr := Lib.hid hr
  replace hw := Lib.hid hw
  have hb := below1 w (.cells #[.int .i64 a, .int .i64 b] 23)
  have K := hk.keep hb
  have hg := hk.lt
  have S0 := Cell.new w #[.int .i64 a, .int .i64 b] 23 0 _ rfl
  have S1 := Cell.new w #[.int .i64 a, .int .i64 b] 23 1 _ rfl
  clear hk
  go_enter Try.func26, Try.ntmps26
  go_wp2_with (first | (go_at_call 31; refine (isWall_any _ _).mono ?_; rintro e w1 ⟨rfl, rfl⟩; rw [hw.out]) | (go_at_call 10; refine (right_any _ _ _).mono ?_; rintro e w2 ⟨rfl, hw2⟩; rw [hr.out]; have K := K.keep hw2; have S0 := S0.keep hw2; have S1 := S1.keep hw2; have hb := hb.trans (hw2.mono hb.size); have s0 := S0.1; have s1 := S1.1; have k0 := K.1.1; have k1 := K.2.1.1; have k2 := K.2.2.1; have f1 := K.2.1.2; have f2 := K.2.2.2; clear hw2))
  go_quiet (fail)
  clear hsub
  go_wp2_with fail
  go_region_held3 (fun w' => w'.cell? ⟨w.heap.size, 0, none⟩ = some (.int .i64 a) ∧ w'.cell? ⟨w.heap.size, 1, none⟩ = some (.int .i64 b) ∧ w'.cell? ⟨g, 1, none⟩ = some (.int .i64 x) ∧ w'.cell? ⟨g, 2, none⟩ = some (.int .i64 y)) (first | exact ⟨S0.1, S1.1, K.2.1.1, K.2.2.1⟩ | go_keep)
    (first | (go_at_call 11; refine (CC.out _).mono ?_; rintro e w2 ⟨rfl, hw2⟩; have hw2 := below_of_drewN hw2; have K := K.keep hw2; have S0 := S0.keep hw2; have S1 := S1.keep hw2; have hb := hb.trans (hw2.mono hb.size); have s0 := S0.1; have s1 := S1.1; have k0 := K.1.1; have k1 := K.2.1.1; have k2 := K.2.2.1; have f1 := K.2.1.2; have f2 := K.2.2.2; clear hw2))
  all_goals go_wp2
  all_goals go_ret
  all_goals refine ⟨rfl, K.set a b, ?_⟩
  all_goals exact (Only.of_below hb).set2 _ _ _ _

set_option maxHeartbeats 1600000 in
set_option maxRecDepth 100000 in
theorem learn_in_no (g : Nat) (o x y a b wall : Int) (w : World) (hk : Clk w g o x y) (hw : wallOk wall = true) (hr : stOk a b = true) (h : ¬ o < a - wall) (hN : ¬ 0 < stCmp a b x y) :
    Calls Try.prog 26 #[.pointer (some ⟨g, 0, none⟩), .agg #[.int .i64 a, .int .i64 b], .int .i64 wall] w fun e w' => e = .returned (.int .i64 0) ∧ Clk w' g o x y ∧ Only g w w' := by
  have h2 : decide (o < a - wall) = false := by rw [decide_eq_false_iff_not]; exact h
  have CC := Lib.hid (compare_any a b x y)
  obtain ⟨N, hN'⟩ : ∃ N, N = stCmp a b x y := ⟨_, rfl⟩
  rw [← hN'] at CC hN
  clear hN'
  obtain ⟨a0, a1⟩ := stOk_wall hr
  obtain ⟨l0, l1⟩ := wallOk_le hw
  have hsub : IntKind.i64.wrap (a - wall) = a - wall := IntWalk.i64_in _ (by omega)
  replace hr := Lib.hid hr
  replace hw := Lib.hid hw
  have hb := below1 w (.cells #[.int .i64 a, .int .i64 b] 23)
  have K := hk.keep hb
  have hg := hk.lt
  have S0 := Cell.new w #[.int .i64 a, .int .i64 b] 23 0 _ rfl
  have S1 := Cell.new w #[.int .i64 a, .int .i64 b] 23 1 _ rfl
  clear hk
  go_enter Try.func26, Try.ntmps26
  go_wp2_with (first | (go_at_call 31; refine (isWall_any _ _).mono ?_; rintro e w1 ⟨rfl, rfl⟩; rw [hw.out]) | (go_at_call 10; refine (right_any _ _ _).mono ?_; rintro e w2 ⟨rfl, hw2⟩; rw [hr.out]; have K := K.keep hw2; have S0 := S0.keep hw2; have S1 := S1.keep hw2; have hb := hb.trans (hw2.mono hb.size); have s0 := S0.1; have s1 := S1.1; have k0 := K.1.1; have k1 := K.2.1.1; have k2 := K.2.2.1; have f1 := K.2.1.2; have f2 := K.2.2.2; clear hw2))
  go_quiet (fail)
  clear hsub
  go_wp2_with fail
  go_region_held3 (fun w' => w'.cell? ⟨w.heap.size, 0, none⟩ = some (.int .i64 a) ∧ w'.cell? ⟨w.heap.size, 1, none⟩ = some (.int .i64 b) ∧ w'.cell? ⟨g, 1, none⟩ = some (.int .i64 x) ∧ w'.cell? ⟨g, 2, none⟩ = some (.int .i64 y)) (first | exact ⟨S0.1, S1.1, K.2.1.1, K.2.2.1⟩ | go_keep)
    (first | (go_at_call 11; refine (CC.out _).mono ?_; rintro e w2 ⟨rfl, hw2⟩; have hw2 := below_of_drewN hw2; have K := K.keep hw2; have S0 := S0.keep hw2; have S1 := S1.keep hw2; have hb := hb.trans (hw2.mono hb.size); have s0 := S0.1; have s1 := S1.1; have k0 := K.1.1; have k1 := K.2.1.1; have k2 := K.2.2.1; have f1 := K.2.1.2; have f2 := K.2.2.2; clear hw2))
  all_goals go_wp2
  all_goals go_ret
  all_goals exact ⟨rfl, K, by first | exact Only.of_below hb | exact Only.of_below (below_toN hb _)⟩

theorem learn_any (g : Nat) (o x y a b wall : Int) (w : World) (hk : Clk w g o x y) :
    Calls Try.prog 26 #[.pointer (some ⟨g, 0, none⟩), .agg #[.int .i64 a, .int .i64 b], .int .i64 wall] w fun e w' => e = .returned (.int .i64 (learnE o a b wall)) ∧ Clk w' g o (learnL o x y a b wall).1 (learnL o x y a b wall).2 ∧ Only g w w' := by
  rcases hw : wallOk wall with _ | _
  · have he : learnE o a b wall = 1 := by unfold learnE; rw [if_pos hw]
    have hl : learnL o x y a b wall = (x, y) := by unfold learnL; rw [he, if_neg (by simp)]
    rw [he, hl]
    exact learn_wall g o x y a b wall w hk hw
  · rcases hr : stOk a b with _ | _
    · have he : learnE o a b wall = 80 := by unfold learnE; rw [if_neg (by rw [hw]; decide), if_pos hr]
      have hl : learnL o x y a b wall = (x, y) := by unfold learnL; rw [he, if_neg (by simp)]
      rw [he, hl]
      exact learn_form g o x y a b wall w hk hw hr
    · by_cases h : o < a - wall
      · have he : learnE o a b wall = 81 := by unfold learnE; rw [if_neg (by rw [hw]; decide), if_neg (by rw [hr]; decide), if_pos h]
        have hl : learnL o x y a b wall = (x, y) := by unfold learnL; rw [he, if_neg (by simp)]
        rw [he, hl]
        exact learn_ahead g o x y a b wall w hk hw hr h
      · have he : learnE o a b wall = 0 := by unfold learnE; rw [if_neg (by rw [hw]; decide), if_neg (by rw [hr]; decide), if_neg h]
        by_cases hN : 0 < stCmp a b x y
        · have hl : learnL o x y a b wall = (a, b) := by unfold learnL; rw [he, if_pos ⟨rfl, hN⟩]
          rw [he, hl]
          exact learn_in_up g o x y a b wall w hk hw hr h hN
        · have hl : learnL o x y a b wall = (x, y) := by unfold learnL; rw [if_neg (fun h => hN h.2)]
          rw [he, hl]
          exact learn_in_no g o x y a b wall w hk hw hr h hN

set_option maxHeartbeats 1600000 in
set_option maxRecDepth 100000 in
theorem rlearn_wall (g : Nat) (o x y a b wall : Int) (w : World) (hk : Clk w g o x y) (ho : 0 ≤ o) (hw : wallOk wall = false) :
    Calls Try.prog 27 #[.pointer (some ⟨g, 0, none⟩), .agg #[.int .i64 a, .int .i64 b], .int .i64 wall] w fun e w' => e = .returned (.int .i64 1) ∧ Clk w' g o x y ∧ Only g w w' := by
  replace hw := Lib.hid hw
  have hb := below1 w (.cells #[.int .i64 a, .int .i64 b] 23)
  have K := hk.keep hb
  have hg := hk.lt
  have S0 := Cell.new w #[.int .i64 a, .int .i64 b] 23 0 _ rfl
  have S1 := Cell.new w #[.int .i64 a, .int .i64 b] 23 1 _ rfl
  clear hk
  go_enter Try.func27, Try.ntmps27
  go_wp2_with (go_at_call 23; refine (risWall_any _ _).mono ?_; rintro e w1 ⟨rfl, rfl⟩; rw [hw.out])
  go_ret
  exact ⟨rfl, K, by first | exact Only.of_below hb | exact Only.of_below (below_toN hb _)⟩

set_option maxHeartbeats 1600000 in
set_option maxRecDepth 100000 in
theorem rlearn_form (g : Nat) (o x y a b wall : Int) (w : World) (hk : Clk w g o x y) (ho : 0 ≤ o) (hw : wallOk wall = true) (hr : stOk a b = false) :
    Calls Try.prog 27 #[.pointer (some ⟨g, 0, none⟩), .agg #[.int .i64 a, .int .i64 b], .int .i64 wall] w fun e w' => e = .returned (.int .i64 80) ∧ Clk w' g o x y ∧ Only g w w' := by
  replace hr := Lib.hid hr
  replace hw := Lib.hid hw
  have hb := below1 w (.cells #[.int .i64 a, .int .i64 b] 23)
  have K := hk.keep hb
  have hg := hk.lt
  have S0 := Cell.new w #[.int .i64 a, .int .i64 b] 23 0 _ rfl
  have S1 := Cell.new w #[.int .i64 a, .int .i64 b] 23 1 _ rfl
  clear hk
  go_enter Try.func27, Try.ntmps27
  go_wp2_with (first | (go_at_call 23; refine (risWall_any _ _).mono ?_; rintro e w1 ⟨rfl, rfl⟩; rw [hw.out]) | (go_at_call 14; refine (rright_any _ _ _).mono ?_; rintro e w2 ⟨rfl, hw2⟩; rw [hr.out]; have K := K.keep hw2; have S0 := S0.keep hw2; have S1 := S1.keep hw2; have hb := hb.trans (hw2.mono hb.size); have s0 := S0.1; have s1 := S1.1; have k0 := K.1.1; have k1 := K.2.1.1; have k2 := K.2.2.1; have f1 := K.2.1.2; have f2 := K.2.2.2; clear hw2))
  go_ret
  exact ⟨rfl, K, by first | exact Only.of_below hb | exact Only.of_below (below_toN hb _)⟩

set_option maxHeartbeats 1600000 in
set_option maxRecDepth 100000 in
theorem rlearn_ahead (g : Nat) (o x y a b wall : Int) (w : World) (hk : Clk w g o x y) (ho : 0 ≤ o) (hw : wallOk wall = true) (hr : stOk a b = true) (h : o < a - wall) :
    Calls Try.prog 27 #[.pointer (some ⟨g, 0, none⟩), .agg #[.int .i64 a, .int .i64 b], .int .i64 wall] w fun e w' => e = .returned (.int .i64 81) ∧ Clk w' g o x y ∧ Only g w w' := by
  have h1 : decide (wall < a) = true := by rw [decide_eq_true_iff]; omega
  have h2 : decide (o < a - wall) = true := by rw [decide_eq_true_iff]; exact h
  obtain ⟨a0, a1⟩ := stOk_wall hr
  obtain ⟨l0, l1⟩ := wallOk_le hw
  have hsub : IntKind.i64.wrap (a - wall) = a - wall := IntWalk.i64_in _ (by omega)
  replace hr := Lib.hid hr
  replace hw := Lib.hid hw
  have hb := below1 w (.cells #[.int .i64 a, .int .i64 b] 23)
  have K := hk.keep hb
  have hg := hk.lt
  have S0 := Cell.new w #[.int .i64 a, .int .i64 b] 23 0 _ rfl
  have S1 := Cell.new w #[.int .i64 a, .int .i64 b] 23 1 _ rfl
  clear hk
  go_enter Try.func27, Try.ntmps27
  go_wp2_with (first | (go_at_call 23; refine (risWall_any _ _).mono ?_; rintro e w1 ⟨rfl, rfl⟩; rw [hw.out]) | (go_at_call 14; refine (rright_any _ _ _).mono ?_; rintro e w2 ⟨rfl, hw2⟩; rw [hr.out]; have K := K.keep hw2; have S0 := S0.keep hw2; have S1 := S1.keep hw2; have hb := hb.trans (hw2.mono hb.size); have s0 := S0.1; have s1 := S1.1; have k0 := K.1.1; have k1 := K.2.1.1; have k2 := K.2.2.1; have f1 := K.2.1.2; have f2 := K.2.2.2; clear hw2))
  go_quiet (fail)
  go_wp2
  go_ret
  exact ⟨rfl, K, by first | exact Only.of_below hb | exact Only.of_below (below_toN hb _)⟩

set_option maxHeartbeats 1600000 in
set_option maxRecDepth 100000 in
theorem rlearn_low_up (g : Nat) (o x y a b wall : Int) (w : World) (hk : Clk w g o x y) (ho : 0 ≤ o) (hw : wallOk wall = true) (hr : stOk a b = true) (h : ¬ o < a - wall) (hlo : ¬ wall < a) (hN : 0 < stCmp a b x y) :
    Calls Try.prog 27 #[.pointer (some ⟨g, 0, none⟩), .agg #[.int .i64 a, .int .i64 b], .int .i64 wall] w fun e w' => e = .returned (.int .i64 0) ∧ Clk w' g o a b ∧ Only g w w' := by
  have h1 : decide (wall < a) = false := by rw [decide_eq_false_iff_not]; exact hlo
  have CC := Lib.hid (rcompare_any a b x y)
  obtain ⟨N, hN'⟩ : ∃ N, N = stCmp a b x y := ⟨_, rfl⟩
  rw [← hN'] at CC hN
  clear hN'
  obtain ⟨a0, a1⟩ := stOk_wall hr
  obtain ⟨l0, l1⟩ := wallOk_le hw
  have hsub : IntKind.i64.wrap (a - wall) = a - wall := IntWalk.i64_in _ (by omega)
  replace hr := Lib.hid hr
  replace hw := Lib.hid hw
  have hb := below1 w (.cells #[.int .i64 a, .int .i64 b] 23)
  have K := hk.keep hb
  have hg := hk.lt
  have S0 := Cell.new w #[.int .i64 a, .int .i64 b] 23 0 _ rfl
  have S1 := Cell.new w #[.int .i64 a, .int .i64 b] 23 1 _ rfl
  clear hk
  go_enter Try.func27, Try.ntmps27
  go_wp2_with (first | (go_at_call 23; refine (risWall_any _ _).mono ?_; rintro e w1 ⟨rfl, rfl⟩; rw [hw.out]) | (go_at_call 14; refine (rright_any _ _ _).mono ?_; rintro e w2 ⟨rfl, hw2⟩; rw [hr.out]; have K := K.keep hw2; have S0 := S0.keep hw2; have S1 := S1.keep hw2; have hb := hb.trans (hw2.mono hb.size); have s0 := S0.1; have s1 := S1.1; have k0 := K.1.1; have k1 := K.2.1.1; have k2 := K.2.2.1; have f1 := K.2.1.2; have f2 := K.2.2.2; clear hw2))
  go_quiet (fail)
  clear hsub
  go_wp2_with fail
  go_region_held3 (fun w' => w'.cell? ⟨w.heap.size, 0, none⟩ = some (.int .i64 a) ∧ w'.cell? ⟨w.heap.size, 1, none⟩ = some (.int .i64 b) ∧ w'.cell? ⟨g, 1, none⟩ = some (.int .i64 x) ∧ w'.cell? ⟨g, 2, none⟩ = some (.int .i64 y)) (first | exact ⟨S0.1, S1.1, K.2.1.1, K.2.2.1⟩ | go_keep)
    (first | (go_at_call 15; refine (CC.out _).mono ?_; rintro e w2 ⟨rfl, hw2⟩; have hw2 := below_of_drewN hw2; have K := K.keep hw2; have S0 := S0.keep hw2; have S1 := S1.keep hw2; have hb := hb.trans (hw2.mono hb.size); have s0 := S0.1; have s1 := S1.1; have k0 := K.1.1; have k1 := K.2.1.1; have k2 := K.2.2.1; have f1 := K.2.1.2; have f2 := K.2.2.2; clear hw2))
  all_goals go_wp2
  all_goals go_ret
  all_goals refine ⟨rfl, K.set a b, ?_⟩
  all_goals exact (Only.of_below hb).set2 _ _ _ _

set_option maxHeartbeats 1600000 in
set_option maxRecDepth 100000 in
theorem rlearn_low_no (g : Nat) (o x y a b wall : Int) (w : World) (hk : Clk w g o x y) (ho : 0 ≤ o) (hw : wallOk wall = true) (hr : stOk a b = true) (h : ¬ o < a - wall) (hlo : ¬ wall < a) (hN : ¬ 0 < stCmp a b x y) :
    Calls Try.prog 27 #[.pointer (some ⟨g, 0, none⟩), .agg #[.int .i64 a, .int .i64 b], .int .i64 wall] w fun e w' => e = .returned (.int .i64 0) ∧ Clk w' g o x y ∧ Only g w w' := by
  have h1 : decide (wall < a) = false := by rw [decide_eq_false_iff_not]; exact hlo
  have CC := Lib.hid (rcompare_any a b x y)
  obtain ⟨N, hN'⟩ : ∃ N, N = stCmp a b x y := ⟨_, rfl⟩
  rw [← hN'] at CC hN
  clear hN'
  obtain ⟨a0, a1⟩ := stOk_wall hr
  obtain ⟨l0, l1⟩ := wallOk_le hw
  have hsub : IntKind.i64.wrap (a - wall) = a - wall := IntWalk.i64_in _ (by omega)
  replace hr := Lib.hid hr
  replace hw := Lib.hid hw
  have hb := below1 w (.cells #[.int .i64 a, .int .i64 b] 23)
  have K := hk.keep hb
  have hg := hk.lt
  have S0 := Cell.new w #[.int .i64 a, .int .i64 b] 23 0 _ rfl
  have S1 := Cell.new w #[.int .i64 a, .int .i64 b] 23 1 _ rfl
  clear hk
  go_enter Try.func27, Try.ntmps27
  go_wp2_with (first | (go_at_call 23; refine (risWall_any _ _).mono ?_; rintro e w1 ⟨rfl, rfl⟩; rw [hw.out]) | (go_at_call 14; refine (rright_any _ _ _).mono ?_; rintro e w2 ⟨rfl, hw2⟩; rw [hr.out]; have K := K.keep hw2; have S0 := S0.keep hw2; have S1 := S1.keep hw2; have hb := hb.trans (hw2.mono hb.size); have s0 := S0.1; have s1 := S1.1; have k0 := K.1.1; have k1 := K.2.1.1; have k2 := K.2.2.1; have f1 := K.2.1.2; have f2 := K.2.2.2; clear hw2))
  go_quiet (fail)
  clear hsub
  go_wp2_with fail
  go_region_held3 (fun w' => w'.cell? ⟨w.heap.size, 0, none⟩ = some (.int .i64 a) ∧ w'.cell? ⟨w.heap.size, 1, none⟩ = some (.int .i64 b) ∧ w'.cell? ⟨g, 1, none⟩ = some (.int .i64 x) ∧ w'.cell? ⟨g, 2, none⟩ = some (.int .i64 y)) (first | exact ⟨S0.1, S1.1, K.2.1.1, K.2.2.1⟩ | go_keep)
    (first | (go_at_call 15; refine (CC.out _).mono ?_; rintro e w2 ⟨rfl, hw2⟩; have hw2 := below_of_drewN hw2; have K := K.keep hw2; have S0 := S0.keep hw2; have S1 := S1.keep hw2; have hb := hb.trans (hw2.mono hb.size); have s0 := S0.1; have s1 := S1.1; have k0 := K.1.1; have k1 := K.2.1.1; have k2 := K.2.2.1; have f1 := K.2.1.2; have f2 := K.2.2.2; clear hw2))
  all_goals go_wp2
  all_goals go_ret
  all_goals exact ⟨rfl, K, by first | exact Only.of_below hb | exact Only.of_below (below_toN hb _)⟩

set_option maxHeartbeats 1600000 in
set_option maxRecDepth 100000 in
theorem rlearn_mid_up (g : Nat) (o x y a b wall : Int) (w : World) (hk : Clk w g o x y) (ho : 0 ≤ o) (hw : wallOk wall = true) (hr : stOk a b = true) (h : ¬ o < a - wall) (hlo : wall < a) (hN : 0 < stCmp a b x y) :
    Calls Try.prog 27 #[.pointer (some ⟨g, 0, none⟩), .agg #[.int .i64 a, .int .i64 b], .int .i64 wall] w fun e w' => e = .returned (.int .i64 0) ∧ Clk w' g o a b ∧ Only g w w' := by
  have h1 : decide (wall < a) = true := by rw [decide_eq_true_iff]; exact hlo
  have h2 : decide (o < a - wall) = false := by rw [decide_eq_false_iff_not]; exact h
  have CC := Lib.hid (rcompare_any a b x y)
  obtain ⟨N, hN'⟩ : ∃ N, N = stCmp a b x y := ⟨_, rfl⟩
  rw [← hN'] at CC hN
  clear hN'
  obtain ⟨a0, a1⟩ := stOk_wall hr
  obtain ⟨l0, l1⟩ := wallOk_le hw
  have hsub : IntKind.i64.wrap (a - wall) = a - wall := IntWalk.i64_in _ (by omega)
  replace hr := Lib.hid hr
  replace hw := Lib.hid hw
  have hb := below1 w (.cells #[.int .i64 a, .int .i64 b] 23)
  have K := hk.keep hb
  have hg := hk.lt
  have S0 := Cell.new w #[.int .i64 a, .int .i64 b] 23 0 _ rfl
  have S1 := Cell.new w #[.int .i64 a, .int .i64 b] 23 1 _ rfl
  clear hk
  go_enter Try.func27, Try.ntmps27
  go_wp2_with (first | (go_at_call 23; refine (risWall_any _ _).mono ?_; rintro e w1 ⟨rfl, rfl⟩; rw [hw.out]) | (go_at_call 14; refine (rright_any _ _ _).mono ?_; rintro e w2 ⟨rfl, hw2⟩; rw [hr.out]; have K := K.keep hw2; have S0 := S0.keep hw2; have S1 := S1.keep hw2; have hb := hb.trans (hw2.mono hb.size); have s0 := S0.1; have s1 := S1.1; have k0 := K.1.1; have k1 := K.2.1.1; have k2 := K.2.2.1; have f1 := K.2.1.2; have f2 := K.2.2.2; clear hw2))
  go_quiet (fail)
  clear hsub
  go_wp2_with fail
  go_region_held3 (fun w' => w'.cell? ⟨w.heap.size, 0, none⟩ = some (.int .i64 a) ∧ w'.cell? ⟨w.heap.size, 1, none⟩ = some (.int .i64 b) ∧ w'.cell? ⟨g, 1, none⟩ = some (.int .i64 x) ∧ w'.cell? ⟨g, 2, none⟩ = some (.int .i64 y)) (first | exact ⟨S0.1, S1.1, K.2.1.1, K.2.2.1⟩ | go_keep)
    (first | (go_at_call 15; refine (CC.out _).mono ?_; rintro e w2 ⟨rfl, hw2⟩; have hw2 := below_of_drewN hw2; have K := K.keep hw2; have S0 := S0.keep hw2; have S1 := S1.keep hw2; have hb := hb.trans (hw2.mono hb.size); have s0 := S0.1; have s1 := S1.1; have k0 := K.1.1; have k1 := K.2.1.1; have k2 := K.2.2.1; have f1 := K.2.1.2; have f2 := K.2.2.2; clear hw2))
  all_goals go_wp2
  all_goals go_ret
  all_goals refine ⟨rfl, K.set a b, ?_⟩
  all_goals exact (Only.of_below hb).set2 _ _ _ _

set_option maxHeartbeats 1600000 in
set_option maxRecDepth 100000 in
theorem rlearn_mid_no (g : Nat) (o x y a b wall : Int) (w : World) (hk : Clk w g o x y) (ho : 0 ≤ o) (hw : wallOk wall = true) (hr : stOk a b = true) (h : ¬ o < a - wall) (hlo : wall < a) (hN : ¬ 0 < stCmp a b x y) :
    Calls Try.prog 27 #[.pointer (some ⟨g, 0, none⟩), .agg #[.int .i64 a, .int .i64 b], .int .i64 wall] w fun e w' => e = .returned (.int .i64 0) ∧ Clk w' g o x y ∧ Only g w w' := by
  have h1 : decide (wall < a) = true := by rw [decide_eq_true_iff]; exact hlo
  have h2 : decide (o < a - wall) = false := by rw [decide_eq_false_iff_not]; exact h
  have CC := Lib.hid (rcompare_any a b x y)
  obtain ⟨N, hN'⟩ : ∃ N, N = stCmp a b x y := ⟨_, rfl⟩
  rw [← hN'] at CC hN
  clear hN'
  obtain ⟨a0, a1⟩ := stOk_wall hr
  obtain ⟨l0, l1⟩ := wallOk_le hw
  have hsub : IntKind.i64.wrap (a - wall) = a - wall := IntWalk.i64_in _ (by omega)
  replace hr := Lib.hid hr
  replace hw := Lib.hid hw
  have hb := below1 w (.cells #[.int .i64 a, .int .i64 b] 23)
  have K := hk.keep hb
  have hg := hk.lt
  have S0 := Cell.new w #[.int .i64 a, .int .i64 b] 23 0 _ rfl
  have S1 := Cell.new w #[.int .i64 a, .int .i64 b] 23 1 _ rfl
  clear hk
  go_enter Try.func27, Try.ntmps27
  go_wp2_with (first | (go_at_call 23; refine (risWall_any _ _).mono ?_; rintro e w1 ⟨rfl, rfl⟩; rw [hw.out]) | (go_at_call 14; refine (rright_any _ _ _).mono ?_; rintro e w2 ⟨rfl, hw2⟩; rw [hr.out]; have K := K.keep hw2; have S0 := S0.keep hw2; have S1 := S1.keep hw2; have hb := hb.trans (hw2.mono hb.size); have s0 := S0.1; have s1 := S1.1; have k0 := K.1.1; have k1 := K.2.1.1; have k2 := K.2.2.1; have f1 := K.2.1.2; have f2 := K.2.2.2; clear hw2))
  go_quiet (fail)
  clear hsub
  go_wp2_with fail
  go_region_held3 (fun w' => w'.cell? ⟨w.heap.size, 0, none⟩ = some (.int .i64 a) ∧ w'.cell? ⟨w.heap.size, 1, none⟩ = some (.int .i64 b) ∧ w'.cell? ⟨g, 1, none⟩ = some (.int .i64 x) ∧ w'.cell? ⟨g, 2, none⟩ = some (.int .i64 y)) (first | exact ⟨S0.1, S1.1, K.2.1.1, K.2.2.1⟩ | go_keep)
    (first | (go_at_call 15; refine (CC.out _).mono ?_; rintro e w2 ⟨rfl, hw2⟩; have hw2 := below_of_drewN hw2; have K := K.keep hw2; have S0 := S0.keep hw2; have S1 := S1.keep hw2; have hb := hb.trans (hw2.mono hb.size); have s0 := S0.1; have s1 := S1.1; have k0 := K.1.1; have k1 := K.2.1.1; have k2 := K.2.2.1; have f1 := K.2.1.2; have f2 := K.2.2.2; clear hw2))
  all_goals go_wp2
  all_goals go_ret
  all_goals exact ⟨rfl, K, by first | exact Only.of_below hb | exact Only.of_below (below_toN hb _)⟩

theorem rlearn_any (g : Nat) (o x y a b wall : Int) (w : World) (hk : Clk w g o x y) (ho : 0 ≤ o) :
    Calls Try.prog 27 #[.pointer (some ⟨g, 0, none⟩), .agg #[.int .i64 a, .int .i64 b], .int .i64 wall] w fun e w' => e = .returned (.int .i64 (learnE o a b wall)) ∧ Clk w' g o (learnL o x y a b wall).1 (learnL o x y a b wall).2 ∧ Only g w w' := by
  rcases hw : wallOk wall with _ | _
  · have he : learnE o a b wall = 1 := by unfold learnE; rw [if_pos hw]
    have hl : learnL o x y a b wall = (x, y) := by unfold learnL; rw [he, if_neg (by simp)]
    rw [he, hl]
    exact rlearn_wall g o x y a b wall w hk ho hw
  · rcases hr : stOk a b with _ | _
    · have he : learnE o a b wall = 80 := by unfold learnE; rw [if_neg (by rw [hw]; decide), if_pos hr]
      have hl : learnL o x y a b wall = (x, y) := by unfold learnL; rw [he, if_neg (by simp)]
      rw [he, hl]
      exact rlearn_form g o x y a b wall w hk ho hw hr
    · by_cases h : o < a - wall
      · have he : learnE o a b wall = 81 := by unfold learnE; rw [if_neg (by rw [hw]; decide), if_neg (by rw [hr]; decide), if_pos h]
        have hl : learnL o x y a b wall = (x, y) := by unfold learnL; rw [he, if_neg (by simp)]
        rw [he, hl]
        exact rlearn_ahead g o x y a b wall w hk ho hw hr h
      · have he : learnE o a b wall = 0 := by unfold learnE; rw [if_neg (by rw [hw]; decide), if_neg (by rw [hr]; decide), if_neg h]
        by_cases hN : 0 < stCmp a b x y
        · have hl : learnL o x y a b wall = (a, b) := by unfold learnL; rw [he, if_pos ⟨rfl, hN⟩]
          rw [he, hl]
          by_cases hlo : wall < a
          · exact rlearn_mid_up g o x y a b wall w hk ho hw hr h hlo hN
          · exact rlearn_low_up g o x y a b wall w hk ho hw hr h hlo hN
        · have hl : learnL o x y a b wall = (x, y) := by unfold learnL; rw [if_neg (fun h => hN h.2)]
          rw [he, hl]
          by_cases hlo : wall < a
          · exact rlearn_mid_no g o x y a b wall w hk ho hw hr h hlo hN
          · exact rlearn_low_no g o x y a b wall w hk ho hw hr h hlo hN

end Go.Proofs.Ytglpaeiebkacoaa
