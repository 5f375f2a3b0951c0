/-
  The contracts of Passed, of the code's clock and of the reference's.
-/
import Derived.Test.YtglpaeiebkacoaaLearn
set_option linter.unusedSimpArgs false
set_option linter.unusedVariables false
namespace Go.Proofs.Ytglpaeiebkacoaa
open Go.RowKit

set_option maxHeartbeats 1600000 in
set_option maxRecDepth 100000 in
theorem passed_form (g : Nat) (o x y a b wall : Int) (w : World) (hk : Clk w g o x y) (ho : wallOk o = true) (hr : stOk a b = false) :
    Calls Try.prog 28 #[.pointer (some ⟨g, 0, none⟩), .agg #[.int .i64 a, .int .i64 b], .int .i64 wall] w fun e w' => e = .returned (.bool false) ∧ Below w.heap.size w w' := by
  have RC := Lib.hid (right_any a b)
  have WC := Lib.hid (isWall_any wall)
  rw [hr] at RC
  obtain ⟨q, hq⟩ : ∃ q, q = wallOk wall := ⟨_, rfl⟩
  rw [← hq] at WC
  clear hq
  clear hr ho
  have hb := below1 w (.cells #[.int .i64 a, .int .i64 b] 23)
  have K := hk.keep hb
  have hg := hk.lt
  have S0 := Cell.new w #[.int .i64 a, .int .i64 b] 23 0 _ rfl
  have S1 := Cell.new w #[.int .i64 a, .int .i64 b] 23 1 _ rfl
  clear hk
  have s0 := S0.1
  have s1 := S1.1
  have k0 := K.1.1
  go_enter Try.func28, Try.ntmps28
  go_wp2_with fail
  refine wp_region_held_drew (S := (fun w' : World => w'.cell? ⟨w.heap.size, 0, none⟩ = some (.int .i64 a) ∧ w'.cell? ⟨w.heap.size, 1, none⟩ = some (.int .i64 b) ∧ w'.cell? ⟨g, 0, none⟩ = some (.int .i64 o))) (by kernel_rfl) ⟨S0.1, S1.1, K.1.1⟩ (fun hHeld => ?_)
  refine take_in (i := 0) (d := 7) (.agg #[.int .i64 a, .int .i64 b]) rfl (by kernel_rfl) (by kernel_rfl) (by kernel_rfl) (fun _ _ _ h => h) rfl (by rfl) (fun w1 hS1 => by (try dsimp only at hS1); go_simp) (by assumption) ?_
  try simp only [Act.put, List.setIfInBounds_toArray, List.set_cons_zero, List.set_cons_succ]
  refine wpAnyH_ready (rs := [1]) (by kernel_rfl) (by simp) (AllReadyH.cons rfl (fun K1 hK => ?_) AllReadyH.nil)
  go_simp
  refine (RC.out _).mono ?_; rintro e w2 ⟨rfl, hw2⟩; have hw2 := below_of_drew hw2; have K := K.keep hw2; have S0 := S0.keep hw2; have S1 := S1.keep hw2; have hb := hb.trans (hw2.mono hb.size); clear hw2
  refine hK.out _ _ ⟨S0.1, S1.1, K.1.1⟩ (fun hHeld => ?_)
  clear hK K1
  try simp only [Act.put, List.setIfInBounds_toArray, List.set_cons_zero, List.set_cons_succ]
  refine take_in (i := 2) (d := 9) (.bool false) rfl (by kernel_rfl) (by kernel_rfl) (by kernel_rfl) (fun _ _ _ h => h) rfl (by rfl) (fun w1 hS1 => by (try dsimp only at hS1); go_simp) (by assumption) ?_
  try simp only [Act.put, List.setIfInBounds_toArray, List.set_cons_zero, List.set_cons_succ]
  refine skip_in (i := 3) (d := 10) rfl (by kernel_rfl) (by kernel_rfl) (by kernel_rfl) (fun _ _ _ h => h) rfl (by rfl) (by assumption) ?_
  try simp only [Act.put, List.setIfInBounds_toArray, List.set_cons_zero, List.set_cons_succ]
  refine skip_in (i := 4) (d := 11) rfl (by kernel_rfl) (by kernel_rfl) (by kernel_rfl) (fun _ _ _ h => h) rfl (by rfl) (by assumption) ?_
  try simp only [Act.put, List.setIfInBounds_toArray, List.set_cons_zero, List.set_cons_succ]
  refine take_in (i := 5) (d := 12) (.bool false) rfl (by kernel_rfl) (by kernel_rfl) (by kernel_rfl) (fun _ _ _ h => h) rfl (by rfl) (fun w1 hS1 => by (try dsimp only at hS1); go_simp) (by assumption) ?_
  try simp only [Act.put, List.setIfInBounds_toArray, List.set_cons_zero, List.set_cons_succ]
  refine take_in (i := 6) (d := 13) (.bool false) rfl (by kernel_rfl) (by kernel_rfl) (by kernel_rfl) (fun _ _ _ h => h) rfl (by rfl) (fun w1 hS1 => by (try dsimp only at hS1); go_simp) (by assumption) ?_
  try simp only [Act.put, List.setIfInBounds_toArray, List.set_cons_zero, List.set_cons_succ]
  refine skip_in (i := 7) (d := 14) rfl (by kernel_rfl) (by kernel_rfl) (by kernel_rfl) (fun _ _ _ h => h) rfl (by rfl) (by assumption) ?_
  try simp only [Act.put, List.setIfInBounds_toArray, List.set_cons_zero, List.set_cons_succ]
  refine skip_in (i := 8) (d := 15) rfl (by kernel_rfl) (by kernel_rfl) (by kernel_rfl) (fun _ _ _ h => h) rfl (by rfl) (by assumption) ?_
  try simp only [Act.put, List.setIfInBounds_toArray, List.set_cons_zero, List.set_cons_succ]
  refine skip_in (i := 9) (d := 16) rfl (by kernel_rfl) (by kernel_rfl) (by kernel_rfl) (fun _ _ _ h => h) rfl (by rfl) (by assumption) ?_
  try simp only [Act.put, List.setIfInBounds_toArray, List.set_cons_zero, List.set_cons_succ]
  refine skip_in (i := 10) (d := 17) rfl (by kernel_rfl) (by kernel_rfl) (by kernel_rfl) (fun _ _ _ h => h) rfl (by rfl) (by assumption) ?_
  try simp only [Act.put, List.setIfInBounds_toArray, List.set_cons_zero, List.set_cons_succ]
  refine skip_in (i := 11) (d := 18) rfl (by kernel_rfl) (by kernel_rfl) (by kernel_rfl) (fun _ _ _ h => h) rfl (by rfl) (by assumption) ?_
  try simp only [Act.put, List.setIfInBounds_toArray, List.set_cons_zero, List.set_cons_succ]
  refine skip_in (i := 12) (d := 19) rfl (by kernel_rfl) (by kernel_rfl) (by kernel_rfl) (fun _ _ _ h => h) rfl (by rfl) (by assumption) ?_
  try simp only [Act.put, List.setIfInBounds_toArray, List.set_cons_zero, List.set_cons_succ]
  refine skip_in (i := 13) (d := 20) rfl (by kernel_rfl) (by kernel_rfl) (by kernel_rfl) (fun _ _ _ h => h) rfl (by rfl) (by assumption) ?_
  try simp only [Act.put, List.setIfInBounds_toArray, List.set_cons_zero, List.set_cons_succ]
  refine skip_in (i := 14) (d := 21) rfl (by kernel_rfl) (by kernel_rfl) (by kernel_rfl) (fun _ _ _ h => h) rfl (by rfl) (by assumption) ?_
  try simp only [Act.put, List.setIfInBounds_toArray, List.set_cons_zero, List.set_cons_succ]
  refine skip_in (i := 15) (d := 22) rfl (by kernel_rfl) (by kernel_rfl) (by kernel_rfl) (fun _ _ _ h => h) rfl (by rfl) (by assumption) ?_
  try simp only [Act.put, List.setIfInBounds_toArray, List.set_cons_zero, List.set_cons_succ]
  refine take_in (i := 16) (d := 23) (.bool false) rfl (by kernel_rfl) (by kernel_rfl) (by kernel_rfl) (fun _ _ _ h => h) rfl (by rfl) (fun w1 hS1 => by (try dsimp only at hS1); go_simp) (by assumption) ?_
  try simp only [Act.put, List.setIfInBounds_toArray, List.set_cons_zero, List.set_cons_succ]
  refine take_in (i := 17) (d := 6) (.bool false) rfl (by kernel_rfl) (by kernel_rfl) (by kernel_rfl) (fun _ _ _ h => h) rfl (by rfl) (fun w1 hS1 => by (try dsimp only at hS1); go_simp) (by assumption) ?_
  try simp only [Act.put, List.setIfInBounds_toArray, List.set_cons_zero, List.set_cons_succ]
  refine wpAnyH_done (by kernel_rfl) ?_ _
  all_goals go_wp2
  all_goals go_ret
  all_goals exact ⟨rfl, by first | exact hb | exact below_toN hb _⟩

set_option maxHeartbeats 1600000 in
set_option maxRecDepth 100000 in
theorem passed_wall (g : Nat) (o x y a b wall : Int) (w : World) (hk : Clk w g o x y) (ho : wallOk o = true) (hr : stOk a b = true) (hw : wallOk wall = false) :
    Calls Try.prog 28 #[.pointer (some ⟨g, 0, none⟩), .agg #[.int .i64 a, .int .i64 b], .int .i64 wall] w fun e w' => e = .returned (.bool false) ∧ Below w.heap.size w w' := by
  have RC := Lib.hid (right_any a b)
  have WC := Lib.hid (isWall_any wall)
  rw [hr] at RC
  rw [hw] at WC
  clear hr ho hw
  have hb := below1 w (.cells #[.int .i64 a, .int .i64 b] 23)
  have K := hk.keep hb
  have hg := hk.lt
  have S0 := Cell.new w #[.int .i64 a, .int .i64 b] 23 0 _ rfl
  have S1 := Cell.new w #[.int .i64 a, .int .i64 b] 23 1 _ rfl
  clear hk
  have s0 := S0.1
  have s1 := S1.1
  have k0 := K.1.1
  go_enter Try.func28, Try.ntmps28
  go_wp2_with fail
  refine wp_region_held_drew (S := (fun w' : World => w'.cell? ⟨w.heap.size, 0, none⟩ = some (.int .i64 a) ∧ w'.cell? ⟨w.heap.size, 1, none⟩ = some (.int .i64 b) ∧ w'.cell? ⟨g, 0, none⟩ = some (.int .i64 o))) (by kernel_rfl) ⟨S0.1, S1.1, K.1.1⟩ (fun hHeld => ?_)
  refine take_in (i := 0) (d := 7) (.agg #[.int .i64 a, .int .i64 b]) rfl (by kernel_rfl) (by kernel_rfl) (by kernel_rfl) (fun _ _ _ h => h) rfl (by rfl) (fun w1 hS1 => by (try dsimp only at hS1); go_simp) (by assumption) ?_
  try simp only [Act.put, List.setIfInBounds_toArray, List.set_cons_zero, List.set_cons_succ]
  refine wpAnyH_ready (rs := [1]) (by kernel_rfl) (by simp) (AllReadyH.cons rfl (fun K1 hK => ?_) AllReadyH.nil)
  go_simp
  refine (RC.out _).mono ?_; rintro e w2 ⟨rfl, hw2⟩; have hw2 := below_of_drew hw2; have K := K.keep hw2; have S0 := S0.keep hw2; have S1 := S1.keep hw2; have hb := hb.trans (hw2.mono hb.size); clear hw2
  refine hK.out _ _ ⟨S0.1, S1.1, K.1.1⟩ (fun hHeld => ?_)
  clear hK K1
  try simp only [Act.put, List.setIfInBounds_toArray, List.set_cons_zero, List.set_cons_succ]
  refine take_in (i := 2) (d := 9) (.bool true) rfl (by kernel_rfl) (by kernel_rfl) (by kernel_rfl) (fun _ _ _ h => h) rfl (by rfl) (fun w1 hS1 => by (try dsimp only at hS1); go_simp) (by assumption) ?_
  try simp only [Act.put, List.setIfInBounds_toArray, List.set_cons_zero, List.set_cons_succ]
  refine take_in (i := 3) (d := 10) (.int .i64 wall) rfl (by kernel_rfl) (by kernel_rfl) (by kernel_rfl) (fun _ _ _ h => h) rfl (by rfl) (fun w1 hS1 => by (try dsimp only at hS1); go_simp) (by assumption) ?_
  try simp only [Act.put, List.setIfInBounds_toArray, List.set_cons_zero, List.set_cons_succ]
  refine wpAnyH_ready (rs := [4]) (by kernel_rfl) (by simp) (AllReadyH.cons rfl (fun K1 hK => ?_) AllReadyH.nil)
  go_simp
  refine (WC.out _).mono ?_; rintro e w3 ⟨rfl, rfl⟩
  refine hK.out _ _ ⟨S0.1, S1.1, K.1.1⟩ (fun hHeld => ?_)
  clear hK K1
  try simp only [Act.put, List.setIfInBounds_toArray, List.set_cons_zero, List.set_cons_succ]
  refine take_in (i := 5) (d := 12) (.bool false) rfl (by kernel_rfl) (by kernel_rfl) (by kernel_rfl) (fun _ _ _ h => h) rfl (by rfl) (fun w1 hS1 => by (try dsimp only at hS1); go_simp) (by assumption) ?_
  try simp only [Act.put, List.setIfInBounds_toArray, List.set_cons_zero, List.set_cons_succ]
  refine take_in (i := 6) (d := 13) (.bool false) rfl (by kernel_rfl) (by kernel_rfl) (by kernel_rfl) (fun _ _ _ h => h) rfl (by rfl) (fun w1 hS1 => by (try dsimp only at hS1); go_simp) (by assumption) ?_
  try simp only [Act.put, List.setIfInBounds_toArray, List.set_cons_zero, List.set_cons_succ]
  refine skip_in (i := 7) (d := 14) rfl (by kernel_rfl) (by kernel_rfl) (by kernel_rfl) (fun _ _ _ h => h) rfl (by rfl) (by assumption) ?_
  try simp only [Act.put, List.setIfInBounds_toArray, List.set_cons_zero, List.set_cons_succ]
  refine skip_in (i := 8) (d := 15) rfl (by kernel_rfl) (by kernel_rfl) (by kernel_rfl) (fun _ _ _ h => h) rfl (by rfl) (by assumption) ?_
  try simp only [Act.put, List.setIfInBounds_toArray, List.set_cons_zero, List.set_cons_succ]
  refine skip_in (i := 9) (d := 16) rfl (by kernel_rfl) (by kernel_rfl) (by kernel_rfl) (fun _ _ _ h => h) rfl (by rfl) (by assumption) ?_
  try simp only [Act.put, List.setIfInBounds_toArray, List.set_cons_zero, List.set_cons_succ]
  refine skip_in (i := 10) (d := 17) rfl (by kernel_rfl) (by kernel_rfl) (by kernel_rfl) (fun _ _ _ h => h) rfl (by rfl) (by assumption) ?_
  try simp only [Act.put, List.setIfInBounds_toArray, List.set_cons_zero, List.set_cons_succ]
  refine skip_in (i := 11) (d := 18) rfl (by kernel_rfl) (by kernel_rfl) (by kernel_rfl) (fun _ _ _ h => h) rfl (by rfl) (by assumption) ?_
  try simp only [Act.put, List.setIfInBounds_toArray, List.set_cons_zero, List.set_cons_succ]
  refine skip_in (i := 12) (d := 19) rfl (by kernel_rfl) (by kernel_rfl) (by kernel_rfl) (fun _ _ _ h => h) rfl (by rfl) (by assumption) ?_
  try simp only [Act.put, List.setIfInBounds_toArray, List.set_cons_zero, List.set_cons_succ]
  refine skip_in (i := 13) (d := 20) rfl (by kernel_rfl) (by kernel_rfl) (by kernel_rfl) (fun _ _ _ h => h) rfl (by rfl) (by assumption) ?_
  try simp only [Act.put, List.setIfInBounds_toArray, List.set_cons_zero, List.set_cons_succ]
  refine skip_in (i := 14) (d := 21) rfl (by kernel_rfl) (by kernel_rfl) (by kernel_rfl) (fun _ _ _ h => h) rfl (by rfl) (by assumption) ?_
  try simp only [Act.put, List.setIfInBounds_toArray, List.set_cons_zero, List.set_cons_succ]
  refine skip_in (i := 15) (d := 22) rfl (by kernel_rfl) (by kernel_rfl) (by kernel_rfl) (fun _ _ _ h => h) rfl (by rfl) (by assumption) ?_
  try simp only [Act.put, List.setIfInBounds_toArray, List.set_cons_zero, List.set_cons_succ]
  refine take_in (i := 16) (d := 23) (.bool false) rfl (by kernel_rfl) (by kernel_rfl) (by kernel_rfl) (fun _ _ _ h => h) rfl (by rfl) (fun w1 hS1 => by (try dsimp only at hS1); go_simp) (by assumption) ?_
  try simp only [Act.put, List.setIfInBounds_toArray, List.set_cons_zero, List.set_cons_succ]
  refine take_in (i := 17) (d := 6) (.bool false) rfl (by kernel_rfl) (by kernel_rfl) (by kernel_rfl) (fun _ _ _ h => h) rfl (by rfl) (fun w1 hS1 => by (try dsimp only at hS1); go_simp) (by assumption) ?_
  try simp only [Act.put, List.setIfInBounds_toArray, List.set_cons_zero, List.set_cons_succ]
  refine wpAnyH_done (by kernel_rfl) ?_ _
  all_goals go_wp2
  all_goals go_ret
  all_goals exact ⟨rfl, by first | exact hb | exact below_toN hb _⟩

set_option maxHeartbeats 1600000 in
set_option maxRecDepth 100000 in
theorem passed_yes (g : Nat) (o x y a b wall : Int) (w : World) (hk : Clk w g o x y) (ho : wallOk o = true) (hr : stOk a b = true) (hw : wallOk wall = true) (h : a + o < wall) :
    Calls Try.prog 28 #[.pointer (some ⟨g, 0, none⟩), .agg #[.int .i64 a, .int .i64 b], .int .i64 wall] w fun e w' => e = .returned (.bool true) ∧ Below w.heap.size w w' := by
  have RC := Lib.hid (right_any a b)
  have WC := Lib.hid (isWall_any wall)
  rw [hr] at RC
  rw [hw] at WC
  obtain ⟨a0, a1⟩ := stOk_wall hr
  obtain ⟨l0, l1⟩ := wallOk_le hw
  obtain ⟨o0, o1⟩ := wallOk_le ho
  have hsum : IntKind.i64.wrap (a + o) = a + o := IntWalk.i64_in _ (by omega)
  have h2 : decide (a + o < wall) = true := by rw [decide_eq_true_iff]; exact h
  clear h a0 a1 l0 l1 o0 o1
  clear hr ho hw
  have hb := below1 w (.cells #[.int .i64 a, .int .i64 b] 23)
  have K := hk.keep hb
  have hg := hk.lt
  have S0 := Cell.new w #[.int .i64 a, .int .i64 b] 23 0 _ rfl
  have S1 := Cell.new w #[.int .i64 a, .int .i64 b] 23 1 _ rfl
  clear hk
  have s0 := S0.1
  have s1 := S1.1
  have k0 := K.1.1
  go_enter Try.func28, Try.ntmps28
  go_wp2_with fail
  go_region_held3 (fun w' => w'.cell? ⟨w.heap.size, 0, none⟩ = some (.int .i64 a) ∧ w'.cell? ⟨w.heap.size, 1, none⟩ = some (.int .i64 b) ∧ w'.cell? ⟨g, 0, none⟩ = some (.int .i64 o)) (first | exact ⟨S0.1, S1.1, K.1.1⟩ | go_keep)
    (first
      | (go_at_call 10; refine (RC.out _).mono ?_; rintro e w2 ⟨rfl, hw2⟩; have hw2 := below_of_drew hw2; have K := K.keep hw2; have S0 := S0.keep hw2; have S1 := S1.keep hw2; have hb := hb.trans (hw2.mono hb.size); clear hw2)
      | (go_at_call 31; refine (WC.out _).mono ?_; rintro e w3 ⟨rfl, rfl⟩))
  all_goals go_wp2
  all_goals go_ret
  all_goals exact ⟨rfl, by first | exact hb | exact below_toN hb _⟩

set_option maxHeartbeats 1600000 in
set_option maxRecDepth 100000 in
theorem passed_no (g : Nat) (o x y a b wall : Int) (w : World) (hk : Clk w g o x y) (ho : wallOk o = true) (hr : stOk a b = true) (hw : wallOk wall = true) (h : ¬ a + o < wall) :
    Calls Try.prog 28 #[.pointer (some ⟨g, 0, none⟩), .agg #[.int .i64 a, .int .i64 b], .int .i64 wall] w fun e w' => e = .returned (.bool false) ∧ Below w.heap.size w w' := by
  have RC := Lib.hid (right_any a b)
  have WC := Lib.hid (isWall_any wall)
  rw [hr] at RC
  rw [hw] at WC
  obtain ⟨a0, a1⟩ := stOk_wall hr
  obtain ⟨l0, l1⟩ := wallOk_le hw
  obtain ⟨o0, o1⟩ := wallOk_le ho
  have hsum : IntKind.i64.wrap (a + o) = a + o := IntWalk.i64_in _ (by omega)
  have h2 : decide (a + o < wall) = false := by rw [decide_eq_false_iff_not]; exact h
  clear h a0 a1 l0 l1 o0 o1
  clear hr ho hw
  have hb := below1 w (.cells #[.int .i64 a, .int .i64 b] 23)
  have K := hk.keep hb
  have hg := hk.lt
  have S0 := Cell.new w #[.int .i64 a, .int .i64 b] 23 0 _ rfl
  have S1 := Cell.new w #[.int .i64 a, .int .i64 b] 23 1 _ rfl
  clear hk
  have s0 := S0.1
  have s1 := S1.1
  have k0 := K.1.1
  go_enter Try.func28, Try.ntmps28
  go_wp2_with fail
  go_region_held3 (fun w' => w'.cell? ⟨w.heap.size, 0, none⟩ = some (.int .i64 a) ∧ w'.cell? ⟨w.heap.size, 1, none⟩ = some (.int .i64 b) ∧ w'.cell? ⟨g, 0, none⟩ = some (.int .i64 o)) (first | exact ⟨S0.1, S1.1, K.1.1⟩ | go_keep)
    (first
      | (go_at_call 10; refine (RC.out _).mono ?_; rintro e w2 ⟨rfl, hw2⟩; have hw2 := below_of_drew hw2; have K := K.keep hw2; have S0 := S0.keep hw2; have S1 := S1.keep hw2; have hb := hb.trans (hw2.mono hb.size); clear hw2)
      | (go_at_call 31; refine (WC.out _).mono ?_; rintro e w3 ⟨rfl, rfl⟩))
  all_goals go_wp2
  all_goals go_ret
  all_goals exact ⟨rfl, by first | exact hb | exact below_toN hb _⟩

theorem passed_any (g : Nat) (o x y a b wall : Int) (w : World) (hk : Clk w g o x y) (ho : wallOk o = true) :
    Calls Try.prog 28 #[.pointer (some ⟨g, 0, none⟩), .agg #[.int .i64 a, .int .i64 b], .int .i64 wall] w fun e w' => e = .returned (.bool (passed o a b wall)) ∧ Below w.heap.size w w' := by
  rcases hr : stOk a b with _ | _
  · have e : passed o a b wall = false := by unfold passed; rw [hr]; rfl
    rw [e]
    exact passed_form g o x y a b wall w hk ho hr
  · rcases hw : wallOk wall with _ | _
    · have e : passed o a b wall = false := by unfold passed; rw [hr, hw]; rfl
      rw [e]
      exact passed_wall g o x y a b wall w hk ho hr hw
    · by_cases h : a + o < wall
      · have e : passed o a b wall = true := by unfold passed; rw [hr, hw, decide_eq_true h]; rfl
        rw [e]
        exact passed_yes g o x y a b wall w hk ho hr hw h
      · have e : passed o a b wall = false := by unfold passed; rw [hr, hw, decide_eq_false h]; rfl
        rw [e]
        exact passed_no g o x y a b wall w hk ho hr hw h

set_option maxHeartbeats 1600000 in
set_option maxRecDepth 100000 in
theorem rpassed_form (g : Nat) (o x y a b wall : Int) (w : World) (hk : Clk w g o x y) (ho : wallOk o = true) (hr : stOk a b = false) :
    Calls Try.prog 29 #[.pointer (some ⟨g, 0, none⟩), .agg #[.int .i64 a, .int .i64 b], .int .i64 wall] w fun e w' => e = .returned (.bool false) ∧ Below w.heap.size w w' := by
  have RC := Lib.hid (rright_any a b)
  have WC := Lib.hid (risWall_any wall)
  rw [hr] at RC
  rcases hq : wallOk wall with _ | _
  · rw [hq] at WC
    clear hq
    clear hr ho
    have hb := below1 w (.cells #[.int .i64 a, .int .i64 b] 23)
    have K := hk.keep hb
    have hg := hk.lt
    have S0 := Cell.new w #[.int .i64 a, .int .i64 b] 23 0 _ rfl
    have S1 := Cell.new w #[.int .i64 a, .int .i64 b] 23 1 _ rfl
    clear hk
    have s0 := S0.1
    have s1 := S1.1
    have k0 := K.1.1
    go_enter Try.func29, Try.ntmps29
    go_wp2_with (first | (go_at_call 23; refine (WC.out _).mono ?_; rintro e w1 ⟨rfl, rfl⟩) | (go_at_call 14; refine (RC.out _).mono ?_; rintro e w2 ⟨rfl, hw2⟩; have K := K.keep hw2; have S0 := S0.keep hw2; have S1 := S1.keep hw2; have hb := hb.trans (hw2.mono hb.size); clear hw2 s0 s1 k0; have s0 := S0.1; have s1 := S1.1; have k0 := K.1.1))
    all_goals go_quiet (fail)
    all_goals go_wp2
    all_goals go_ret
    all_goals exact ⟨rfl, by first | exact hb | exact below_toN hb _⟩
  · rw [hq] at WC
    clear hq
    clear hr ho
    have hb := below1 w (.cells #[.int .i64 a, .int .i64 b] 23)
    have K := hk.keep hb
    have hg := hk.lt
    have S0 := Cell.new w #[.int .i64 a, .int .i64 b] 23 0 _ rfl
    have S1 := Cell.new w #[.int .i64 a, .int .i64 b] 23 1 _ rfl
    clear hk
    have s0 := S0.1
    have s1 := S1.1
    have k0 := K.1.1
    go_enter Try.func29, Try.ntmps29
    go_wp2_with (first | (go_at_call 23; refine (WC.out _).mono ?_; rintro e w1 ⟨rfl, rfl⟩) | (go_at_call 14; refine (RC.out _).mono ?_; rintro e w2 ⟨rfl, hw2⟩; have K := K.keep hw2; have S0 := S0.keep hw2; have S1 := S1.keep hw2; have hb := hb.trans (hw2.mono hb.size); clear hw2 s0 s1 k0; have s0 := S0.1; have s1 := S1.1; have k0 := K.1.1))
    all_goals go_quiet (fail)
    all_goals go_wp2
    all_goals go_ret
    all_goals exact ⟨rfl, by first | exact hb | exact below_toN hb _⟩

set_option maxHeartbeats 1600000 in
set_option maxRecDepth 100000 in
theorem rpassed_wall (g : Nat) (o x y a b wall : Int) (w : World) (hk : Clk w g o x y) (ho : wallOk o = true) (hr : stOk a b = true) (hw : wallOk wall = false) :
    Calls Try.prog 29 #[.pointer (some ⟨g, 0, none⟩), .agg #[.int .i64 a, .int .i64 b], .int .i64 wall] w fun e w' => e = .returned (.bool false) ∧ Below w.heap.size w w' := by
  have RC := Lib.hid (rright_any a b)
  have WC := Lib.hid (risWall_any wall)
  rw [hr] at RC
  rw [hw] at WC
  clear hr ho hw
  have hb := below1 w (.cells #[.int .i64 a, .int .i64 b] 23)
  have K := hk.keep hb
  have hg := hk.lt
  have S0 := Cell.new w #[.int .i64 a, .int .i64 b] 23 0 _ rfl
  have S1 := Cell.new w #[.int .i64 a, .int .i64 b] 23 1 _ rfl
  clear hk
  have s0 := S0.1
  have s1 := S1.1
  have k0 := K.1.1
  go_enter Try.func29, Try.ntmps29
  go_wp2_with (first | (go_at_call 23; refine (WC.out _).mono ?_; rintro e w1 ⟨rfl, rfl⟩) | (go_at_call 14; refine (RC.out _).mono ?_; rintro e w2 ⟨rfl, hw2⟩; have K := K.keep hw2; have S0 := S0.keep hw2; have S1 := S1.keep hw2; have hb := hb.trans (hw2.mono hb.size); clear hw2 s0 s1 k0; have s0 := S0.1; have s1 := S1.1; have k0 := K.1.1))
  all_goals go_quiet (fail)
  all_goals go_wp2
  all_goals go_ret
  all_goals exact ⟨rfl, by first | exact hb | exact below_toN hb _⟩

set_option maxHeartbeats 1600000 in
set_option maxRecDepth 100000 in
theorem rpassed_yes (g : Nat) (o x y a b wall : Int) (w : World) (hk : Clk w g o x y) (ho : wallOk o = true) (hr : stOk a b = true) (hw : wallOk wall = true) (h : a + o < wall) :
    Calls Try.prog 29 #[.pointer (some ⟨g, 0, none⟩), .agg #[.int .i64 a, .int .i64 b], .int .i64 wall] w fun e w' => e = .returned (.bool true) ∧ Below w.heap.size w w' := by
  have RC := Lib.hid (rright_any a b)
  have WC := Lib.hid (risWall_any wall)
  rw [hr] at RC
  rw [hw] at WC
  obtain ⟨a0, a1⟩ := stOk_wall hr
  obtain ⟨l0, l1⟩ := wallOk_le hw
  obtain ⟨o0, o1⟩ := wallOk_le ho
  have hsum : IntKind.i64.wrap (wall - a) = wall - a := IntWalk.i64_in _ (by omega)
  have h1 : decide (a < wall) = true := by rw [decide_eq_true_iff]; omega
  have h2 : decide (o < wall - a) = true := by rw [decide_eq_true_iff]; omega
  clear h a0 a1 l0 l1 o0 o1
  clear hr ho hw
  have hb := below1 w (.cells #[.int .i64 a, .int .i64 b] 23)
  have K := hk.keep hb
  have hg := hk.lt
  have S0 := Cell.new w #[.int .i64 a, .int .i64 b] 23 0 _ rfl
  have S1 := Cell.new w #[.int .i64 a, .int .i64 b] 23 1 _ rfl
  clear hk
  have s0 := S0.1
  have s1 := S1.1
  have k0 := K.1.1
  go_enter Try.func29, Try.ntmps29
  go_wp2_with (first | (go_at_call 23; refine (WC.out _).mono ?_; rintro e w1 ⟨rfl, rfl⟩) | (go_at_call 14; refine (RC.out _).mono ?_; rintro e w2 ⟨rfl, hw2⟩; have K := K.keep hw2; have S0 := S0.keep hw2; have S1 := S1.keep hw2; have hb := hb.trans (hw2.mono hb.size); clear hw2 s0 s1 k0; have s0 := S0.1; have s1 := S1.1; have k0 := K.1.1))
  all_goals go_quiet (fail)
  all_goals go_wp2
  all_goals go_ret
  all_goals exact ⟨rfl, by first | exact hb | exact below_toN hb _⟩

set_option maxHeartbeats 1600000 in
set_option maxRecDepth 100000 in
theorem rpassed_low (g : Nat) (o x y a b wall : Int) (w : World) (hk : Clk w g o x y) (ho : wallOk o = true) (hr : stOk a b = true) (hw : wallOk wall = true) (h : ¬ a + o < wall) (hlo : ¬ a < wall) :
    Calls Try.prog 29 #[.pointer (some ⟨g, 0, none⟩), .agg #[.int .i64 a, .int .i64 b], .int .i64 wall] w fun e w' => e = .returned (.bool false) ∧ Below w.heap.size w w' := by
  have RC := Lib.hid (rright_any a b)
  have WC := Lib.hid (risWall_any wall)
  rw [hr] at RC
  rw [hw] at WC
  obtain ⟨a0, a1⟩ := stOk_wall hr
  obtain ⟨l0, l1⟩ := wallOk_le hw
  obtain ⟨o0, o1⟩ := wallOk_le ho
  have hsum : IntKind.i64.wrap (wall - a) = wall - a := IntWalk.i64_in _ (by omega)
  have h1 : decide (a < wall) = false := by rw [decide_eq_false_iff_not]; exact hlo
  clear h a0 a1 l0 l1 o0 o1
  clear hlo
  clear hr ho hw
  have hb := below1 w (.cells #[.int .i64 a, .int .i64 b] 23)
  have K := hk.keep hb
  have hg := hk.lt
  have S0 := Cell.new w #[.int .i64 a, .int .i64 b] 23 0 _ rfl
  have S1 := Cell.new w #[.int .i64 a, .int .i64 b] 23 1 _ rfl
  clear hk
  have s0 := S0.1
  have s1 := S1.1
  have k0 := K.1.1
  go_enter Try.func29, Try.ntmps29
  go_wp2_with (first | (go_at_call 23; refine (WC.out _).mono ?_; rintro e w1 ⟨rfl, rfl⟩) | (go_at_call 14; refine (RC.out _).mono ?_; rintro e w2 ⟨rfl, hw2⟩; have K := K.keep hw2; have S0 := S0.keep hw2; have S1 := S1.keep hw2; have hb := hb.trans (hw2.mono hb.size); clear hw2 s0 s1 k0; have s0 := S0.1; have s1 := S1.1; have k0 := K.1.1))
  all_goals go_quiet (fail)
  all_goals go_wp2
  all_goals go_ret
  all_goals exact ⟨rfl, by first | exact hb | exact below_toN hb _⟩

set_option maxHeartbeats 1600000 in
set_option maxRecDepth 100000 in
theorem rpassed_mid (g : Nat) (o x y a b wall : Int) (w : World) (hk : Clk w g o x y) (ho : wallOk o = true) (hr : stOk a b = true) (hw : wallOk wall = true) (h : ¬ a + o < wall) (hlo : a < wall) :
    Calls Try.prog 29 #[.pointer (some ⟨g, 0, none⟩), .agg #[.int .i64 a, .int .i64 b], .int .i64 wall] w fun e w' => e = .returned (.bool false) ∧ Below w.heap.size w w' := by
  have RC := Lib.hid (rright_any a b)
  have WC := Lib.hid (risWall_any wall)
  rw [hr] at RC
  rw [hw] at WC
  obtain ⟨a0, a1⟩ := stOk_wall hr
  obtain ⟨l0, l1⟩ := wallOk_le hw
  obtain ⟨o0, o1⟩ := wallOk_le ho
  have hsum : IntKind.i64.wrap (wall - a) = wall - a := IntWalk.i64_in _ (by omega)
  have h1 : decide (a < wall) = true := by rw [decide_eq_true_iff]; omega
  have h2 : decide (o < wall - a) = false := by rw [decide_eq_false_iff_not]; omega
  clear h a0 a1 l0 l1 o0 o1
  clear hlo
  clear hr ho hw
  have hb := below1 w (.cells #[.int .i64 a, .int .i64 b] 23)
  have K := hk.keep hb
  have hg := hk.lt
  have S0 := Cell.new w #[.int .i64 a, .int .i64 b] 23 0 _ rfl
  have S1 := Cell.new w #[.int .i64 a, .int .i64 b] 23 1 _ rfl
  clear hk
  have s0 := S0.1
  have s1 := S1.1
  have k0 := K.1.1
  go_enter Try.func29, Try.ntmps29
  go_wp2_with (first | (go_at_call 23; refine (WC.out _).mono ?_; rintro e w1 ⟨rfl, rfl⟩) | (go_at_call 14; refine (RC.out _).mono ?_; rintro e w2 ⟨rfl, hw2⟩; have K := K.keep hw2; have S0 := S0.keep hw2; have S1 := S1.keep hw2; have hb := hb.trans (hw2.mono hb.size); clear hw2 s0 s1 k0; have s0 := S0.1; have s1 := S1.1; have k0 := K.1.1))
  all_goals go_quiet (fail)
  all_goals go_wp2
  all_goals go_ret
  all_goals exact ⟨rfl, by first | exact hb | exact below_toN hb _⟩

theorem rpassed_any (g : Nat) (o x y a b wall : Int) (w : World) (hk : Clk w g o x y) (ho : wallOk o = true) :
    Calls Try.prog 29 #[.pointer (some ⟨g, 0, none⟩), .agg #[.int .i64 a, .int .i64 b], .int .i64 wall] w fun e w' => e = .returned (.bool (passed o a b wall)) ∧ Below w.heap.size w w' := by
  rcases hr : stOk a b with _ | _
  · have e : passed o a b wall = false := by unfold passed; rw [hr]; rfl
    rw [e]
    exact rpassed_form g o x y a b wall w hk ho hr
  · rcases hw : wallOk wall with _ | _
    · have e : passed o a b wall = false := by unfold passed; rw [hr, hw]; rfl
      rw [e]
      exact rpassed_wall g o x y a b wall w hk ho hr hw
    · by_cases h : a + o < wall
      · have e : passed o a b wall = true := by unfold passed; rw [hr, hw, decide_eq_true h]; rfl
        rw [e]
        exact rpassed_yes g o x y a b wall w hk ho hr hw h
      · have e : passed o a b wall = false := by unfold passed; rw [hr, hw, decide_eq_false h]; rfl
        rw [e]
        by_cases hlo : a < wall
        · exact rpassed_mid g o x y a b wall w hk ho hr hw h hlo
        · exact rpassed_low g o x y a b wall w hk ho hr hw h hlo
end Go.Proofs.Ytglpaeiebkacoaa
