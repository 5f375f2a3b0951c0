/-
  The contracts of Now, of the code's clock and of the reference's.
-/
import Derived.Test.YtglpaeiebkacoaaClock
set_option linter.unusedVariables false
namespace Go.Proofs.Ytglpaeiebkacoaa
open Go.RowKit

set_option maxHeartbeats 1600000 in
set_option maxRecDepth 100000 in
theorem now_bad (g : Nat) (o x y wall : Int) (w : World) (hk : Clk w g o x y) (hw : wallOk wall = false) :
    Calls Try.prog 24 #[.pointer (some ⟨g, 0, none⟩), .int .i64 wall] w fun e w' => e = .returned (.tuple #[.agg #[.int .i64 0, .int .i64 0], .int .i64 1]) ∧ Clk w' g o x y ∧ Only g w w' := by
  replace hw := Lib.hid hw
  go_enter Try.func24, Try.ntmps24
  go_wp2_with (go_at_call 31; refine (isWall_any _ _).mono ?_; rintro e w1 ⟨rfl, rfl⟩; rw [hw.out])
  refine bodyPost_ret (v := .tuple #[.agg #[.int .i64 0, .int .i64 0], .int .i64 1]) (by rw [results_cell_tmp rfl]; go_simp) rfl ?_
  exact ⟨rfl, hk.keep (below1 w _), Only.of_below (below1 w _)⟩

set_option maxHeartbeats 1600000 in
set_option maxRecDepth 100000 in
theorem now_fresh (g : Nat) (o x y wall : Int) (w : World) (hk : Clk w g o x y) (hw : wallOk wall = true) (hN : ¬ stCmp wall 0 x y ≤ 0) :
    Calls Try.prog 24 #[.pointer (some ⟨g, 0, none⟩), .int .i64 wall] w fun e w' => e = .returned (.tuple #[.agg #[.int .i64 wall, .int .i64 0], .int .i64 0]) ∧ Clk w' g o wall 0 ∧ Only g w w' := by
  have hg := hk.lt
  replace hw := Lib.hid hw
  have CC := Lib.hid (compare_any wall 0 x y)
  obtain ⟨N, hN'⟩ : ∃ N, N = stCmp wall 0 x y := ⟨_, rfl⟩
  rw [← hN'] at CC hN
  clear hN'
  have hb := below2 w (.cells #[.int .i64 0, .int .i64 0] 23) (.cells #[.int .i64 wall, .int .i64 0] 23)
  have K := hk.keep hb
  have R0 := (Cell.new w #[.int .i64 0, .int .i64 0] 23 0 _ rfl).alloc (.cells #[.int .i64 wall, .int .i64 0] 23)
  have R1 := (Cell.new w #[.int .i64 0, .int .i64 0] 23 1 _ rfl).alloc (.cells #[.int .i64 wall, .int .i64 0] 23)
  have S0 := Cell.new' (w := w.alloc (.cells #[.int .i64 0, .int .i64 0] 23)) (n := w.heap.size + 1) (by simp) #[.int .i64 wall, .int .i64 0] 23 0 _ rfl
  have S1 := Cell.new' (w := w.alloc (.cells #[.int .i64 0, .int .i64 0] 23)) (n := w.heap.size + 1) (by simp) #[.int .i64 wall, .int .i64 0] 23 1 _ rfl
  clear hk
  have s0 := S0.1
  have s1 := S1.1
  have k1 := K.2.1.1
  have k2 := K.2.2.1
  go_enter Try.func24, Try.ntmps24
  go_wp2_with (go_at_call 31; refine (isWall_any _ _).mono ?_; rintro e w1 ⟨rfl, rfl⟩; rw [hw.out])
  go_region_held3 (fun w' => w'.cell? ⟨w.heap.size + 1, 0, none⟩ = some (.int .i64 wall) ∧ w'.cell? ⟨w.heap.size + 1, 1, none⟩ = some (.int .i64 0) ∧ w'.cell? ⟨g, 1, none⟩ = some (.int .i64 x) ∧ w'.cell? ⟨g, 2, none⟩ = some (.int .i64 y)) (first | exact ⟨S0.1, S1.1, K.2.1.1, K.2.2.1⟩ | go_keep)
    (first | (go_at_call 11; refine (CC.out _).mono ?_; rintro e w2 ⟨rfl, hw2⟩; have hw2 := below_of_drew hw2; have K := K.keep hw2; have R0 := R0.keep hw2; have R1 := R1.keep hw2; have S0 := S0.keep hw2; have S1 := S1.keep hw2; have hb := hb.trans (hw2.mono hb.size); clear hw2))
  clear s0 s1 k1 k2
  have s0 := S0.1
  have s1 := S1.1
  have t0 := S0.2
  have t1 := S1.2
  have k1 := K.2.1.1
  have k2 := K.2.2.1
  have f1 := K.2.1.2
  have f2 := K.2.2.2
  have r0 := R0.1
  have r1 := R1.1
  have q0 := R0.2
  have q1 := R1.2
  go_wp2
  refine bodyPost_ret (v := .tuple #[.agg #[.int .i64 wall, .int .i64 0], .int .i64 0]) (by rw [results_cell_tmp rfl]; go_simp) rfl ?_
  have hs := hb.size
  refine ⟨rfl, ((K.set wall 0).far (by simp; omega) _).far (by simp; omega) _, ?_⟩
  repeat (refine Only.setCell ?_ (by first | exact .inl rfl | exact .inr (Nat.le_refl _) | exact .inr (Nat.le_succ _)) _)
  exact Only.of_below hb

set_option maxHeartbeats 1600000 in
set_option maxRecDepth 100000 in
theorem now_next (g : Nat) (o x y wall : Int) (w : World) (hk : Clk w g o x y) (hw : wallOk wall = true) (hN : stCmp wall 0 x y ≤ 0) (hX : (stNext x y).2.2 = 0) :
    Calls Try.prog 24 #[.pointer (some ⟨g, 0, none⟩), .int .i64 wall] w fun e w' => e = .returned (.tuple #[.agg #[.int .i64 (stNext x y).1, .int .i64 (stNext x y).2.1], .int .i64 0]) ∧ Clk w' g o (stNext x y).1 (stNext x y).2.1 ∧ Only g w w' := by
  have NX := Lib.hid (next_any x y)
  obtain ⟨a, ha⟩ : ∃ a, a = (stNext x y).1 := ⟨_, rfl⟩
  obtain ⟨b, hb'⟩ : ∃ b, b = (stNext x y).2.1 := ⟨_, rfl⟩
  obtain ⟨z, hz'⟩ : ∃ z, z = (stNext x y).2.2 := ⟨_, rfl⟩
  rw [← ha, ← hb', ← hz'] at NX
  rw [← hz'] at hX
  rw [← ha, ← hb']
  clear ha hb' hz'
  subst hX
  have hg := hk.lt
  replace hw := Lib.hid hw
  have CC := Lib.hid (compare_any wall 0 x y)
  obtain ⟨N, hN'⟩ : ∃ N, N = stCmp wall 0 x y := ⟨_, rfl⟩
  rw [← hN'] at CC hN
  clear hN'
  have hb := below2 w (.cells #[.int .i64 0, .int .i64 0] 23) (.cells #[.int .i64 wall, .int .i64 0] 23)
  have K := hk.keep hb
  have R0 := (Cell.new w #[.int .i64 0, .int .i64 0] 23 0 _ rfl).alloc (.cells #[.int .i64 wall, .int .i64 0] 23)
  have R1 := (Cell.new w #[.int .i64 0, .int .i64 0] 23 1 _ rfl).alloc (.cells #[.int .i64 wall, .int .i64 0] 23)
  have S0 := Cell.new' (w := w.alloc (.cells #[.int .i64 0, .int .i64 0] 23)) (n := w.heap.size + 1) (by simp) #[.int .i64 wall, .int .i64 0] 23 0 _ rfl
  have S1 := Cell.new' (w := w.alloc (.cells #[.int .i64 0, .int .i64 0] 23)) (n := w.heap.size + 1) (by simp) #[.int .i64 wall, .int .i64 0] 23 1 _ rfl
  clear hk
  have s0 := S0.1
  have s1 := S1.1
  have k1 := K.2.1.1
  have k2 := K.2.2.1
  go_enter Try.func24, Try.ntmps24
  go_wp2_with (go_at_call 31; refine (isWall_any _ _).mono ?_; rintro e w1 ⟨rfl, rfl⟩; rw [hw.out])
  go_region_held3 (fun w' => w'.cell? ⟨w.heap.size + 1, 0, none⟩ = some (.int .i64 wall) ∧ w'.cell? ⟨w.heap.size + 1, 1, none⟩ = some (.int .i64 0) ∧ w'.cell? ⟨g, 1, none⟩ = some (.int .i64 x) ∧ w'.cell? ⟨g, 2, none⟩ = some (.int .i64 y)) (first | exact ⟨S0.1, S1.1, K.2.1.1, K.2.2.1⟩ | go_keep)
    (first | (go_at_call 11; refine (CC.out _).mono ?_; rintro e w2 ⟨rfl, hw2⟩; have hw2 := below_of_drew hw2; have K := K.keep hw2; have R0 := R0.keep hw2; have R1 := R1.keep hw2; have S0 := S0.keep hw2; have S1 := S1.keep hw2; have hb := hb.trans (hw2.mono hb.size); clear hw2))
  clear s0 s1 k1 k2
  have k1 := K.2.1.1
  have k2 := K.2.2.1
  go_wp2_with fail
  refine (NX.out _).mono ?_
  rintro e w3 ⟨rfl, hw3⟩
  have K := (K.keep hw3).keep (below1 w3 (.cells #[.int .i64 a, .int .i64 b] 23))
  have R0 := (R0.keep hw3).alloc (.cells #[.int .i64 a, .int .i64 b] 23)
  have R1 := (R1.keep hw3).alloc (.cells #[.int .i64 a, .int .i64 b] 23)
  have S0 := (S0.keep hw3).alloc (.cells #[.int .i64 a, .int .i64 b] 23)
  have S1 := (S1.keep hw3).alloc (.cells #[.int .i64 a, .int .i64 b] 23)
  have hb := hb.trans (hw3.mono hb.size)
  have hb := hb.alloc hb.size (.cells #[.int .i64 a, .int .i64 b] 23)
  have X0 := Cell.new w3 #[.int .i64 a, .int .i64 b] 23 0 _ rfl
  have X1 := Cell.new w3 #[.int .i64 a, .int .i64 b] 23 1 _ rfl
  have hs3 := hw3.size
  have hs2 := S0.lt
  clear hw3 k1 k2
  have s0 := S0.1
  have s1 := S1.1
  have t0 := S0.2
  have t1 := S1.2
  have k1 := K.2.1.1
  have k2 := K.2.2.1
  have f1 := K.2.1.2
  have f2 := K.2.2.2
  have r0 := R0.1
  have r1 := R1.1
  have q0 := R0.2
  have q1 := R1.2
  have x0 := X0.1
  have x1 := X1.1
  go_wp2
  refine bodyPost_ret (v := .tuple #[.agg #[.int .i64 a, .int .i64 b], .int .i64 0]) (by rw [results_cell_tmp rfl]; go_simp) rfl ?_
  refine ⟨rfl, (((((K.far (by simp; omega) _).far (by simp; omega) _).set a b)).far (by simp; omega) _).far (by simp; omega) _, ?_⟩
  repeat (refine Only.setCell ?_ (by first | exact .inl rfl | exact .inr (Nat.le_refl _) | exact .inr (Nat.le_succ _)) _)
  exact Only.of_below hb

set_option maxHeartbeats 1600000 in
set_option maxRecDepth 100000 in
theorem now_end (g : Nat) (o x y wall : Int) (w : World) (hk : Clk w g o x y) (hw : wallOk wall = true) (hN : stCmp wall 0 x y ≤ 0) (hX : (stNext x y).2.2 ≠ 0) :
    Calls Try.prog 24 #[.pointer (some ⟨g, 0, none⟩), .int .i64 wall] w fun e w' => e = .returned (.tuple #[.agg #[.int .i64 0, .int .i64 0], .int .i64 (stNext x y).2.2]) ∧ Clk w' g o x y ∧ Only g w w' := by
  have NX := Lib.hid (next_any x y)
  obtain ⟨a, ha⟩ : ∃ a, a = (stNext x y).1 := ⟨_, rfl⟩
  obtain ⟨b, hb'⟩ : ∃ b, b = (stNext x y).2.1 := ⟨_, rfl⟩
  obtain ⟨z, hz'⟩ : ∃ z, z = (stNext x y).2.2 := ⟨_, rfl⟩
  rw [← ha, ← hb', ← hz'] at NX
  rw [← hz'] at hX
  rw [← hz']
  clear ha hb' hz'
  have hz0 : (z != 0) = true := by rw [bne_iff_ne]; exact hX
  have hg := hk.lt
  replace hw := Lib.hid hw
  have CC := Lib.hid (compare_any wall 0 x y)
  obtain ⟨N, hN'⟩ : ∃ N, N = stCmp wall 0 x y := ⟨_, rfl⟩
  rw [← hN'] at CC hN
  clear hN'
  have hb := below2 w (.cells #[.int .i64 0, .int .i64 0] 23) (.cells #[.int .i64 wall, .int .i64 0] 23)
  have K := hk.keep hb
  have R0 := (Cell.new w #[.int .i64 0, .int .i64 0] 23 0 _ rfl).alloc (.cells #[.int .i64 wall, .int .i64 0] 23)
  have R1 := (Cell.new w #[.int .i64 0, .int .i64 0] 23 1 _ rfl).alloc (.cells #[.int .i64 wall, .int .i64 0] 23)
  have S0 := Cell.new' (w := w.alloc (.cells #[.int .i64 0, .int .i64 0] 23)) (n := w.heap.size + 1) (by simp) #[.int .i64 wall, .int .i64 0] 23 0 _ rfl
  have S1 := Cell.new' (w := w.alloc (.cells #[.int .i64 0, .int .i64 0] 23)) (n := w.heap.size + 1) (by simp) #[.int .i64 wall, .int .i64 0] 23 1 _ rfl
  clear hk
  have s0 := S0.1
  have s1 := S1.1
  have k1 := K.2.1.1
  have k2 := K.2.2.1
  go_enter Try.func24, Try.ntmps24
  go_wp2_with (go_at_call 31; refine (isWall_any _ _).mono ?_; rintro e w1 ⟨rfl, rfl⟩; rw [hw.out])
  go_region_held3 (fun w' => w'.cell? ⟨w.heap.size + 1, 0, none⟩ = some (.int .i64 wall) ∧ w'.cell? ⟨w.heap.size + 1, 1, none⟩ = some (.int .i64 0) ∧ w'.cell? ⟨g, 1, none⟩ = some (.int .i64 x) ∧ w'.cell? ⟨g, 2, none⟩ = some (.int .i64 y)) (first | exact ⟨S0.1, S1.1, K.2.1.1, K.2.2.1⟩ | go_keep)
    (first | (go_at_call 11; refine (CC.out _).mono ?_; rintro e w2 ⟨rfl, hw2⟩; have hw2 := below_of_drew hw2; have K := K.keep hw2; have R0 := R0.keep hw2; have R1 := R1.keep hw2; have S0 := S0.keep hw2; have S1 := S1.keep hw2; have hb := hb.trans (hw2.mono hb.size); clear hw2))
  clear s0 s1 k1 k2
  have k1 := K.2.1.1
  have k2 := K.2.2.1
  go_wp2_with fail
  refine (NX.out _).mono ?_
  rintro e w3 ⟨rfl, hw3⟩
  have K := (K.keep hw3).keep (below1 w3 (.cells #[.int .i64 a, .int .i64 b] 23))
  have R0 := (R0.keep hw3).alloc (.cells #[.int .i64 a, .int .i64 b] 23)
  have R1 := (R1.keep hw3).alloc (.cells #[.int .i64 a, .int .i64 b] 23)
  have S0 := (S0.keep hw3).alloc (.cells #[.int .i64 a, .int .i64 b] 23)
  have S1 := (S1.keep hw3).alloc (.cells #[.int .i64 a, .int .i64 b] 23)
  have hb := hb.trans (hw3.mono hb.size)
  have hb := hb.alloc hb.size (.cells #[.int .i64 a, .int .i64 b] 23)
  have X0 := Cell.new w3 #[.int .i64 a, .int .i64 b] 23 0 _ rfl
  have X1 := Cell.new w3 #[.int .i64 a, .int .i64 b] 23 1 _ rfl
  have hs3 := hw3.size
  have hs2 := S0.lt
  clear hw3 k1 k2
  have s0 := S0.1
  have s1 := S1.1
  have t0 := S0.2
  have t1 := S1.2
  have k1 := K.2.1.1
  have k2 := K.2.2.1
  have f1 := K.2.1.2
  have f2 := K.2.2.2
  have r0 := R0.1
  have r1 := R1.1
  have q0 := R0.2
  have q1 := R1.2
  have x0 := X0.1
  have x1 := X1.1
  go_wp2
  refine bodyPost_ret (v := .tuple #[.agg #[.int .i64 0, .int .i64 0], .int .i64 z]) (by rw [results_cell_tmp rfl]; go_simp) rfl ?_
  refine ⟨rfl, (K.far (by simp; omega) _).far (by simp; omega) _, ?_⟩
  repeat (refine Only.setCell ?_ (by first | exact .inl rfl | exact .inr (Nat.le_refl _) | exact .inr (Nat.le_succ _)) _)
  exact Only.of_below hb

theorem now_any (g : Nat) (o x y wall : Int) (w : World) (hk : Clk w g o x y) :
    Calls Try.prog 24 #[.pointer (some ⟨g, 0, none⟩), .int .i64 wall] w fun e w' => e = .returned (.tuple #[.agg #[.int .i64 (nowR x y wall).1, .int .i64 (nowR x y wall).2.1], .int .i64 (nowR x y wall).2.2]) ∧ Clk w' g o (nowL x y wall).1 (nowL x y wall).2 ∧ Only g w w' := by
  rcases hw : wallOk wall with _ | _
  · have hr : nowR x y wall = (0, 0, 1) := by unfold nowR; rw [if_pos hw]
    have hl : nowL x y wall = (x, y) := by unfold nowL; rw [hr, if_neg (by decide)]
    rw [hr, hl]
    exact now_bad g o x y wall w hk hw
  · by_cases hN : stCmp wall 0 x y ≤ 0
    · by_cases hX : (stNext x y).2.2 = 0
      · have hr : nowR x y wall = stNext x y := by unfold nowR; rw [if_neg (by rw [hw]; decide), if_pos hN, if_pos hX]
        have hl : nowL x y wall = ((stNext x y).1, (stNext x y).2.1) := by unfold nowL; rw [hr, if_pos hX]
        have := now_next g o x y wall w hk hw hN hX
        rw [hr, hl, hX]
        exact this
      · have hr : nowR x y wall = (0, 0, (stNext x y).2.2) := by unfold nowR; rw [if_neg (by rw [hw]; decide), if_pos hN, if_neg hX]
        have hl : nowL x y wall = (x, y) := by unfold nowL; rw [hr, if_neg hX]
        rw [hr, hl]
        exact now_end g o x y wall w hk hw hN hX
    · have hr : nowR x y wall = (wall, 0, 0) := by unfold nowR; rw [if_neg (by rw [hw]; decide), if_neg hN]
      have hl : nowL x y wall = (wall, 0) := by unfold nowL; rw [hr, if_pos rfl]
      rw [hr, hl]
      exact now_fresh g o x y wall w hk hw hN

set_option maxHeartbeats 1600000 in
set_option maxRecDepth 100000 in
theorem rnow_bad (g : Nat) (o x y wall : Int) (w : World) (hk : Clk w g o x y) (hw : wallOk wall = false) :
    Calls Try.prog 25 #[.pointer (some ⟨g, 0, none⟩), .int .i64 wall] w fun e w' => e = .returned (.tuple #[.agg #[.int .i64 0, .int .i64 0], .int .i64 1]) ∧ Clk w' g o x y ∧ Only g w w' := by
  replace hw := Lib.hid hw
  go_enter Try.func25, Try.ntmps25
  go_wp2_with (go_at_call 23; refine (risWall_any _ _).mono ?_; rintro e w1 ⟨rfl, rfl⟩; rw [hw.out])
  refine bodyPost_ret (v := .tuple #[.agg #[.int .i64 0, .int .i64 0], .int .i64 1]) (by rw [results_cell_tmp rfl]; go_simp) rfl ?_
  exact ⟨rfl, hk.keep (below1 w _), Only.of_below (below1 w _)⟩

set_option maxHeartbeats 1600000 in
set_option maxRecDepth 100000 in
theorem rnow_fresh (g : Nat) (o x y wall : Int) (w : World) (hk : Clk w g o x y) (hw : wallOk wall = true) (hN : ¬ stCmp wall 0 x y ≤ 0) :
    Calls Try.prog 25 #[.pointer (some ⟨g, 0, none⟩), .int .i64 wall] w fun e w' => e = .returned (.tuple #[.agg #[.int .i64 wall, .int .i64 0], .int .i64 0]) ∧ Clk w' g o wall 0 ∧ Only g w w' := by
  have hg := hk.lt
  replace hw := Lib.hid hw
  have CC := Lib.hid (rcompare_any wall 0 x y)
  obtain ⟨N, hN'⟩ : ∃ N, N = stCmp wall 0 x y := ⟨_, rfl⟩
  rw [← hN'] at CC hN
  clear hN'
  have hb := below2 w (.cells #[.int .i64 0, .int .i64 0] 23) (.cells #[.int .i64 wall, .int .i64 0] 23)
  have K := hk.keep hb
  have R0 := (Cell.new w #[.int .i64 0, .int .i64 0] 23 0 _ rfl).alloc (.cells #[.int .i64 wall, .int .i64 0] 23)
  have R1 := (Cell.new w #[.int .i64 0, .int .i64 0] 23 1 _ rfl).alloc (.cells #[.int .i64 wall, .int .i64 0] 23)
  have S0 := Cell.new' (w := w.alloc (.cells #[.int .i64 0, .int .i64 0] 23)) (n := w.heap.size + 1) (by simp) #[.int .i64 wall, .int .i64 0] 23 0 _ rfl
  have S1 := Cell.new' (w := w.alloc (.cells #[.int .i64 0, .int .i64 0] 23)) (n := w.heap.size + 1) (by simp) #[.int .i64 wall, .int .i64 0] 23 1 _ rfl
  clear hk
  have s0 := S0.1
  have s1 := S1.1
  have k1 := K.2.1.1
  have k2 := K.2.2.1
  go_enter Try.func25, Try.ntmps25
  go_wp2_with (go_at_call 23; refine (risWall_any _ _).mono ?_; rintro e w1 ⟨rfl, rfl⟩; rw [hw.out])
  go_region_held3 (fun w' => w'.cell? ⟨w.heap.size + 1, 0, none⟩ = some (.int .i64 wall) ∧ w'.cell? ⟨w.heap.size + 1, 1, none⟩ = some (.int .i64 0) ∧ w'.cell? ⟨g, 1, none⟩ = some (.int .i64 x) ∧ w'.cell? ⟨g, 2, none⟩ = some (.int .i64 y)) (first | exact ⟨S0.1, S1.1, K.2.1.1, K.2.2.1⟩ | go_keep)
    (first | (go_at_call 15; refine (CC.out _).mono ?_; rintro e w2 ⟨rfl, hw2⟩; have hw2 := below_of_drew hw2; have K := K.keep hw2; have R0 := R0.keep hw2; have R1 := R1.keep hw2; have S0 := S0.keep hw2; have S1 := S1.keep hw2; have hb := hb.trans (hw2.mono hb.size); clear hw2))
  clear s0 s1 k1 k2
  have s0 := S0.1
  have s1 := S1.1
  have t0 := S0.2
  have t1 := S1.2
  have k1 := K.2.1.1
  have k2 := K.2.2.1
  have f1 := K.2.1.2
  have f2 := K.2.2.2
  have r0 := R0.1
  have r1 := R1.1
  have q0 := R0.2
  have q1 := R1.2
  go_wp2
  refine bodyPost_ret (v := .tuple #[.agg #[.int .i64 wall, .int .i64 0], .int .i64 0]) (by rw [results_cell_tmp rfl]; go_simp) rfl ?_
  have hs := hb.size
  refine ⟨rfl, ((K.set wall 0).far (by simp; omega) _).far (by simp; omega) _, ?_⟩
  repeat (refine Only.setCell ?_ (by first | exact .inl rfl | exact .inr (Nat.le_refl _) | exact .inr (Nat.le_succ _)) _)
  exact Only.of_below hb

set_option maxHeartbeats 1600000 in
set_option maxRecDepth 100000 in
theorem rnow_next (g : Nat) (o x y wall : Int) (w : World) (hk : Clk w g o x y) (hw : wallOk wall = true) (hN : stCmp wall 0 x y ≤ 0) (hX : (stNext x y).2.2 = 0) :
    Calls Try.prog 25 #[.pointer (some ⟨g, 0, none⟩), .int .i64 wall] w fun e w' => e = .returned (.tuple #[.agg #[.int .i64 (stNext x y).1, .int .i64 (stNext x y).2.1], .int .i64 0]) ∧ Clk w' g o (stNext x y).1 (stNext x y).2.1 ∧ Only g w w' := by
  have NX := Lib.hid (rnext_any x y)
  obtain ⟨a, ha⟩ : ∃ a, a = (stNext x y).1 := ⟨_, rfl⟩
  obtain ⟨b, hb'⟩ : ∃ b, b = (stNext x y).2.1 := ⟨_, rfl⟩
  obtain ⟨z, hz'⟩ : ∃ z, z = (stNext x y).2.2 := ⟨_, rfl⟩
  rw [← ha, ← hb', ← hz'] at NX
  rw [← hz'] at hX
  rw [← ha, ← hb']
  clear ha hb' hz'
  subst hX
  have hg := hk.lt
  replace hw := Lib.hid hw
  have CC := Lib.hid (rcompare_any wall 0 x y)
  obtain ⟨N, hN'⟩ : ∃ N, N = stCmp wall 0 x y := ⟨_, rfl⟩
  rw [← hN'] at CC hN
  clear hN'
  have hb := below2 w (.cells #[.int .i64 0, .int .i64 0] 23) (.cells #[.int .i64 wall, .int .i64 0] 23)
  have K := hk.keep hb
  have R0 := (Cell.new w #[.int .i64 0, .int .i64 0] 23 0 _ rfl).alloc (.cells #[.int .i64 wall, .int .i64 0] 23)
  have R1 := (Cell.new w #[.int .i64 0, .int .i64 0] 23 1 _ rfl).alloc (.cells #[.int .i64 wall, .int .i64 0] 23)
  have S0 := Cell.new' (w := w.alloc (.cells #[.int .i64 0, .int .i64 0] 23)) (n := w.heap.size + 1) (by simp) #[.int .i64 wall, .int .i64 0] 23 0 _ rfl
  have S1 := Cell.new' (w := w.alloc (.cells #[.int .i64 0, .int .i64 0] 23)) (n := w.heap.size + 1) (by simp) #[.int .i64 wall, .int .i64 0] 23 1 _ rfl
  clear hk
  have s0 := S0.1
  have s1 := S1.1
  have k1 := K.2.1.1
  have k2 := K.2.2.1
  go_enter Try.func25, Try.ntmps25
  go_wp2_with (go_at_call 23; refine (risWall_any _ _).mono ?_; rintro e w1 ⟨rfl, rfl⟩; rw [hw.out])
  go_region_held3 (fun w' => w'.cell? ⟨w.heap.size + 1, 0, none⟩ = some (.int .i64 wall) ∧ w'.cell? ⟨w.heap.size + 1, 1, none⟩ = some (.int .i64 0) ∧ w'.cell? ⟨g, 1, none⟩ = some (.int .i64 x) ∧ w'.cell? ⟨g, 2, none⟩ = some (.int .i64 y)) (first | exact ⟨S0.1, S1.1, K.2.1.1, K.2.2.1⟩ | go_keep)
    (first | (go_at_call 15; refine (CC.out _).mono ?_; rintro e w2 ⟨rfl, hw2⟩; have hw2 := below_of_drew hw2; have K := K.keep hw2; have R0 := R0.keep hw2; have R1 := R1.keep hw2; have S0 := S0.keep hw2; have S1 := S1.keep hw2; have hb := hb.trans (hw2.mono hb.size); clear hw2))
  clear s0 s1 k1 k2
  have k1 := K.2.1.1
  have k2 := K.2.2.1
  go_wp2_with fail
  refine (NX.out _).mono ?_
  rintro e w3 ⟨rfl, hw3⟩
  have K := (K.keep hw3).keep (below1 w3 (.cells #[.int .i64 a, .int .i64 b] 23))
  have R0 := (R0.keep hw3).alloc (.cells #[.int .i64 a, .int .i64 b] 23)
  have R1 := (R1.keep hw3).alloc (.cells #[.int .i64 a, .int .i64 b] 23)
  have S0 := (S0.keep hw3).alloc (.cells #[.int .i64 a, .int .i64 b] 23)
  have S1 := (S1.keep hw3).alloc (.cells #[.int .i64 a, .int .i64 b] 23)
  have hb := hb.trans (hw3.mono hb.size)
  have hb := hb.alloc hb.size (.cells #[.int .i64 a, .int .i64 b] 23)
  have X0 := Cell.new w3 #[.int .i64 a, .int .i64 b] 23 0 _ rfl
  have X1 := Cell.new w3 #[.int .i64 a, .int .i64 b] 23 1 _ rfl
  have hs3 := hw3.size
  have hs2 := S0.lt
  clear hw3 k1 k2
  have s0 := S0.1
  have s1 := S1.1
  have t0 := S0.2
  have t1 := S1.2
  have k1 := K.2.1.1
  have k2 := K.2.2.1
  have f1 := K.2.1.2
  have f2 := K.2.2.2
  have r0 := R0.1
  have r1 := R1.1
  have q0 := R0.2
  have q1 := R1.2
  have x0 := X0.1
  have x1 := X1.1
  go_wp2
  refine bodyPost_ret (v := .tuple #[.agg #[.int .i64 a, .int .i64 b], .int .i64 0]) (by rw [results_cell_tmp rfl]; go_simp) rfl ?_
  refine ⟨rfl, (((((K.far (by simp; omega) _).far (by simp; omega) _).set a b)).far (by simp; omega) _).far (by simp; omega) _, ?_⟩
  repeat (refine Only.setCell ?_ (by first | exact .inl rfl | exact .inr (Nat.le_refl _) | exact .inr (Nat.le_succ _)) _)
  exact Only.of_below hb

set_option maxHeartbeats 1600000 in
set_option maxRecDepth 100000 in
theorem rnow_end (g : Nat) (o x y wall : Int) (w : World) (hk : Clk w g o x y) (hw : wallOk wall = true) (hN : stCmp wall 0 x y ≤ 0) (hX : (stNext x y).2.2 ≠ 0) :
    Calls Try.prog 25 #[.pointer (some ⟨g, 0, none⟩), .int .i64 wall] w fun e w' => e = .returned (.tuple #[.agg #[.int .i64 0, .int .i64 0], .int .i64 (stNext x y).2.2]) ∧ Clk w' g o x y ∧ Only g w w' := by
  have NX := Lib.hid (rnext_any x y)
  obtain ⟨a, ha⟩ : ∃ a, a = (stNext x y).1 := ⟨_, rfl⟩
  obtain ⟨b, hb'⟩ : ∃ b, b = (stNext x y).2.1 := ⟨_, rfl⟩
  obtain ⟨z, hz'⟩ : ∃ z, z = (stNext x y).2.2 := ⟨_, rfl⟩
  rw [← ha, ← hb', ← hz'] at NX
  rw [← hz'] at hX
  rw [← hz']
  clear ha hb' hz'
  have hz0 : (z != 0) = true := by rw [bne_iff_ne]; exact hX
  have hg := hk.lt
  replace hw := Lib.hid hw
  have CC := Lib.hid (rcompare_any wall 0 x y)
  obtain ⟨N, hN'⟩ : ∃ N, N = stCmp wall 0 x y := ⟨_, rfl⟩
  rw [← hN'] at CC hN
  clear hN'
  have hb := below2 w (.cells #[.int .i64 0, .int .i64 0] 23) (.cells #[.int .i64 wall, .int .i64 0] 23)
  have K := hk.keep hb
  have R0 := (Cell.new w #[.int .i64 0, .int .i64 0] 23 0 _ rfl).alloc (.cells #[.int .i64 wall, .int .i64 0] 23)
  have R1 := (Cell.new w #[.int .i64 0, .int .i64 0] 23 1 _ rfl).alloc (.cells #[.int .i64 wall, .int .i64 0] 23)
  have S0 := Cell.new' (w := w.alloc (.cells #[.int .i64 0, .int .i64 0] 23)) (n := w.heap.size + 1) (by simp) #[.int .i64 wall, .int .i64 0] 23 0 _ rfl
  have S1 := Cell.new' (w := w.alloc (.cells #[.int .i64 0, .int .i64 0] 23)) (n := w.heap.size + 1) (by simp) #[.int .i64 wall, .int .i64 0] 23 1 _ rfl
  clear hk
  have s0 := S0.1
  have s1 := S1.1
  have k1 := K.2.1.1
  have k2 := K.2.2.1
  go_enter Try.func25, Try.ntmps25
  go_wp2_with (go_at_call 23; refine (risWall_any _ _).mono ?_; rintro e w1 ⟨rfl, rfl⟩; rw [hw.out])
  go_region_held3 (fun w' => w'.cell? ⟨w.heap.size + 1, 0, none⟩ = some (.int .i64 wall) ∧ w'.cell? ⟨w.heap.size + 1, 1, none⟩ = some (.int .i64 0) ∧ w'.cell? ⟨g, 1, none⟩ = some (.int .i64 x) ∧ w'.cell? ⟨g, 2, none⟩ = some (.int .i64 y)) (first | exact ⟨S0.1, S1.1, K.2.1.1, K.2.2.1⟩ | go_keep)
    (first | (go_at_call 15; refine (CC.out _).mono ?_; rintro e w2 ⟨rfl, hw2⟩; have hw2 := below_of_drew hw2; have K := K.keep hw2; have R0 := R0.keep hw2; have R1 := R1.keep hw2; have S0 := S0.keep hw2; have S1 := S1.keep hw2; have hb := hb.trans (hw2.mono hb.size); clear hw2))
  clear s0 s1 k1 k2
  have k1 := K.2.1.1
  have k2 := K.2.2.1
  go_wp2_with fail
  refine (NX.out _).mono ?_
  rintro e w3 ⟨rfl, hw3⟩
  have K := (K.keep hw3).keep (below1 w3 (.cells #[.int .i64 a, .int .i64 b] 23))
  have R0 := (R0.keep hw3).alloc (.cells #[.int .i64 a, .int .i64 b] 23)
  have R1 := (R1.keep hw3).alloc (.cells #[.int .i64 a, .int .i64 b] 23)
  have S0 := (S0.keep hw3).alloc (.cells #[.int .i64 a, .int .i64 b] 23)
  have S1 := (S1.keep hw3).alloc (.cells #[.int .i64 a, .int .i64 b] 23)
  have hb := hb.trans (hw3.mono hb.size)
  have hb := hb.alloc hb.size (.cells #[.int .i64 a, .int .i64 b] 23)
  have X0 := Cell.new w3 #[.int .i64 a, .int .i64 b] 23 0 _ rfl
  have X1 := Cell.new w3 #[.int .i64 a, .int .i64 b] 23 1 _ rfl
  have hs3 := hw3.size
  have hs2 := S0.lt
  clear hw3 k1 k2
  have s0 := S0.1
  have s1 := S1.1
  have t0 := S0.2
  have t1 := S1.2
  have k1 := K.2.1.1
  have k2 := K.2.2.1
  have f1 := K.2.1.2
  have f2 := K.2.2.2
  have r0 := R0.1
  have r1 := R1.1
  have q0 := R0.2
  have q1 := R1.2
  have x0 := X0.1
  have x1 := X1.1
  go_wp2
  refine bodyPost_ret (v := .tuple #[.agg #[.int .i64 0, .int .i64 0], .int .i64 z]) (by rw [results_cell_tmp rfl]; go_simp) rfl ?_
  refine ⟨rfl, (K.far (by simp; omega) _).far (by simp; omega) _, ?_⟩
  repeat (refine Only.setCell ?_ (by first | exact .inl rfl | exact .inr (Nat.le_refl _) | exact .inr (Nat.le_succ _)) _)
  exact Only.of_below hb

theorem rnow_any (g : Nat) (o x y wall : Int) (w : World) (hk : Clk w g o x y) :
    Calls Try.prog 25 #[.pointer (some ⟨g, 0, none⟩), .int .i64 wall] w fun e w' => e = .returned (.tuple #[.agg #[.int .i64 (nowR x y wall).1, .int .i64 (nowR x y wall).2.1], .int .i64 (nowR x y wall).2.2]) ∧ Clk w' g o (nowL x y wall).1 (nowL x y wall).2 ∧ Only g w w' := by
  rcases hw : wallOk wall with _ | _
  · have hr : nowR x y wall = (0, 0, 1) := by unfold nowR; rw [if_pos hw]
    have hl : nowL x y wall = (x, y) := by unfold nowL; rw [hr, if_neg (by decide)]
    rw [hr, hl]
    exact rnow_bad g o x y wall w hk hw
  · by_cases hN : stCmp wall 0 x y ≤ 0
    · by_cases hX : (stNext x y).2.2 = 0
      · have hr : nowR x y wall = stNext x y := by unfold nowR; rw [if_neg (by rw [hw]; decide), if_pos hN, if_pos hX]
        have hl : nowL x y wall = ((stNext x y).1, (stNext x y).2.1) := by unfold nowL; rw [hr, if_pos hX]
        have := rnow_next g o x y wall w hk hw hN hX
        rw [hr, hl, hX]
        exact this
      · have hr : nowR x y wall = (0, 0, (stNext x y).2.2) := by unfold nowR; rw [if_neg (by rw [hw]; decide), if_pos hN, if_neg hX]
        have hl : nowL x y wall = (x, y) := by unfold nowL; rw [hr, if_neg hX]
        rw [hr, hl]
        exact rnow_end g o x y wall w hk hw hN hX
    · have hr : nowR x y wall = (wall, 0, 0) := by unfold nowR; rw [if_neg (by rw [hw]; decide), if_neg hN]
      have hl : nowL x y wall = (wall, 0) := by unfold nowL; rw [hr, if_pos rfl]
      rw [hr, hl]
      exact rnow_fresh g o x y wall w hk hw hN

end Go.Proofs.Ytglpaeiebkacoaa
