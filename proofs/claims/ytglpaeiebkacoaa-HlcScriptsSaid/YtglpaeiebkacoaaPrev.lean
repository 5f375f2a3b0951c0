/-
  The contracts of Next and Prev.
-/
import Derived.Test.YtglpaeiebkacoaaPlain
namespace Go.Proofs.Ytglpaeiebkacoaa
open Go.RowKit

set_option maxHeartbeats 400000 in
set_option maxRecDepth 100000 in
theorem prev_any (a b : Int) (w : World) : Calls Try.prog 13 #[.agg #[.int .i64 a, .int .i64 b]] w fun e w' => e = .returned (.tuple #[.agg #[.int .i64 (stPrev a b).1, .int .i64 (stPrev a b).2.1], .int .i64 (stPrev a b).2.2]) ∧ Below w.heap.size w w' := by
  rcases hr : stOk a b with _ | _
  · skip
    have hx : stPrev a b = (0, 0, 80) := by unfold stPrev; rw [if_pos hr]
    rw [hx]
    go_enter Try.func13, Try.ntmps13
    go_wp2_with fail
    refine (right_any _ _ _).mono ?_
    rintro e w1 ⟨rfl, hb1⟩
    obtain ⟨z0, z1, y0, y1, f0, f1, hb⟩ := after_call hb1
    rw [hr]
    go_wp2
    refine bodyPost_ret (by rw [results_cell_tmp rfl]; go_simp) rfl ⟨rfl, (hb.setCell (by simp) _).setCell (by simp) _⟩
  · have hok : (0 ≤ a ∧ a ≤ 9007199254740991) ∧ (0 ≤ b ∧ b ≤ 65535) := by simpa [stOk, wallOk] using hr
    by_cases h1 : 0 < b
    · skip
      have hx : stPrev a b = (a, b - 1, 0) := by unfold stPrev; rw [if_neg (by rw [hr]; decide), if_pos h1]
      rw [hx]
      go_enter Try.func13, Try.ntmps13
      go_wp2_with fail
      refine (right_any _ _ _).mono ?_
      rintro e w1 ⟨rfl, hb1⟩
      obtain ⟨z0, z1, y0, y1, f0, f1, hb⟩ := after_call hb1
      rw [hr]
      go_wp2
      refine bodyPost_ret (by rw [results_cell_tmp rfl]; go_simp) rfl ⟨rfl, (hb.setCell (by simp) _).setCell (by simp) _⟩
    · by_cases h2 : a = 0
      · subst h2
        have hx : stPrev 0 b = (0, 0, 82) := by unfold stPrev; rw [if_neg (by rw [hr]; decide), if_neg h1, if_pos rfl]
        rw [hx]
        go_enter Try.func13, Try.ntmps13
        go_wp2_with fail
        refine (right_any _ _ _).mono ?_
        rintro e w1 ⟨rfl, hb1⟩
        obtain ⟨z0, z1, y0, y1, f0, f1, hb⟩ := after_call hb1
        rw [hr]
        go_wp2
        refine bodyPost_ret (by rw [results_cell_tmp rfl]; go_simp) rfl ⟨rfl, (hb.setCell (by simp) _).setCell (by simp) _⟩
      · skip
        have hx : stPrev a b = (a - 1, 65535, 0) := by unfold stPrev; rw [if_neg (by rw [hr]; decide), if_neg h1, if_neg h2]
        rw [hx]
        go_enter Try.func13, Try.ntmps13
        go_wp2_with fail
        refine (right_any _ _ _).mono ?_
        rintro e w1 ⟨rfl, hb1⟩
        obtain ⟨z0, z1, y0, y1, f0, f1, hb⟩ := after_call hb1
        rw [hr]
        go_wp2
        refine bodyPost_ret (by rw [results_cell_tmp rfl]; go_simp) rfl ⟨rfl, (hb.setCell (by simp) _).setCell (by simp) _⟩

set_option maxHeartbeats 400000 in
set_option maxRecDepth 100000 in
theorem rprev_any (a b : Int) (w : World) : Calls Try.prog 17 #[.agg #[.int .i64 a, .int .i64 b]] w fun e w' => e = .returned (.tuple #[.agg #[.int .i64 (stPrev a b).1, .int .i64 (stPrev a b).2.1], .int .i64 (stPrev a b).2.2]) ∧ Below w.heap.size w w' := by
  rcases hr : stOk a b with _ | _
  · skip
    have hx : stPrev a b = (0, 0, 80) := by unfold stPrev; rw [if_pos hr]
    rw [hx]
    go_enter Try.func17, Try.ntmps17
    go_wp2_with fail
    refine (rright_any _ _ _).mono ?_
    rintro e w1 ⟨rfl, hb1⟩
    obtain ⟨z0, z1, y0, y1, f0, f1, hb⟩ := after_call hb1
    rw [hr]
    go_wp2
    refine bodyPost_ret (by rw [results_cell_tmp rfl]; go_simp) rfl ⟨rfl, (hb.setCell (by simp) _).setCell (by simp) _⟩
  · have hok : (0 ≤ a ∧ a ≤ 9007199254740991) ∧ (0 ≤ b ∧ b ≤ 65535) := by simpa [stOk, wallOk] using hr
    by_cases h1 : 0 < b
    · skip
      have hx : stPrev a b = (a, b - 1, 0) := by unfold stPrev; rw [if_neg (by rw [hr]; decide), if_pos h1]
      rw [hx]
      go_enter Try.func17, Try.ntmps17
      go_wp2_with fail
      refine (rright_any _ _ _).mono ?_
      rintro e w1 ⟨rfl, hb1⟩
      obtain ⟨z0, z1, y0, y1, f0, f1, hb⟩ := after_call hb1
      rw [hr]
      go_wp2
      refine bodyPost_ret (by rw [results_cell_tmp rfl]; go_simp) rfl ⟨rfl, (hb.setCell (by simp) _).setCell (by simp) _⟩
    · by_cases h2 : a = 0
      · subst h2
        have hx : stPrev 0 b = (0, 0, 82) := by unfold stPrev; rw [if_neg (by rw [hr]; decide), if_neg h1, if_pos rfl]
        rw [hx]
        go_enter Try.func17, Try.ntmps17
        go_wp2_with fail
        refine (rright_any _ _ _).mono ?_
        rintro e w1 ⟨rfl, hb1⟩
        obtain ⟨z0, z1, y0, y1, f0, f1, hb⟩ := after_call hb1
        rw [hr]
        go_wp2
        refine bodyPost_ret (by rw [results_cell_tmp rfl]; go_simp) rfl ⟨rfl, (hb.setCell (by simp) _).setCell (by simp) _⟩
      · skip
        have hx : stPrev a b = (a - 1, 65535, 0) := by unfold stPrev; rw [if_neg (by rw [hr]; decide), if_neg h1, if_neg h2]
        rw [hx]
        go_enter Try.func17, Try.ntmps17
        go_wp2_with fail
        refine (rright_any _ _ _).mono ?_
        rintro e w1 ⟨rfl, hb1⟩
        obtain ⟨z0, z1, y0, y1, f0, f1, hb⟩ := after_call hb1
        rw [hr]
        go_wp2
        refine bodyPost_ret (by rw [results_cell_tmp rfl]; go_simp) rfl ⟨rfl, (hb.setCell (by simp) _).setCell (by simp) _⟩
end Go.Proofs.Ytglpaeiebkacoaa
