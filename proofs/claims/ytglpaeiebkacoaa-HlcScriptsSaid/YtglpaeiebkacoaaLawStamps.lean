/-
  The walk of the law HlcStamps.
-/
import Derived.Test.YtglpaeiebkacoaaNext
import Derived.Test.YtglpaeiebkacoaaPrev
namespace Go.Proofs.Ytglpaeiebkacoaa
open Go.RowKit

set_option maxHeartbeats 400000 in
set_option maxRecDepth 100000 in
theorem awake_any (w : World) : Calls Try.prog 9 #[] w fun e w' => e = .returned (.bool true) ∧ Below w.heap.size w w' := by
  have hx : stNext 3 65535 = (4, 0, 0) := by decide
  have hn := fun w => next_any 3 65535 w
  rw [hx] at hn
  have HN := Lib.hid hn
  clear hn hx
  go_enter Try.func9, Try.ntmps9
  go_wp2_with fail
  refine (HN.out _).mono ?_
  rintro e w1 ⟨rfl, hb1⟩
  go_wp2
  go_ret
  exact ⟨by simp, hb1.alloc hb1.size _⟩

theorem after_two {w w1 : World} {a b c d : Value} {t : TypeId} (h : Below ((w.alloc (.cells #[a, b] t)).alloc (.cells #[c, d] t)).heap.size ((w.alloc (.cells #[a, b] t)).alloc (.cells #[c, d] t)) w1) :
    w1.cell? ⟨w.heap.size, 0, none⟩ = some a ∧ w1.cell? ⟨w.heap.size, 1, none⟩ = some b ∧ w1.cell? ⟨w.heap.size + 1, 0, none⟩ = some c ∧ w1.cell? ⟨w.heap.size + 1, 1, none⟩ = some d ∧
    Below w.heap.size w w1 ∧ w.heap.size + 2 ≤ w1.heap.size := by
  obtain ⟨z0, z1, y0, y1, _, _, hb⟩ := after_call h
  have := h.size
  exact ⟨z0, z1, y0, y1, hb, by simpa using this⟩

theorem kept {v w : World} {k i : Nat} {x : Value} (hb : Below v.heap.size v w) (h : v.cell? ⟨k, i, none⟩ = some x) : w.cell? ⟨k, i, none⟩ = some x :=
  (hb.cell (World.block_lt_of_cell? v _ h)).trans h
theorem over {w : World} {k i : Nat} {x : Value} (h : w.cell? ⟨k, i, none⟩ = some x) (o : Obj) : (w.alloc o).cell? ⟨k, i, none⟩ = some x :=
  (World.cell?_alloc_lt _ _ _ (World.block_lt_of_cell? w _ h)).trans h
theorem laid0 (w : World) (x y : Value) (t : TypeId) : (w.alloc (.cells #[x, y] t)).cell? ⟨w.heap.size, 0, none⟩ = some x := by rw [World.cell?_alloc_at _ _ _ _ rfl]; rfl
theorem laid1 (w : World) (x y : Value) (t : TypeId) : (w.alloc (.cells #[x, y] t)).cell? ⟨w.heap.size, 1, none⟩ = some y := by rw [World.cell?_alloc_at _ _ _ _ rfl]; rfl

set_option maxHeartbeats 1600000 in
set_option maxRecDepth 100000 in
theorem law_stamps (a b c d : Int) (w : World) :
    Calls Try.prog 3 #[.agg #[.int .i64 a, .int .i64 b], .agg #[.int .i64 c, .int .i64 d]] w fun e w' => e = .returned (.bool true) ∧ Below w.heap.size w w' := by
  go_enter Try.func3, Try.ntmps3
  go_wp2_with fail
  refine (awake_any _).mono ?_
  rintro e w1 ⟨rfl, hb1⟩
  obtain ⟨za, zb, zc, zd, hb, hsz⟩ := after_two hb1
  clear hb1
  go_wp2_with fail
  refine (right_any a b _).mono ?_
  rintro e w2 ⟨rfl, hw2⟩
  have za := kept hw2 za
  have zb := kept hw2 zb
  have zc := kept hw2 zc
  have zd := kept hw2 zd
  have hb := hb.trans (hw2.mono hb.size)
  clear hw2
  go_wp2_with fail
  refine (compare_any a b c d _).mono ?_
  rintro e w3 ⟨rfl, hw3⟩
  have za := kept hw3 za
  have zb := kept hw3 zb
  have zc := kept hw3 zc
  have zd := kept hw3 zd
  have hb := hb.trans (hw3.mono hb.size)
  clear hw3
  go_wp2_with fail
  refine (next_any a b _).mono ?_
  rintro e w4 ⟨rfl, hw4⟩
  have za := kept hw4 za
  have zb := kept hw4 zb
  have zc := kept hw4 zc
  have zd := kept hw4 zd
  have hb := hb.trans (hw4.mono hb.size)
  clear hw4
  have oza := fun o => over za o
  have ozb := fun o => over zb o
  have ozc := fun o => over zc o
  have ozd := fun o => over zd o
  go_wp2_with fail
  refine (prev_any a b _).mono ?_
  rintro e w5 ⟨rfl, hw5⟩
  have bn := laid0 w4 (.int .i64 (stNext a b).1) (.int .i64 (stNext a b).2.1) 23
  have cn := laid1 w4 (.int .i64 (stNext a b).1) (.int .i64 (stNext a b).2.1) 23
  have za := kept hw5 (over za _)
  have zb := kept hw5 (over zb _)
  have zc := kept hw5 (over zc _)
  have zd := kept hw5 (over zd _)
  have bn := kept hw5 bn
  have cn := kept hw5 cn
  have hb := (hb.alloc hb.size _).trans (hw5.mono (Nat.le_trans hb.size (by simp)))
  clear hw5
  have oza := fun o => over za o
  have ozb := fun o => over zb o
  have ozc := fun o => over zc o
  have ozd := fun o => over zd o
  have obn := fun o => over bn o
  have ocn := fun o => over cn o
  go_wp2_with fail
  refine (rright_any a b _).mono ?_
  rintro e w6 ⟨rfl, hw6⟩
  have bp := laid0 w5 (.int .i64 (stPrev a b).1) (.int .i64 (stPrev a b).2.1) 23
  have cp := laid1 w5 (.int .i64 (stPrev a b).1) (.int .i64 (stPrev a b).2.1) 23
  have za := kept hw6 (over za _)
  have zb := kept hw6 (over zb _)
  have zc := kept hw6 (over zc _)
  have zd := kept hw6 (over zd _)
  have bn := kept hw6 (over bn _)
  have cn := kept hw6 (over cn _)
  have bp := kept hw6 bp
  have cp := kept hw6 cp
  have hb := (hb.alloc hb.size _).trans (hw6.mono (Nat.le_trans hb.size (by simp)))
  clear hw6
  go_wp2_with fail
  refine (rcompare_any a b c d _).mono ?_
  rintro e w7 ⟨rfl, hw7⟩
  have za := kept hw7 za
  have zb := kept hw7 zb
  have zc := kept hw7 zc
  have zd := kept hw7 zd
  have bn := kept hw7 bn
  have cn := kept hw7 cn
  have bp := kept hw7 bp
  have cp := kept hw7 cp
  have hb := hb.trans (hw7.mono hb.size)
  clear hw7
  go_wp2_with fail
  refine (rnext_any a b _).mono ?_
  rintro e w8 ⟨rfl, hw8⟩
  have za := kept hw8 za
  have zb := kept hw8 zb
  have zc := kept hw8 zc
  have zd := kept hw8 zd
  have bn := kept hw8 bn
  have cn := kept hw8 cn
  have bp := kept hw8 bp
  have cp := kept hw8 cp
  have hb := hb.trans (hw8.mono hb.size)
  clear hw8
  have oza := fun o => over za o
  have ozb := fun o => over zb o
  have ozc := fun o => over zc o
  have ozd := fun o => over zd o
  have obn := fun o => over bn o
  have ocn := fun o => over cn o
  have obp := fun o => over bp o
  have ocp := fun o => over cp o
  go_wp2_with fail
  refine (rprev_any a b _).mono ?_
  rintro e w9 ⟨rfl, hw9⟩
  have bm := laid0 w8 (.int .i64 (stNext a b).1) (.int .i64 (stNext a b).2.1) 23
  have cm := laid1 w8 (.int .i64 (stNext a b).1) (.int .i64 (stNext a b).2.1) 23
  have za := kept hw9 (over za _)
  have zb := kept hw9 (over zb _)
  have zc := kept hw9 (over zc _)
  have zd := kept hw9 (over zd _)
  have bn := kept hw9 (over bn _)
  have cn := kept hw9 (over cn _)
  have bp := kept hw9 (over bp _)
  have cp := kept hw9 (over cp _)
  have bm := kept hw9 bm
  have cm := kept hw9 cm
  have hb := (hb.alloc hb.size _).trans (hw9.mono (Nat.le_trans hb.size (by simp)))
  clear hw9
  have oza := fun o => over za o
  have ozb := fun o => over zb o
  have ozc := fun o => over zc o
  have ozd := fun o => over zd o
  have obn := fun o => over bn o
  have ocn := fun o => over cn o
  have obp := fun o => over bp o
  have ocp := fun o => over cp o
  have obm := fun o => over bm o
  have ocm := fun o => over cm o
  have bq := laid0 w9 (.int .i64 (stPrev a b).1) (.int .i64 (stPrev a b).2.1) 23
  have cq := laid1 w9 (.int .i64 (stPrev a b).1) (.int .i64 (stPrev a b).2.1) 23
  go_wp2
  go_ret
  exact ⟨by simp, hb.alloc hb.size _⟩
end Go.Proofs.Ytglpaeiebkacoaa
