/-
  The contracts of hlc's and the reference's functions of stamps by value: Right, Compare, Next, Prev; of awake.
-/
import Derived.Test.YtglpaeiebkacoaaRows
import Derived.WalkKit
import Derived.Deep.Draws
import Derived.Lib.Hide
import Derived.Deep.QuietTactic
import Derived.OwnWalk
import Derived.Outline
import Derived.Laws.ResultCell
namespace Go.Proofs.Ytglpaeiebkacoaa
open Go.RowKit
set_option linter.unusedSimpArgs false

def wallOk (n : Int) : Bool := decide (0 ≤ n ∧ n ≤ 9007199254740991)
def stOk (a b : Int) : Bool := wallOk a && decide (0 ≤ b ∧ b ≤ 65535)
def stCmp (a b c d : Int) : Int := if a < c then -1 else if c < a then 1 else if b < d then -1 else if d < b then 1 else 0
def stNext (a b : Int) : Int × Int × Int :=
  if stOk a b = false then (0, 0, 80) else if b < 65535 then (a, b + 1, 0) else if a = 9007199254740991 then (0, 0, 82) else (a + 1, 0, 0)
def stPrev (a b : Int) : Int × Int × Int :=
  if stOk a b = false then (0, 0, 80) else if 0 < b then (a, b - 1, 0) else if a = 0 then (0, 0, 82) else (a - 1, 65535, 0)

set_option maxRecDepth 100000 in
theorem isWall_any (n : Int) (w : World) : Calls Try.prog 31 #[.int .i64 n] w fun e w' => e = .returned (.bool (wallOk n)) ∧ w = w' := by
  unfold wallOk
  by_cases h0 : 0 ≤ n
  · go_enter Try.func31, Try.ntmps31
    go_wp2
    go_ret
    simp [h0]
  · rw [decide_eq_false (by omega)]
    go_enter Try.func31, Try.ntmps31
    go_wp2
    go_ret
    simp
set_option maxRecDepth 100000 in
theorem risWall_any (n : Int) (w : World) : Calls Try.prog 23 #[.int .i64 n] w fun e w' => e = .returned (.bool (wallOk n)) ∧ w = w' := by
  unfold wallOk
  by_cases h0 : 0 ≤ n
  · go_enter Try.func23, Try.ntmps23
    go_wp2
    go_ret
    simp [h0]
  · rw [decide_eq_false (by omega)]
    go_enter Try.func23, Try.ntmps23
    go_wp2
    go_ret
    simp
theorem below1 (w : World) (o : Obj) : Below w.heap.size w (w.alloc o) := (Below.refl w.heap.size w).alloc (Nat.le_refl _) o
theorem below2 (w : World) (o o' : Obj) : Below w.heap.size w ((w.alloc o).alloc o') := (below1 w o).alloc (by simp) o'

set_option maxRecDepth 100000 in
theorem right_any (a b : Int) (w : World) : Calls Try.prog 10 #[.agg #[.int .i64 a, .int .i64 b]] w fun e w' => e = .returned (.bool (stOk a b)) ∧ Below w.heap.size w w' := by
  unfold stOk
  rcases hw : wallOk a with _ | _
  · go_enter Try.func10, Try.ntmps10
    go_wp2_with fail
    refine (isWall_any a _).mono ?_
    rintro e w1 ⟨rfl, rfl⟩
    rw [hw]
    go_wp2
    go_ret
    exact ⟨by simp, below1 _ _⟩
  · by_cases h0 : 0 ≤ b
    · go_enter Try.func10, Try.ntmps10
      go_wp2_with fail
      refine (isWall_any a _).mono ?_
      rintro e w1 ⟨rfl, rfl⟩
      rw [hw]
      go_wp2
      go_ret
      exact ⟨by simp [h0], below1 _ _⟩
    · go_enter Try.func10, Try.ntmps10
      go_wp2_with fail
      refine (isWall_any a _).mono ?_
      rintro e w1 ⟨rfl, rfl⟩
      rw [hw]
      go_wp2
      go_ret
      exact ⟨by simp; omega, below1 _ _⟩
set_option maxRecDepth 100000 in
theorem rright_any (a b : Int) (w : World) : Calls Try.prog 14 #[.agg #[.int .i64 a, .int .i64 b]] w fun e w' => e = .returned (.bool (stOk a b)) ∧ Below w.heap.size w w' := by
  unfold stOk
  rcases hw : wallOk a with _ | _
  · go_enter Try.func14, Try.ntmps14
    go_wp2_with fail
    refine (risWall_any a _).mono ?_
    rintro e w1 ⟨rfl, rfl⟩
    rw [hw]
    go_wp2
    go_ret
    exact ⟨by simp, below1 _ _⟩
  · by_cases h0 : 0 ≤ b
    · go_enter Try.func14, Try.ntmps14
      go_wp2_with fail
      refine (risWall_any a _).mono ?_
      rintro e w1 ⟨rfl, rfl⟩
      rw [hw]
      go_wp2
      go_ret
      exact ⟨by simp [h0], below1 _ _⟩
    · go_enter Try.func14, Try.ntmps14
      go_wp2_with fail
      refine (risWall_any a _).mono ?_
      rintro e w1 ⟨rfl, rfl⟩
      rw [hw]
      go_wp2
      go_ret
      exact ⟨by simp; omega, below1 _ _⟩

set_option maxRecDepth 100000 in
theorem isNaN_any (n : Int) (w : World) : Calls Try.prog 35 #[.int .i64 n] w fun e w' => e = .returned (.bool false) ∧ w = w' := by
  go_enter Try.func35, Try.ntmps35
  go_wp2
  go_ret
  simp
def icmp (a b : Int) : Int := if a < b then -1 else if b < a then 1 else 0
set_option maxRecDepth 100000 in
theorem icmp_any (a b : Int) (w : World) : Calls Try.prog 32 #[.int .i64 a, .int .i64 b] w fun e w' => e = .returned (.int .i64 (icmp a b)) ∧ w = w' := by
  unfold icmp
  rcases Int.lt_trichotomy a b with h | h | h
  · go_enter Try.func32, Try.ntmps32
    go_wp2_with fail
    refine (isNaN_any a _).mono ?_
    rintro e w1 ⟨rfl, rfl⟩
    go_wp2_with fail
    refine (isNaN_any b _).mono ?_
    rintro e w1 ⟨rfl, rfl⟩
    go_wp2
    go_ret
    simp [h]
  · subst h
    go_enter Try.func32, Try.ntmps32
    go_wp2_with fail
    refine (isNaN_any a _).mono ?_
    rintro e w1 ⟨rfl, rfl⟩
    go_wp2_with fail
    refine (isNaN_any a _).mono ?_
    rintro e w1 ⟨rfl, rfl⟩
    go_wp2
    go_ret
    simp
  · go_enter Try.func32, Try.ntmps32
    go_wp2_with fail
    refine (isNaN_any a _).mono ?_
    rintro e w1 ⟨rfl, rfl⟩
    go_wp2_with fail
    refine (isNaN_any b _).mono ?_
    rintro e w1 ⟨rfl, rfl⟩
    go_wp2
    go_ret
    simp [h, show ¬ a < b by omega]
set_option maxRecDepth 100000 in
theorem rcompare_any (a b c d : Int) (w : World) : Calls Try.prog 15 #[.agg #[.int .i64 a, .int .i64 b], .agg #[.int .i64 c, .int .i64 d]] w fun e w' => e = .returned (.int .i64 (stCmp a b c d)) ∧ Below w.heap.size w w' := by
  unfold stCmp
  rcases Int.lt_trichotomy a c with h | h | h
  · go_enter Try.func15, Try.ntmps15
    go_wp2
    go_ret
    exact ⟨by simp [h], below2 _ _ _⟩
  · subst h
    rcases Int.lt_trichotomy b d with h | h | h
    · go_enter Try.func15, Try.ntmps15
      go_wp2
      go_ret
      exact ⟨by simp [h], below2 _ _ _⟩
    · subst h
      go_enter Try.func15, Try.ntmps15
      go_wp2
      go_ret
      exact ⟨by simp, below2 _ _ _⟩
    · go_enter Try.func15, Try.ntmps15
      go_wp2
      go_ret
      exact ⟨by simp [h, show ¬ b < d by omega], below2 _ _ _⟩
  · go_enter Try.func15, Try.ntmps15
    go_wp2
    go_ret
    exact ⟨by simp [h, show ¬ a < c by omega], below2 _ _ _⟩
set_option maxHeartbeats 400000 in
set_option maxRecDepth 100000 in
theorem compare_any (a b c d : Int) (w : World) : Calls Try.prog 11 #[.agg #[.int .i64 a, .int .i64 b], .agg #[.int .i64 c, .int .i64 d]] w fun e w' => e = .returned (.int .i64 (stCmp a b c d)) ∧ Below w.heap.size w w' := by
  by_cases h1 : a = c
  · subst h1
    by_cases h2 : b = d
    · subst h2
      have hcmp : stCmp a b a b = 0 := by simp [stCmp]
      rw [hcmp]
      go_enter Try.func11, Try.ntmps11
      go_wp2
      go_ret
      exact ⟨rfl, below2 _ _ _⟩
    · have hcmp : stCmp a b a d = icmp b d := by simp [stCmp, icmp]
      rw [hcmp]
      go_enter Try.func11, Try.ntmps11
      go_wp2_with fail
      refine (icmp_any a a _).mono ?_
      rintro e w1 ⟨rfl, rfl⟩
      rw [show icmp a a = 0 by simp [icmp]]
      go_wp2_with fail
      refine (icmp_any b d _).mono ?_
      rintro e w1 ⟨rfl, rfl⟩
      go_wp2
      go_ret
      exact ⟨rfl, below2 _ _ _⟩
  · have hcmp : stCmp a b c d = icmp a c := by
      unfold stCmp icmp
      split
      · rfl
      · split
        · rfl
        · omega
    have hz : icmp a c ≠ 0 := by
      unfold icmp
      split
      · decide
      · split
        · decide
        · omega
    rw [hcmp]
    go_enter Try.func11, Try.ntmps11
    go_wp2_with fail
    refine (icmp_any a c _).mono ?_
    rintro e w1 ⟨rfl, rfl⟩
    go_wp2
    go_ret
    exact ⟨rfl, below2 _ _ _⟩

theorem after_call {w w1 : World} {a b c d : Value} {t : TypeId} (h : Below ((w.alloc (.cells #[a, b] t)).alloc (.cells #[c, d] t)).heap.size ((w.alloc (.cells #[a, b] t)).alloc (.cells #[c, d] t)) w1) :
    w1.cell? ⟨w.heap.size, 0, none⟩ = some a ∧ w1.cell? ⟨w.heap.size, 1, none⟩ = some b ∧ w1.cell? ⟨w.heap.size + 1, 0, none⟩ = some c ∧ w1.cell? ⟨w.heap.size + 1, 1, none⟩ = some d ∧
    w1.frozen? ⟨w.heap.size + 1, 0, none⟩ = false ∧ w1.frozen? ⟨w.heap.size + 1, 1, none⟩ = false ∧ Below w.heap.size w w1 := by
  have s1 : (w.alloc (.cells #[a, b] t)).heap.size = w.heap.size + 1 := by simp
  have s2 : ((w.alloc (.cells #[a, b] t)).alloc (.cells #[c, d] t)).heap.size = w.heap.size + 2 := by simp
  refine ⟨?_, ?_, ?_, ?_, ?_, ?_, (below2 w _ _).trans (h.mono (by omega))⟩
  · rw [h.cell (by simp; omega), World.cell?_alloc_lt _ _ _ (by simp), World.cell?_alloc_at _ _ _ _ rfl]; rfl
  · rw [h.cell (by simp; omega), World.cell?_alloc_lt _ _ _ (by simp), World.cell?_alloc_at _ _ _ _ rfl]; rfl
  · rw [h.cell (by simp), World.cell?_alloc_at _ _ _ _ s1.symm]; rfl
  · rw [h.cell (by simp), World.cell?_alloc_at _ _ _ _ s1.symm]; rfl
  · rw [h.frozen (by simp), World.frozen?_alloc_at _ _ _ _ s1.symm]
  · rw [h.frozen (by simp), World.frozen?_alloc_at _ _ _ _ s1.symm]

end Go.Proofs.Ytglpaeiebkacoaa
