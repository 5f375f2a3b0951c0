/-
  A clock in memory; the contracts of New and Last.
-/
import Derived.Test.YtglpaeiebkacoaaNext
import Derived.Test.YtglpaeiebkacoaaCell
namespace Go.Proofs.Ytglpaeiebkacoaa
open Go.RowKit

theorem Cell.new' {w : World} {n : Nat} (hn : n = w.heap.size) (C : Array Value) (t : TypeId) (i : Nat) (x : Value) (h : C[i]? = some x) : Cell (w.alloc (.cells C t)) n i x := by
  subst hn
  exact Cell.new w C t i x h
/-- a clock: its offset, its last stamp -/
def Clk (w : World) (g : Nat) (o x y : Int) : Prop := Cell w g 0 (.int .i64 o) ∧ Cell w g 1 (.int .i64 x) ∧ Cell w g 2 (.int .i64 y)
theorem Clk.lt {w : World} {g : Nat} {o x y : Int} (h : Clk w g o x y) : g < w.heap.size := h.1.lt
theorem Clk.keep {w w' : World} {g : Nat} {o x y : Int} (h : Clk w g o x y) (hb : Below w.heap.size w w') : Clk w' g o x y := ⟨h.1.keep hb, h.2.1.keep hb, h.2.2.keep hb⟩
theorem Clk.only {w w' : World} {g k : Nat} {o x y : Int} (h : Clk w g o x y) (hb : Only k w w') (hk : g ≠ k) : Clk w' g o x y := ⟨h.1.only hb hk, h.2.1.only hb hk, h.2.2.only hb hk⟩
theorem Clk.far {w : World} {g : Nat} {o x y : Int} (h : Clk w g o x y) {p : Addr} (hp : p.block ≠ g) (u : Value) : Clk (w.setCell p u) g o x y :=
  have e : ∀ i, p ≠ ⟨g, i, none⟩ := fun i h => hp (by rw [h])
  ⟨h.1.far (e 0) u, h.2.1.far (e 1) u, h.2.2.far (e 2) u⟩
theorem Clk.set {w : World} {g : Nat} {o x y : Int} (h : Clk w g o x y) (a b : Int) : Clk ((w.setCell ⟨g, 1, none⟩ (.int .i64 a)).setCell ⟨g, 2, none⟩ (.int .i64 b)) g o a b :=
  ⟨(h.1.far (by simp) _).far (by simp) _, (h.2.1.set _).far (by simp) _, (h.2.2.far (by simp) _).set _⟩

def nowR (x y wall : Int) : Int × Int × Int :=
  if wallOk wall = false then (0, 0, 1)
  else if stCmp wall 0 x y ≤ 0 then (if (stNext x y).2.2 = 0 then stNext x y else (0, 0, (stNext x y).2.2))
  else (wall, 0, 0)
def nowL (x y wall : Int) : Int × Int := if (nowR x y wall).2.2 = 0 then ((nowR x y wall).1, (nowR x y wall).2.1) else (x, y)

set_option maxHeartbeats 800000 in
set_option maxRecDepth 100000 in
theorem last_any (g : Nat) (o x y : Int) (w : World) (hk : Clk w g o x y) :
    Calls Try.prog 30 #[.pointer (some ⟨g, 0, none⟩)] w fun e w' => e = .returned (.agg #[.int .i64 x, .int .i64 y]) ∧ Below w.heap.size w w' := by
  obtain ⟨K0, K1, K2⟩ := hk
  have hg := K0.lt
  have k1 := (K1.alloc (.cells #[.int .i64 0, .int .i64 0] 23)).1
  have k2 := (K2.alloc (.cells #[.int .i64 0, .int .i64 0] 23)).1
  clear K0 K1 K2
  go_enter Try.func30, Try.ntmps30
  go_wp2
  refine bodyPost_ret (v := .agg #[.int .i64 x, .int .i64 y]) (by rw [results_cell1 rfl]; go_simp) rfl ?_
  exact ⟨rfl, (Below.refl _ _).alloc (Nat.le_refl _) _⟩
set_option maxHeartbeats 800000 in
set_option maxRecDepth 100000 in
theorem new_ok (o : Int) (w : World) (hw : wallOk o = true) :
    Calls Try.prog 22 #[.int .i64 o] w fun e w' => e = .returned (.tuple #[.pointer (some ⟨w.heap.size, 0, none⟩), .int .i64 0]) ∧ Clk w' w.heap.size o 0 0 ∧ Below w.heap.size w w' := by
  have hw := Lib.hid hw
  go_enter Try.func22, Try.ntmps22
  go_wp2_with (go_at_call 31; refine (isWall_any _ _).mono ?_; rintro e w1 ⟨rfl, rfl⟩; rw [hw.out])
  go_ret2
  exact ⟨rfl, ⟨Cell.new _ _ _ _ _ rfl, Cell.new _ _ _ _ _ rfl, Cell.new _ _ _ _ _ rfl⟩, (Below.refl _ _).alloc (Nat.le_refl _) _⟩
set_option maxHeartbeats 800000 in
set_option maxRecDepth 100000 in
theorem new_bad (o : Int) (w : World) (hw : wallOk o = false) :
    Calls Try.prog 22 #[.int .i64 o] w fun e w' => e = .returned (.tuple #[.pointer none, .int .i64 1]) ∧ w = w' := by
  have hw := Lib.hid hw
  go_enter Try.func22, Try.ntmps22
  go_wp2_with (go_at_call 31; refine (isWall_any _ _).mono ?_; rintro e w1 ⟨rfl, rfl⟩; rw [hw.out])
  go_ret2
  exact ⟨rfl, rfl⟩
end Go.Proofs.Ytglpaeiebkacoaa
