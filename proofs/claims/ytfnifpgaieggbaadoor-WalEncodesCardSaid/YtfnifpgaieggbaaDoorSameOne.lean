/-
  The reference's Same of two lists of one batch that is the same.
-/
import Derived.Test.YtfnifpgaieggbaaDoorSameOps
import Derived.StillTailTactics
set_option linter.unusedVariables false
namespace Go.Proofs.YtfnifpgaieggbaaDoor
open Go.RowKit

set_option maxHeartbeats 3200000 in
set_option maxRecDepth 100000 in
theorem same_one (sq : Nat) (l : List OpD) (A1 A2 : Option Addr) (g1 g2 c1 c2 d1 d2 : Nat) (w : World) (h1 : OpsRd w w.heap.size A1 l) (h2 : OpsRd w w.heap.size A2 l) (hl : l.length ≤ 2513169434843)
    (x0 : w.cell? ⟨g1, 0, none⟩ = some (.int .u64 sq)) (x1 : w.cell? ⟨g1, 1, none⟩ = some (.slice A1 l.length c1)) (y0 : w.cell? ⟨g2, 0, none⟩ = some (.int .u64 sq)) (y1 : w.cell? ⟨g2, 1, none⟩ = some (.slice A2 l.length c2)) :
    Calls Tryd.prog 10 #[.slice (some ⟨g1, 0, none⟩) 1 d1, .slice (some ⟨g2, 0, none⟩) 1 d2] w fun e w' => e = .returned (.bool true) ∧ Below w.heap.size w w' := by
  have HX0 := Lib.hid (And.intro x0 (And.intro x1 (And.intro y0 y1)))
  have HH := Lib.hid (And.intro h1 (And.intro h2 hl))
  clear x0 x1 y0 y1 h1 h2 hl
  go_enter Tryd.func10, Tryd.ntmps10
  go_wp2
  go_loopw [5] (fun s5 wr => ∃ k : Nat, s5 = .int .i64 k ∧ k ≤ 1 ∧ Below w.heap.size w wr) (fun s5 _ => 1 - (intOf s5).toNat)
  case atStart => exact ⟨0, rfl, by omega, Below.refl _ _⟩
  case round =>
    obtain ⟨k, rfl, hk, hb⟩ := hrel
    obtain rfl | rfl : k = 0 ∨ k = 1 := by omega
    · obtain ⟨x0, x1, y0, y1⟩ := HX0.out
      obtain ⟨h1, h2, hl⟩ := HH.out
      have lt : ∀ {g i x}, w.cell? ⟨g, i, none⟩ = some x → g < w.heap.size := fun h => World.block_lt_of_cell? w _ h
      have z0 := (hb.cell (p := ⟨g1, 0, none⟩) (lt x0)).trans x0
      have z1 := (hb.cell (p := ⟨g1, 1, none⟩) (lt x0)).trans x1
      have u0 := (hb.cell (p := ⟨g2, 0, none⟩) (lt y0)).trans y0
      have u1 := (hb.cell (p := ⟨g2, 1, none⟩) (lt y0)).trans y1
      have HC := Lib.hid (sameops_yes l A1 A2 c1 c2 wr.drew ((h1.below (below_drew hb)).more hb.size) ((h2.below (below_drew hb)).more hb.size) hl)
      obtain ⟨m, hm⟩ : ∃ m, m = l.length := ⟨_, rfl⟩
      rw [← hm] at z1 u1 HC
      have HB := Lib.hid hb
      clear x0 x1 y0 y1 h1 h2 hl lt hm hb
      go_wp2
      go_still_tail 10, (by kernel_rfl)
      change wpList _ _ _ _ _ wr.drew
      go_wp2_with fail
      refine HC.out.mono ?_
      rintro e w2 ⟨rfl, h2⟩
      have HB2 := Lib.hid ((below_drew HB.out).trans (h2.mono HB.out.size))
      have v0 := (h2.cell (p := ⟨g1, 0, none⟩) (World.block_lt_of_cell? _ _ z0)).trans z0
      have v1 := (h2.cell (p := ⟨g2, 0, none⟩) (World.block_lt_of_cell? _ _ u0)).trans u0
      clear z0 z1 u0 u1 h2 HB HC
      go_wp2
      go_quiet (fail)
      go_wp2
      go_roundw
      case rel => exact ⟨1, by go_num, by omega, below_drewN HB2.out _⟩
      case measure => simp [intOf]
    · go_wp2
      go_ret
      exact ⟨rfl, hb⟩
end Go.Proofs.YtfnifpgaieggbaaDoor
