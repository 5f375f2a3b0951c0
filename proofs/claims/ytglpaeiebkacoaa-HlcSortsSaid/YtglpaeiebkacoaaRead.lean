/-
  The contract of hlc's Read.
-/
import Derived.Test.YtglpaeiebkacoaaNumber
import Derived.Test.YtglpaeiebkacoaaBytes
import Derived.Laws.ResultCell
namespace Go.Proofs.Ytglpaeiebkacoaa
open Go.RowKit

theorem after_one {w w1 : World} {c d : Value} {t : TypeId} (h : Below (w.alloc (.cells #[c, d] t)).heap.size (w.alloc (.cells #[c, d] t)) w1) :
    w1.cell? ⟨w.heap.size, 0, none⟩ = some c ∧ w1.cell? ⟨w.heap.size, 1, none⟩ = some d ∧ w1.frozen? ⟨w.heap.size, 0, none⟩ = false ∧ w1.frozen? ⟨w.heap.size, 1, none⟩ = false ∧ Below w.heap.size w w1 := by
  refine ⟨?_, ?_, ?_, ?_, (below1 w _).trans (h.mono (by simp))⟩
  · rw [h.cell (by simp), World.cell?_alloc_at _ _ _ _ rfl]; rfl
  · rw [h.cell (by simp), World.cell?_alloc_at _ _ _ _ rfl]; rfl
  · rw [h.frozen (by simp), World.frozen?_alloc_at _ _ _ _ rfl]
  · rw [h.frozen (by simp), World.frozen?_alloc_at _ _ _ _ rfl]

set_option maxHeartbeats 400000 in
set_option maxRecDepth 100000 in
theorem read_short (A : Option Addr) (n c : Nat) (w : World) (hn : n ≠ 9) : Calls Try.prog 20 #[.slice A n c] w fun e w' => e = .returned (.tuple #[.agg #[.int .i64 0, .int .i64 0], .int .i64 80]) ∧ Below w.heap.size w w' := by
  have hb : ((n : Int) != 9) = true := by rw [bne_iff_ne]; omega
  go_enter Try.func20, Try.ntmps20
  go_wp2
  refine bodyPost_ret (v := .tuple #[.agg #[.int .i64 0, .int .i64 0], .int .i64 80]) (by rw [results_cell_tmp rfl]; go_simp) rfl ?_
  exact ⟨rfl, by first | exact below1 _ _ | exact ((below1 w _).setCell (by simp) _).setCell (by simp) _⟩
set_option maxHeartbeats 400000 in
set_option maxRecDepth 100000 in
theorem rread_short (A : Option Addr) (n c : Nat) (w : World) (hn : n ≠ 9) : Calls Try.prog 21 #[.slice A n c] w fun e w' => e = .returned (.tuple #[.agg #[.int .i64 0, .int .i64 0], .int .i64 80]) ∧ Below w.heap.size w w' := by
  have hb : ((n : Int) != 9) = true := by rw [bne_iff_ne]; omega
  go_enter Try.func21, Try.ntmps21
  go_wp2
  refine bodyPost_ret (v := .tuple #[.agg #[.int .i64 0, .int .i64 0], .int .i64 80]) (by rw [results_cell_tmp rfl]; go_simp) rfl ?_
  exact ⟨rfl, by first | exact below1 _ _ | exact ((below1 w _).setCell (by simp) _).setCell (by simp) _⟩
end Go.Proofs.Ytglpaeiebkacoaa
