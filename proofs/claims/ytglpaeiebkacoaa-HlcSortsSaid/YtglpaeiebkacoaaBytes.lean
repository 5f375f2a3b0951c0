/-
  The contract of hlc's Bytes.
-/
import Derived.Test.YtglpaeiebkacoaaBig
import Derived.Deep.RegionHeld3
namespace Go.Proofs.Ytglpaeiebkacoaa
open Go.RowKit

def stBytes (a b : Nat) : List UInt8 := beB a 7 ++ beB b 2

theorem kept0 {v w : World} {k i : Nat} {x : Value} (hb : Below v.heap.size v w) (h : v.cell? ⟨k, i, none⟩ = some x) : w.cell? ⟨k, i, none⟩ = some x :=
  (hb.cell (World.block_lt_of_cell? v _ h)).trans h

theorem results2 {fn : Func} {t u : Tmp} (h : fn.results = #[.tmp t, .tmp u]) (tmps : Array Value) (P : Program) (w : World) :
    (results fn tmps).run P w = .ok (.tuple #[tmps.getD t undef, tmps.getD u undef]) w := by
  simp [results, h]

set_option maxHeartbeats 800000 in
set_option maxRecDepth 100000 in
theorem bytes_bad (a b : Int) (w : World) (h : stOk a b = false) : Calls Try.prog 18 #[.agg #[.int .i64 a, .int .i64 b]] w fun e w' => e = .returned (.tuple #[.slice none 0 0, .int .i64 80]) ∧ Below w.heap.size w w' := by
  go_enter Try.func18, Try.ntmps18
  go_wp2_with fail
  refine (right_any _ _ _).mono ?_
  rintro e w1 ⟨rfl, hb1⟩
  rw [h]
  go_wp2
  refine bodyPost_ret (results2 rfl _ _ _) rfl ?_
  exact ⟨rfl, (below1 _ _).trans (hb1.mono (by simp))⟩

theorem Own.mono {w : World} {b b' : Nat} {v : Value} {l : List UInt8} (h : Own w b v l) (hb : b' ≤ b) : Own w b' v l := by
  unfold Own at h ⊢
  refine ⟨h.1, ?_⟩
  rcases h.2 with hn | ⟨g, cap, cur, hv, hg, r⟩
  · exact .inl hn
  · exact .inr ⟨g, cap, cur, hv, Nat.le_trans hb hg, r⟩

set_option maxHeartbeats 400000 in
set_option maxRecDepth 100000 in
theorem bytes_ok (a b : Nat) (w : World) (h : stOk a b = true) : Calls Try.prog 18 #[.agg #[.int .i64 a, .int .i64 b]] w fun e w' => ∃ v, e = .returned (.tuple #[v, .int .i64 0]) ∧ Own w' w.heap.size v (stBytes a b) ∧ Below w.heap.size w w' := by
  obtain ⟨M, hM⟩ : ∃ M, M = stBytes a b := ⟨_, rfl⟩
  rw [← hM]
  go_enter Try.func18, Try.ntmps18
  go_wp2_with fail
  refine (right_any _ _ _).mono ?_
  rintro e w1 ⟨rfl, hb1⟩
  have z0 := kept0 hb1 (show (w.alloc (.cells #[.int .i64 (a : Int), .int .i64 (b : Int)] 23)).cell? ⟨w.heap.size, 0, none⟩ = some (.int .i64 (a : Int)) by rw [World.cell?_alloc_at _ _ _ _ rfl]; rfl)
  have z1 := kept0 hb1 (show (w.alloc (.cells #[.int .i64 (a : Int), .int .i64 (b : Int)] 23)).cell? ⟨w.heap.size, 1, none⟩ = some (.int .i64 (b : Int)) by rw [World.cell?_alloc_at _ _ _ _ rfl]; rfl)
  have b01 : Below w.heap.size w w1 := (below1 _ _).trans (hb1.mono (by simp))
  obtain ⟨L, hL⟩ : ∃ L, L = beB a 7 := ⟨_, rfl⟩
  have hl : L.length = 7 := by rw [hL, beB_len]
  have C1 : ∀ w' : World, w1.heap.size ≤ w'.heap.size → Calls Try.prog 33 #[.slice none 0 0, .int .i64 (a : Int), .int .i64 7] w' fun e w'' => ∃ v', e = .returned v' ∧ Own w'' w1.heap.size v' L ∧ Below w1.heap.size w' w'' := fun w' hs => by
    rw [hL, ← List.nil_append (beB a 7)]
    exact bigEnd_at a 7 w1.heap.size _ _ rfl rfl _ [] w' (by decide) (Own.nil_ _ _) hs (by simp)
  have C2 : ∀ (v : Value) (w' : World), Own w' w1.heap.size v L → w1.heap.size ≤ w'.heap.size → Calls Try.prog 33 #[v, .int .i64 (b : Int), .int .i64 2] w' fun e w'' => ∃ v', e = .returned v' ∧ Own w'' w1.heap.size v' M ∧ Below w1.heap.size w' w'' := fun v w' ho hs => by
    rw [hM]
    unfold stBytes
    rw [← hL]
    exact bigEnd_at b 2 w1.heap.size _ _ rfl rfl v L w' (by decide) ho hs (by omega)
  have C1 := Lib.hid C1
  have C2 := Lib.hid C2
  clear hL hM hb1 hl
  rw [h]
  go_wp2_with fail
  go_region_held3 (fun w' => w'.cell? ⟨w.heap.size, 0, none⟩ = some (.int .i64 (a : Int)) ∧ w'.cell? ⟨w.heap.size, 1, none⟩ = some (.int .i64 (b : Int))) (first | exact ⟨kept0 b13 z0, kept0 b13 z1⟩ | exact ⟨kept0 b12 z0, kept0 b12 z1⟩ | exact ⟨z0, z1⟩ | go_keep)
    (first
      | (go_at_call_of 33 (Value.int .i64 7); refine (C1.out _ (by exact Nat.le_refl _)).mono ?_; rintro e w2 ⟨v2, rfl, o2, hb2⟩; have b12 : Below w1.heap.size w1 w2 := ⟨hb2.os, hb2.tape, hb2.output, hb2.size, hb2.block⟩)
      | (go_at_call_of 33 (Value.int .i64 2); refine (C2.out _ _ (by exact o2) (by exact b12.size)).mono ?_; rintro e w3 ⟨v3, rfl, o3, hb3⟩; have b13 : Below w1.heap.size w1 w3 := b12.trans ⟨hb3.os, hb3.tape, hb3.output, hb3.size, hb3.block⟩))
  all_goals
    go_wp2
    refine bodyPost_ret (results2 rfl _ _ _) rfl ?_
    exact ⟨_, rfl, o3.mono b01.size, b01.trans (b13.mono b01.size)⟩
end Go.Proofs.Ytglpaeiebkacoaa
