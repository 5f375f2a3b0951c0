/-
  SameInts of two lists that are the same; Len, At.
-/
import Derived.Test.YtekgmgiokmbliaaTo
set_option linter.unusedVariables false
namespace Go.Proofs.Ytekgmgiokmbliaa
open Go.RowKit

set_option maxHeartbeats 1600000 in
set_option maxRecDepth 100000 in
theorem sameints_eq (G : List Int) (A1 A2 : Option Addr) (c1 c2 : Nat) (b1 b2 : Nat) (w : World) (h1 : OwnI w b1 (.slice A1 G.length c1) G) (h2 : OwnI w b2 (.slice A2 G.length c2) G) (hl : G.length ≤ 1000) :
    Calls Try.prog 22 #[.slice A1 G.length c1, .slice A2 G.length c2] w fun e w' => e = .returned (.bool true) ∧ Below w.heap.size w w' := by
  have H1 := Lib.hid (fun k (hk : k < G.length) => h1.at hk)
  have H2 := Lib.hid (fun k (hk : k < G.length) => h2.at hk)
  obtain ⟨n, hn⟩ : ∃ n, n = G.length := ⟨_, rfl⟩
  have HN := Lib.hid hn
  rw [← hn] at hl
  rw [← hn]
  clear h1 h2 hn
  go_enter Try.func22, Try.ntmps22
  go_wp2
  go_loopw [5] (fun s5 wr => ∃ k : Nat, s5 = .int .i64 k ∧ k ≤ n ∧ Below w.heap.size w wr ∧ ∃ d, wr = w.drewN d) (fun s5 _ => n - (intOf s5).toNat)
  case atStart => exact ⟨0, rfl, by omega, Below.refl _ _, 0, rfl⟩
  case round =>
    obtain ⟨k, rfl, hk, hb, d, rfl⟩ := hrel
    by_cases hlt : k < n
    · have hkl : k < G.length := by have := HN.out; omega
      obtain ⟨q1, rfl, d1⟩ := H1.out k hkl
      obtain ⟨q2, rfl, d2⟩ := H2.out k hkl
      obtain ⟨y, hy⟩ : ∃ y, y = G[k] := ⟨_, rfl⟩
      rw [← hy] at d1 d2
      clear hy
      have e1 : (w.drewN d).cell? ⟨q1, k, none⟩ = some (.int .i64 y) := d1
      have e2 : (w.drewN d).cell? ⟨q2, k, none⟩ = some (.int .i64 y) := d2
      have i1 : (k : Int) < (n : Int) := by omega
      go_wp2
      go_quiet (fail)
      go_wp2
      go_roundw
      case rel => exact ⟨k + 1, by go_num, by omega, below_drewN (Below.refl _ _) _, d + nq, by simp⟩
      case measure => simp [intOf]; omega
    · have hkn : k = n := by omega
      subst hkn
      go_wp2
      go_ret
      exact ⟨rfl, hb⟩

set_option maxRecDepth 100000 in
theorem len_line (M : Nat → Prop) (g base : Nat) (row : Option Nat) (last : Int) (C : List Cn) (w : World) (hL : Line w M g base row last C) :
    Calls Try.prog 38 #[.pointer (some ⟨g, 0, none⟩)] w fun e w' => e = .returned (.int .i64 C.length) ∧ w = w' := by
  obtain ⟨fv, P, hN, rfl, rfl, hB, hMg, hMr, hM⟩ := hL
  obtain ⟨fA, fc, rfl⟩ := hN.own.form
  have k1 := hN.c1.1
  rw [List.length_map] at k1
  rw [List.length_map]
  clear hN hB hMg hMr hM
  go_enter Try.func38, Try.ntmps38
  go_wp2
  go_ret
  exact ⟨rfl, rfl⟩

set_option maxHeartbeats 1600000 in
set_option maxRecDepth 100000 in
theorem at_out (M : Nat → Prop) (g base : Nat) (row : Option Nat) (last : Int) (C : List Cn) (x : Int) (w : World) (hL : Line w M g base row last C) (hx : x < 0 ∨ x = (C.length : Int)) :
    Calls Try.prog 39 #[.pointer (some ⟨g, 0, none⟩), .int .i64 x] w fun e w' => e = .returned (.tuple #[.agg #[.int .i64 0, .int .i64 0, .int .i64 0, .int .i64 0, .slice none 0 0], .bool false]) ∧ Below w.heap.size w w' := by
  obtain ⟨fv, P, hN, rfl, rfl, hB, hMg, hMr, hM⟩ := hL
  obtain ⟨fA, fc, rfl⟩ := hN.own.form
  have hb := below1' w (.cells #[.int .i64 0, .int .i64 0, .int .i64 0, .int .i64 0, .slice none 0 0] 32)
  have B := fun (j : Nat) (x : Value) (h : (#[.int .i64 0, .int .i64 0, .int .i64 0, .int .i64 0, .slice none 0 0] : Array Value)[j]? = some x) => Cell.new w #[.int .i64 0, .int .i64 0, .int .i64 0, .int .i64 0, .slice none 0 0] 32 j x h
  have B0 := B 0 _ rfl
  have B1 := B 1 _ rfl
  have B2 := B 2 _ rfl
  have B3 := B 3 _ rfl
  have B4 := B 4 _ rfl
  have k1 := (hN.c1.keep hb).1
  have k0 := hN.c1.1
  rw [List.length_map] at hx k1 k0
  obtain ⟨n, hn⟩ : ∃ n, n = P.length := ⟨_, rfl⟩
  rw [← hn] at k1 hx k0
  clear B hN hB hMg hMr hM hn
  obtain ⟨b0, f0⟩ := B0
  obtain ⟨b1, f1⟩ := B1
  obtain ⟨b2, f2⟩ := B2
  obtain ⟨b3, f3⟩ := B3
  obtain ⟨b4, f4⟩ := B4
  by_cases hneg : x < 0
  · clear hx
    go_enter Try.func39, Try.ntmps39
    go_wp2
    refine bodyPost_ret (by rw [results_cell_tmp rfl]; go_simp) rfl ⟨rfl, hb⟩
  · have hx : x = (n : Int) := by omega
    subst hx
    go_enter Try.func39, Try.ntmps39
    go_wp2
    refine bodyPost_ret (by rw [results_cell_tmp rfl]; go_simp) rfl ⟨rfl, hb⟩
end Go.Proofs.Ytekgmgiokmbliaa
