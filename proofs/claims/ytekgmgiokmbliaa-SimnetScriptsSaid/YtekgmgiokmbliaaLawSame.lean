/-
  The law's same: two lines that hold the same.
-/
import Derived.Test.YtekgmgiokmbliaaAtIn
set_option linter.unusedVariables false
namespace Go.Proofs.Ytekgmgiokmbliaa
open Go.RowKit

theorem RLine.len_cell {w : World} {M : Nat → Prop} {g base : Nat} {row : Option Nat} {last : Int} {C : List Cn} (h : RLine w M g base row last C) : ∃ A c, w.cell? ⟨g, 0, none⟩ = some (.slice A C.length c) := by
  obtain ⟨fv, P, hN, rfl, rfl, hB, hMg, hMr, hM⟩ := h
  obtain ⟨fA, fc, rfl⟩ := hN.own.form
  exact ⟨fA, fc, by have := hN.c1.1; simpa using this⟩
theorem RLine.cells_at {w : World} {M : Nat → Prop} {g base : Nat} {row : Option Nat} {last : Int} {C : List Cn} (h : RLine w M g base row last C) {k : Nat} (hk : k < C.length) : ∃ q c sA sc, w.cell? ⟨g, 0, none⟩ = some (.slice (some ⟨q, 0, none⟩) C.length c) ∧
    w.cell? ⟨q, k * 5, none⟩ = some (.int .i64 C[k].1) ∧ w.cell? ⟨q, k * 5 + 1, none⟩ = some (.int .i64 C[k].2.1) ∧ w.cell? ⟨q, k * 5 + 2, none⟩ = some (.int .i64 C[k].2.2.1) ∧ w.cell? ⟨q, k * 5 + 3, none⟩ = some (.int .i64 C[k].2.2.2.1) ∧ w.cell? ⟨q, k * 5 + 4, none⟩ = some (.slice sA C[k].2.2.2.2.length sc) ∧ Rd w w.heap.size sA C[k].2.2.2.2 := by
  obtain ⟨fv, P, hN, rfl, rfl, hB, hMg, hMr, hM⟩ := h
  obtain ⟨fA, fc, rfl⟩ := hN.own.form
  have hkP : k < P.length := by simpa using hk
  have hCk : (P.map cn)[k] = cn P[k] := by simp
  rw [hCk]
  rcases hN.own.evs with h0 | ⟨q, rfl, hq, hc⟩
  · have := congrArg List.length h0; simp at this; rw [this] at hkP; simp at hkP
  obtain ⟨c0, c1, c2, c3, c4⟩ := hc k (by simpa using hkP)
  rw [evAt_map hkP] at c0 c1 c2 c3 c4
  obtain ⟨sA, sc, hv, hl, hrd, hA, _⟩ := (hB _ (List.getElem_mem hkP)).parts
  exact ⟨q, fc, sA, sc, by have := hN.c1.1; simpa using this, c0, c1, c2, c3, by rw [c4, hv]; rfl, hrd⟩

set_option maxHeartbeats 600000 in
set_option maxRecDepth 100000 in
theorem lsame_any (M : Nat → Prop) (g gr base : Nat) (row rr : Option Nat) (last last2 : Int) (C : List Cn) (w : World) (hL : Line w M g base row last C) (hR : RLine w M gr base rr last2 C) (hlen : C.length ≤ 1000) :
    Calls Try.prog 23 #[.pointer (some ⟨g, 0, none⟩), .pointer (some ⟨gr, 0, none⟩)] w fun e w' => e = .returned (.bool true) ∧ Below w.heap.size w w' := by
  have LE := Lib.hid (len_line M g base row last C w hL)
  obtain ⟨rA, rc, k0⟩ := hR.len_cell
  obtain ⟨n, hn⟩ : ∃ n, n = C.length := ⟨_, rfl⟩
  replace LE := LE.out
  rw [← hn] at LE k0
  replace LE := Lib.hid LE
  have HN := Lib.hid hn
  have HLen := Lib.hid hlen
  rw [← hn] at hlen
  have HL := Lib.hid hL
  have HR := Lib.hid hR
  clear hL hR hn
  go_enter Try.func23, Try.ntmps23
  go_wp2_with fail
  refine LE.out.mono ?_
  rintro e w1 ⟨rfl, rfl⟩
  go_wp2
  go_loopw [6] (fun s6 wr => ∃ (j : Nat) (y : Int), s6 = .int .i64 y ∧ y = (j : Int) - 1 ∧ j ≤ n + 2 ∧ Hid (Line wr M g base row last C) ∧ Hid (RLine wr M gr base rr last2 C) ∧ Below w.heap.size w wr) (fun s6 _ => n + 2 - (intOf s6 + 1).toNat)
  case atStart => exact ⟨0, -1, rfl, rfl, by omega, HL, HR, Below.refl _ _⟩
  case round =>
    clear HL HR k0
    obtain ⟨j, y, rfl, hy, hj, HL, HR, hb⟩ := hrel
    have HY := Lib.hid hy
    have hy1 : -1 ≤ y := by omega
    have HJ := Lib.hid hj
    clear hy hj
    obtain ⟨rA, rc, k2⟩ := HR.out.len_cell
    rw [← HN.out] at k2
    by_cases hlt : y ≤ (n : Int)
    · by_cases hout : y < 0 ∨ y = (C.length : Int)
      · have AO := Lib.hid (at_out M g base row last C y wr HL.out hout)
        go_wp2_with fail
        refine AO.out.mono ?_
        rintro e w2 ⟨rfl, h2⟩
        have hb2 := h2.alloc h2.size (.cells #[.int .i64 0, .int .i64 0, .int .i64 0, .int .i64 0, .slice none 0 0] 32)
        have HL2 := Lib.hid (HL.out.below hb2)
        have HR2 := Lib.hid (HR.out.below hb2)
        have hb3 := hb.trans (hb2.mono hb.size)
        obtain ⟨rA, rc, k3⟩ := HR2.out.len_cell
        rw [← HN.out] at k3
        clear k2 hb AO h2 hb2 HL HR
        by_cases hneg : y < 0
        · have hyn : y = -1 := by omega
          subst hyn
          clear hout
          go_wp2
          go_roundw
          case rel => exact ⟨1, 0, by go_num, by omega, by omega, HL2, HR2, hb3⟩
          case measure => simp [intOf]
        · have hyn : y = (n : Int) := by have := HN.out; omega
          subst hyn
          clear hout
          go_wp2
          go_roundw
          case rel => exact ⟨n + 2, (n : Int) + 1, by go_num, by omega, by omega, HL2, HR2, hb3⟩
          case measure => simp [intOf]; omega
      · obtain ⟨k, hyk⟩ : ∃ k : Nat, y = (k : Int) := ⟨y.toNat, by omega⟩
        subst hyk
        have hk : k < C.length := by have := HN.out; omega
        have hkn : k < n := by have := HN.out; omega
        have AI := Lib.hid (at_in M g base row last C k wr HL.out hk HLen.out)
        obtain ⟨Ck, hCk⟩ : ∃ c, c = C[k] := ⟨_, rfl⟩
        replace AI := AI.out
        rw [← hCk] at AI
        obtain ⟨ci, cf, ct, ck, cl⟩ := Ck
        simp only [cnV] at AI
        replace AI := Lib.hid AI
        have HCk := Lib.hid hCk
        clear hCk hout
        go_wp2_with fail
        refine AI.out.mono ?_
        rintro e w2 ⟨mA, mc, rfl, hrm, h2⟩
        have hV := below1' w2 (.cells #[.int .i64 ci, .int .i64 cf, .int .i64 ct, .int .i64 ck, .slice mA cl.length mc] 32)
        have V0 := Cell.new w2 #[.int .i64 ci, .int .i64 cf, .int .i64 ct, .int .i64 ck, .slice mA cl.length mc] 32 0 _ rfl
        have V1 := Cell.new w2 #[.int .i64 ci, .int .i64 cf, .int .i64 ct, .int .i64 ck, .slice mA cl.length mc] 32 1 _ rfl
        have V2 := Cell.new w2 #[.int .i64 ci, .int .i64 cf, .int .i64 ct, .int .i64 ck, .slice mA cl.length mc] 32 2 _ rfl
        have V3 := Cell.new w2 #[.int .i64 ci, .int .i64 cf, .int .i64 ct, .int .i64 ck, .slice mA cl.length mc] 32 3 _ rfl
        have V4 := Cell.new w2 #[.int .i64 ci, .int .i64 cf, .int .i64 ct, .int .i64 ck, .slice mA cl.length mc] 32 4 _ rfl
        have hb2 := h2.trans (hV.mono h2.size)
        have HL2 := Lib.hid (HL.out.below hb2)
        have HR2 := Lib.hid (HR.out.below hb2)
        have hb3 := hb.trans (hb2.mono hb.size)
        have HM := Lib.hid ((hrm.below hV).more hV.size)
        obtain ⟨q, fc, sA, sc, k3, c0, c1, c2, c3, c4, hrd⟩ := HR2.out.cells_at hk
        rw [← HN.out] at k3
        rw [← HCk.out] at c0 c1 c2 c3 c4 hrd
        simp only at c0 c1 c2 c3 c4 hrd
        have HRD := Lib.hid hrd
        clear hb h2 hV hb2 HL HR hrm AI hrd k2
        replace V0 := V0.1
        replace V1 := V1.1
        replace V2 := V2.1
        replace V3 := V3.1
        replace V4 := V4.1
        have SA := Lib.hid (fun w h1 h2 => same_any (ci, cf, ct, ck, cl) (ci, cf, ct, ck, cl) mA mc sA sc w h1 h2)
        replace SA := SA.out
        rw [decide_eq_true (rfl : ((ci, cf, ct, ck, cl) : Cn) = (ci, cf, ct, ck, cl))] at SA
        replace SA := Lib.hid SA
        have i1 : (k : Int) < (n : Int) := by omega
        have hk1 : k ≤ 1000 := by omega
        have hne : ((k : Int) == (n : Int)) = false := by rw [beq_eq_false_iff_ne]; omega
        go_wp2
        go_region_law (go_simp; go_at_call 15; refine (SA.out (w2.alloc (.cells #[.int .i64 ci, .int .i64 cf, .int .i64 ct, .int .i64 ck, .slice mA cl.length mc] 32)).drew HM.out HRD.out).mono ?_; rintro e w8 ⟨rfl, h8⟩; have h8 := below_of_drew h8)
        all_goals
          have HL3 := Lib.hid (HL2.out.below h8)
          have HR3 := Lib.hid (HR2.out.below h8)
          have hb4 := hb3.trans (h8.mono hb3.size)
          clear HL2 HR2 hb3 h8 c0 c1 c2 c3 c4 V0 V1 V2 V3 V4 k3 SA
          go_wp2
          go_roundw
          case rel => exact ⟨k + 2, (k : Int) + 1, by go_num, by omega, by omega, HL3, HR3, hb4⟩
          case measure => simp [intOf]; omega
    · go_wp2
      go_ret
      exact ⟨rfl, hb⟩
end Go.Proofs.Ytekgmgiokmbliaa
