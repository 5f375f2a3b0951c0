/-
  The walk of the law HlcRises.
-/
import Derived.Test.YtglpaeiebkacoaaRises
import Derived.Test.YtglpaeiebkacoaaOpenSteps
import Derived.Test.YtglpaeiebkacoaaLawStamps
set_option linter.unusedVariables false
namespace Go.Proofs.Ytglpaeiebkacoaa
open Go.RowKit

set_option maxHeartbeats 1600000 in
set_option maxRecDepth 100000 in
theorem rises_bad (o : Int) (A : Option Addr) (n c : Nat) (w : World) (ho : wallOk o = false) :
    Calls Try.prog 7 #[.int .i64 o, .slice A n c] w fun e w' => e = .returned (.bool true) ∧ Below w.heap.size w w' := by
  have NB := Lib.hid (fun w => new_bad o w ho)
  have IO := Lib.hid (risWall_any o)
  rw [ho] at IO
  clear ho
  go_enter Try.func7, Try.ntmps7
  go_wp2_with fail
  refine (awake_any _).mono ?_
  rintro e W1 ⟨rfl, hb⟩
  go_wp2_with fail
  refine (NB.out _).mono ?_
  rintro e W2 ⟨rfl, rfl⟩
  go_wp2_with fail
  refine (IO.out _).mono ?_
  rintro e W2 ⟨rfl, rfl⟩
  go_wp2
  go_ret
  exact ⟨rfl, hb⟩

set_option maxHeartbeats 3200000 in
set_option maxRecDepth 100000 in
theorem rises_ok (o : Int) (A : Option Addr) (n c : Nat) (f : Nat → Int × Int × Int × Int) (w : World) (ho : wallOk o = true) (hS : Steps w A n f) (hA : ∀ g o, A = some ⟨g, o, none⟩ → n ≠ 0 → g < w.heap.size) (hn : n ≤ maxLen) :
    Calls Try.prog 7 #[.int .i64 o, .slice A n c] w fun e w' => e = .returned (.bool true) ∧ Below w.heap.size w w' := by
  have NB := Lib.hid (fun w => new_ok o w ho)
  have IO := Lib.hid (risWall_any o)
  rw [ho] at IO
  have HS := Lib.hid hS
  have HA := Lib.hid hA
  have hn' : n ≤ 9223372036854775807 := hn
  clear hS hA hn ho
  go_enter Try.func7, Try.ntmps7
  go_wp2_with fail
  refine (awake_any _).mono ?_
  rintro e W1 ⟨rfl, hb⟩
  have hs9 := hb.size
  go_wp2_with fail
  refine (NB.out _).mono ?_
  rintro e W2 ⟨rfl, CK, h2⟩
  have hb := hb.trans (h2.mono hb.size)
  have hs1 := h2.size
  have hcl := CK.lt
  clear h2
  go_wp2_with fail
  refine (IO.out _).mono ?_
  rintro e W3 ⟨rfl, rfl⟩
  go_wp2
  have T0 := Cell.new W2 #[.int .i64 0, .int .i64 0] 23 0 _ rfl
  have T1 := Cell.new W2 #[.int .i64 0, .int .i64 0] 23 1 _ rfl
  have CK := CK.keep (below1 W2 (.cells #[.int .i64 0, .int .i64 0] 23))
  have hs0 := hb.size
  have hb := hb.alloc hs0 (.cells #[.int .i64 0, .int .i64 0] 23)
  obtain ⟨g, hg⟩ : ∃ g, g = W1.heap.size := ⟨_, rfl⟩
  obtain ⟨t, ht⟩ : ∃ t, t = W2.heap.size := ⟨_, rfl⟩
  obtain ⟨V, hV⟩ : ∃ V, V = W2.alloc (.cells #[.int .i64 0, .int .i64 0] 23) := ⟨_, rfl⟩
  have hgw : w.heap.size ≤ g := by omega
  have hgt : g < t := by omega
  rw [← hV] at T0 T1 CK hb
  rw [← hV, ← hg, ← ht]
  rw [← ht] at T0 T1
  rw [← hg] at CK
  clear hg ht hV hs1 hs0 hcl hs9
  go_loopw [10] (fun i wr => ∃ (k : Nat) (x y : Int), k ≤ n ∧ i = .int .i64 k ∧ Clk wr g o x y ∧ stOk x y = true ∧ Cell wr t 0 (.int .i64 x) ∧ Cell wr t 1 (.int .i64 y) ∧ Below w.heap.size w wr) (fun i _ => n - (intOf i).toNat)
  case atStart => exact ⟨0, 0, 0, by omega, rfl, CK, by decide, T0, T1, hb⟩
  case round =>
    obtain ⟨k, x, y, hk, rfl, CK, hst, T0, T1, hb⟩ := hrel
    by_cases hlt : k < n
    · -- ROUND
      rcases HS.out with h0 | ⟨gs, os, rfl, hcell⟩
      · omega
      have hgs := HA.out gs os rfl (by omega)
      obtain ⟨c0, c1, c2, c3⟩ := hcell k hlt
      clear hcell
      have c0 := (hb.cell (p := ⟨gs, os + k * 4, none⟩) hgs).trans c0
      have c1 := (hb.cell (p := ⟨gs, os + k * 4 + 1, none⟩) hgs).trans c1
      have c2 := (hb.cell (p := ⟨gs, os + k * 4 + 2, none⟩) hgs).trans c2
      have c3 := (hb.cell (p := ⟨gs, os + k * 4 + 3, none⟩) hgs).trans c3
      obtain ⟨⟨d, wl, a, b⟩, hfk⟩ : ∃ q, q = f k := ⟨_, rfl⟩
      rw [← hfk] at c0 c1 c2 c3
      simp only at c0 c1 c2 c3
      clear hfk
      have P0 := Cell.new wr #[.int .i64 d, .int .i64 wl, .int .i64 a, .int .i64 b] 44 0 (.int .i64 d) rfl
      have P1 := Cell.new wr #[.int .i64 d, .int .i64 wl, .int .i64 a, .int .i64 b] 44 1 (.int .i64 wl) rfl
      have P2 := Cell.new wr #[.int .i64 d, .int .i64 wl, .int .i64 a, .int .i64 b] 44 2 (.int .i64 a) rfl
      have P3 := Cell.new wr #[.int .i64 d, .int .i64 wl, .int .i64 a, .int .i64 b] 44 3 (.int .i64 b) rfl
      have hX := below1 wr (.cells #[.int .i64 d, .int .i64 wl, .int .i64 a, .int .i64 b] 44)
      have hCl := CK.lt
      have CK := CK.keep hX
      have T0 := T0.keep hX
      have T1 := T1.keep hX
      have hb := hb.trans (hX.mono hb.size)
      by_cases hd : d = 1
      · subst hd
        by_cases he : learnE o a b wl = 0
        · have hok := learn_right he
          by_cases hN : 0 < stCmp a b x y
          · have hll : learnL o x y a b wl = (a, b) := by unfold learnL; rw [he, if_pos ⟨rfl, hN⟩]
            have LE := Lib.hid (fun w hk => learn_any g o x y a b wl w hk)
            have CP := Lib.hid (rcompare_any a b x y)
            rw [he] at LE
            rw [hll] at LE
            obtain ⟨N, hN'⟩ : ∃ N, N = stCmp a b x y := ⟨_, rfl⟩
            rw [← hN'] at CP hN
            clear hN'
            have hNd : decide (0 < N) = true := decide_eq_true hN
            have p1 := P1.1
            have p2 := P2.1
            have p3 := P3.1
            have p0 := P0.1
            go_wp2_with fail
            refine (LE.out _ CK).mono ?_
            rintro e W4 ⟨rfl, CK, h4⟩
            have hgl := hCl
            clear p0 p1 p2 p3
            have P2 := P2.only h4 (by omega)
            have P3 := P3.only h4 (by omega)
            have T0 := T0.only h4 (by omega)
            have T1 := T1.only h4 (by omega)
            have hb := hb.trans (h4.below hgw hb.size)
            clear h4
            have p2 := P2.1
            have p3 := P3.1
            have t0 := T0.1
            have t1 := T1.1
            go_wp2_with fail
            refine (CP.out _).mono ?_
            rintro e W5 ⟨rfl, h5⟩
            clear p2 p3 t0 t1
            have P2 := P2.keep h5
            have P3 := P3.keep h5
            have T0 := T0.keep h5
            have T1 := T1.keep h5
            have CK := CK.keep h5
            have hb := hb.trans (h5.mono hb.size)
            clear h5
            have p2 := P2.1
            have p3 := P3.1
            have t0 := T0.1
            have t1 := T1.1
            have f0 := T0.2
            have f1 := T1.2
            go_wp2
            go_roundw
            case rel => exact ⟨k + 1, a, b, by omega, by go_num, (CK.far (by simp; omega) _).far (by simp; omega) _, hok, (T0.set _).far (by simp) _, (T1.far (by simp) _).set _, (hb.setCell (by simp; omega) _).setCell (by simp; omega) _⟩
            case measure => simp [intOf]; omega
          · have hll : learnL o x y a b wl = (x, y) := by unfold learnL; rw [if_neg (fun h => hN h.2)]
            have LE := Lib.hid (fun w hk => learn_any g o x y a b wl w hk)
            have CP := Lib.hid (rcompare_any a b x y)
            rw [he] at LE
            rw [hll] at LE
            obtain ⟨N, hN'⟩ : ∃ N, N = stCmp a b x y := ⟨_, rfl⟩
            rw [← hN'] at CP hN
            clear hN'
            have hNd : decide (0 < N) = false := decide_eq_false hN
            have p1 := P1.1
            have p2 := P2.1
            have p3 := P3.1
            have p0 := P0.1
            go_wp2_with fail
            refine (LE.out _ CK).mono ?_
            rintro e W4 ⟨rfl, CK, h4⟩
            have hgl := hCl
            clear p0 p1 p2 p3
            have P2 := P2.only h4 (by omega)
            have P3 := P3.only h4 (by omega)
            have T0 := T0.only h4 (by omega)
            have T1 := T1.only h4 (by omega)
            have hb := hb.trans (h4.below hgw hb.size)
            clear h4
            have p2 := P2.1
            have p3 := P3.1
            have t0 := T0.1
            have t1 := T1.1
            go_wp2_with fail
            refine (CP.out _).mono ?_
            rintro e W5 ⟨rfl, h5⟩
            clear p2 p3 t0 t1
            have P2 := P2.keep h5
            have P3 := P3.keep h5
            have T0 := T0.keep h5
            have T1 := T1.keep h5
            have CK := CK.keep h5
            have hb := hb.trans (h5.mono hb.size)
            clear h5
            have p2 := P2.1
            have p3 := P3.1
            have t0 := T0.1
            have t1 := T1.1
            have f0 := T0.2
            have f1 := T1.2
            go_wp2
            go_roundw
            case rel => exact ⟨k + 1, x, y, by omega, by go_num, CK, hst, T0, T1, hb⟩
            case measure => simp [intOf]; omega
        · have hll : learnL o x y a b wl = (x, y) := by unfold learnL; rw [if_neg (fun h => he h.1)]
          have LE := Lib.hid (fun w hk => learn_any g o x y a b wl w hk)
          have CP := Lib.hid (rcompare_any a b x y)
          rw [hll] at LE
          obtain ⟨E, hE⟩ : ∃ E, E = learnE o a b wl := ⟨_, rfl⟩
          rw [← hE] at LE he
          clear hE
          obtain ⟨N, hN'⟩ : ∃ N, N = stCmp a b x y := ⟨_, rfl⟩
          rw [← hN'] at CP
          clear hN'
          have hEd : (E == 0) = false := by rw [beq_eq_false_iff_ne]; exact he
          have p1 := P1.1
          have p2 := P2.1
          have p3 := P3.1
          have p0 := P0.1
          go_wp2_with fail
          refine (LE.out _ CK).mono ?_
          rintro e W4 ⟨rfl, CK, h4⟩
          have hgl := hCl
          clear p0 p1 p2 p3
          have P2 := P2.only h4 (by omega)
          have P3 := P3.only h4 (by omega)
          have T0 := T0.only h4 (by omega)
          have T1 := T1.only h4 (by omega)
          have hb := hb.trans (h4.below hgw hb.size)
          clear h4
          have p2 := P2.1
          have p3 := P3.1
          have t0 := T0.1
          have t1 := T1.1
          go_wp2_with fail
          refine (CP.out _).mono ?_
          rintro e W5 ⟨rfl, h5⟩
          clear p2 p3 t0 t1
          have P2 := P2.keep h5
          have P3 := P3.keep h5
          have T0 := T0.keep h5
          have T1 := T1.keep h5
          have CK := CK.keep h5
          have hb := hb.trans (h5.mono hb.size)
          clear h5
          have p2 := P2.1
          have p3 := P3.1
          have t0 := T0.1
          have t1 := T1.1
          have f0 := T0.2
          have f1 := T1.2
          go_wp2
          go_roundw
          case rel => exact ⟨k + 1, x, y, by omega, by go_num, CK, hst, T0, T1, hb⟩
          case measure => simp [intOf]; omega
      · have hdb : (d == 1) = false := by rw [beq_eq_false_iff_ne]; exact hd
        by_cases he : (nowR x y wl).2.2 = 0
        · have hll : nowL x y wl = ((nowR x y wl).1, (nowR x y wl).2.1) := by unfold nowL; rw [if_pos he]
          have NW := Lib.hid (fun w hk => now_any g o x y wl w hk)
          rw [hll] at NW
          obtain ⟨hc1, hc2, hc3⟩ := now_rises he hst
          rw [he] at NW
          obtain ⟨r1, hr1⟩ : ∃ q, q = (nowR x y wl).1 := ⟨_, rfl⟩
          obtain ⟨r2, hr2⟩ : ∃ q, q = (nowR x y wl).2.1 := ⟨_, rfl⟩
          rw [← hr1, ← hr2] at NW hc1 hc2
          rw [← hr1] at hc3
          have CP := Lib.hid (rcompare_any r1 r2 x y)
          have RR := Lib.hid (rright_any r1 r2)
          rw [hc1] at CP
          rw [hc2] at RR
          have hlw : decide (r1 < wl) = false := by rw [decide_eq_false_iff_not]; omega
          clear hc1 hr1 hr2
          replace hc2 := Lib.hid hc2
          clear hc3
          have p1 := P1.1
          have p0 := P0.1
          go_wp2_with fail
          refine (NW.out _ CK).mono ?_
          rintro e W4 ⟨rfl, CK, h4⟩
          clear p0 p1
          have P1 := (P1.only h4 (by omega)).alloc (.cells #[.int .i64 r1, .int .i64 r2] 23)
          have T0 := (T0.only h4 (by omega)).alloc (.cells #[.int .i64 r1, .int .i64 r2] 23)
          have T1 := (T1.only h4 (by omega)).alloc (.cells #[.int .i64 r1, .int .i64 r2] 23)
          have CK := CK.keep (below1 W4 (.cells #[.int .i64 r1, .int .i64 r2] 23))
          have hb := (hb.trans (h4.below hgw hb.size)).alloc (Nat.le_trans hb.size h4.size) (.cells #[.int .i64 r1, .int .i64 r2] 23)
          clear h4
          have S0 := Cell.new W4 #[.int .i64 r1, .int .i64 r2] 23 0 _ rfl
          have S1 := Cell.new W4 #[.int .i64 r1, .int .i64 r2] 23 1 _ rfl
          have s0 := S0.1
          have s1 := S1.1
          have t0 := T0.1
          have t1 := T1.1
          go_wp2_with fail
          refine (CP.out _).mono ?_
          rintro e W5 ⟨rfl, h5⟩
          clear s0 s1 t0 t1
          have P1 := P1.keep h5
          have T0 := T0.keep h5
          have T1 := T1.keep h5
          have S0 := S0.keep h5
          have S1 := S1.keep h5
          have CK := CK.keep h5
          have hb := hb.trans (h5.mono hb.size)
          clear h5
          have s0 := S0.1
          have s1 := S1.1
          have t0 := T0.1
          have t1 := T1.1
          go_wp2_with fail
          refine (RR.out _).mono ?_
          rintro e W6 ⟨rfl, h6⟩
          clear s0 s1 t0 t1
          have P1 := P1.keep h6
          have T0 := T0.keep h6
          have T1 := T1.keep h6
          have S0 := S0.keep h6
          have S1 := S1.keep h6
          have CK := CK.keep h6
          have hb := hb.trans (h6.mono hb.size)
          clear h6
          have s0 := S0.1
          have s1 := S1.1
          have t0 := T0.1
          have t1 := T1.1
          have p1 := P1.1
          have f0 := T0.2
          have f1 := T1.2
          go_wp2
          go_roundw
          case rel => exact ⟨k + 1, r1, r2, by omega, by go_num, (CK.far (by simp; omega) _).far (by simp; omega) _, hc2.out, (T0.set _).far (by simp) _, (T1.far (by simp) _).set _, (hb.setCell (by simp; omega) _).setCell (by simp; omega) _⟩
          case measure => simp [intOf]; omega
        · have hll : nowL x y wl = (x, y) := by unfold nowL; rw [if_neg he]
          have NW := Lib.hid (fun w hk => now_any g o x y wl w hk)
          rw [hll] at NW
          obtain ⟨r1, hr1⟩ : ∃ q, q = (nowR x y wl).1 := ⟨_, rfl⟩
          obtain ⟨r2, hr2⟩ : ∃ q, q = (nowR x y wl).2.1 := ⟨_, rfl⟩
          obtain ⟨r3, hr3⟩ : ∃ q, q = (nowR x y wl).2.2 := ⟨_, rfl⟩
          rw [← hr1, ← hr2, ← hr3] at NW
          rw [← hr3] at he
          clear hr1 hr2 hr3
          have hed : (r3 != 0) = true := by rw [bne_iff_ne]; exact he
          have p1 := P1.1
          have p0 := P0.1
          go_wp2_with fail
          refine (NW.out _ CK).mono ?_
          rintro e W4 ⟨rfl, CK, h4⟩
          clear p0 p1
          have P1 := (P1.only h4 (by omega)).alloc (.cells #[.int .i64 r1, .int .i64 r2] 23)
          have T0 := (T0.only h4 (by omega)).alloc (.cells #[.int .i64 r1, .int .i64 r2] 23)
          have T1 := (T1.only h4 (by omega)).alloc (.cells #[.int .i64 r1, .int .i64 r2] 23)
          have CK := CK.keep (below1 W4 (.cells #[.int .i64 r1, .int .i64 r2] 23))
          have hb := (hb.trans (h4.below hgw hb.size)).alloc (Nat.le_trans hb.size h4.size) (.cells #[.int .i64 r1, .int .i64 r2] 23)
          clear h4
          go_wp2
          go_roundw
          case rel => exact ⟨k + 1, x, y, by omega, by go_num, CK, hst, T0, T1, hb⟩
          case measure => simp [intOf]; omega
    · go_wp2
      go_ret
      exact ⟨rfl, hb⟩

theorem law_rises (o : Int) (A : Option Addr) (n c : Nat) (f : Nat → Int × Int × Int × Int) (w : World) (hS : Steps w A n f) (hn : n ≤ maxLen) :
    Calls Try.prog 7 #[.int .i64 o, .slice A n c] w fun e w' => e = .returned (.bool true) ∧ Below w.heap.size w w' := by
  rcases ho : wallOk o with _ | _
  · exact rises_bad o A n c w ho
  · refine rises_ok o A n c f w ho hS (fun g q hA h0 => ?_) hn
    rcases hS with h | ⟨g', o', e, h⟩
    · exact absurd h h0
    · rw [hA] at e
      simp only [Option.some.injEq, Addr.mk.injEq] at e
      rw [e.1]
      exact World.block_lt_of_cell? w _ (h 0 (by omega)).1
end Go.Proofs.Ytglpaeiebkacoaa
