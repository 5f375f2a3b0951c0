/-
  The walk of the law HlcScripts.
-/
import Derived.Test.YtglpaeiebkacoaaRises
import Derived.Test.YtglpaeiebkacoaaPassed
import Derived.Test.YtglpaeiebkacoaaOpenSteps
import Derived.Test.YtglpaeiebkacoaaLawStamps
set_option linter.unusedVariables false
namespace Go.Proofs.Ytglpaeiebkacoaa
open Go.RowKit

set_option maxHeartbeats 1600000 in
set_option maxRecDepth 100000 in
theorem scripts_bad (o : Int) (A : Option Addr) (n c : Nat) (w : World) (ho : wallOk o = false) :
    Calls Try.prog 6 #[.int .i64 o, .slice A n c] w fun e w' => e = .returned (.bool true) ∧ Below w.heap.size w w' := by
  have NB := Lib.hid (fun w => new_bad o w ho)
  have IO := Lib.hid (risWall_any o)
  rw [ho] at IO
  clear ho
  go_enter Try.func6, Try.ntmps6
  go_wp2_with fail
  refine (awake_any _).mono ?_
  rintro e W1 ⟨rfl, hb⟩
  go_wp2_with fail
  refine (NB.out _).mono ?_
  rintro e W2 ⟨rfl, rfl⟩
  go_wp2_with fail
  refine (IO.out _).mono ?_
  rintro e W2 ⟨rfl, rfl⟩
  go_wp2
  go_ret
  exact ⟨rfl, hb⟩

set_option maxHeartbeats 3200000 in
set_option maxRecDepth 100000 in
theorem scripts_ok (o : Int) (A : Option Addr) (n c : Nat) (f : Nat → Int × Int × Int × Int) (w : World) (ho : wallOk o = true) (hS : Steps w A n f) (hA : ∀ g o, A = some ⟨g, o, none⟩ → n ≠ 0 → g < w.heap.size) (hn : n ≤ maxLen) :
    Calls Try.prog 6 #[.int .i64 o, .slice A n c] w fun e w' => e = .returned (.bool true) ∧ Below w.heap.size w w' := by
  have NB := Lib.hid (fun w => new_ok o w ho)
  have IO := Lib.hid (risWall_any o)
  have HO := Lib.hid ho
  rw [ho] at IO
  have HS := Lib.hid hS
  have HA := Lib.hid hA
  have hn' : n ≤ 9223372036854775807 := hn
  clear hS hA hn ho
  go_enter Try.func6, Try.ntmps6
  go_wp2_with fail
  refine (awake_any _).mono ?_
  rintro e W1 ⟨rfl, hb⟩
  have hs9 := hb.size
  go_wp2_with fail
  refine (NB.out _).mono ?_
  rintro e W2 ⟨rfl, CK, h2⟩
  have hb := hb.trans (h2.mono hb.size)
  have hs1 := h2.size
  have hcl := CK.lt
  clear h2
  go_wp2_with fail
  refine (IO.out _).mono ?_
  rintro e W3 ⟨rfl, rfl⟩
  go_wp2
  have RK : Clk (W2.alloc (.cells #[.int .i64 o, .int .i64 0, .int .i64 0] 42)) W2.heap.size o 0 0 := ⟨Cell.new _ _ _ _ _ rfl, Cell.new _ _ _ _ _ rfl, Cell.new _ _ _ _ _ rfl⟩
  have CK := CK.keep (below1 W2 (.cells #[.int .i64 o, .int .i64 0, .int .i64 0] 42))
  have hs0 := hb.size
  have hb := hb.alloc hs0 (.cells #[.int .i64 o, .int .i64 0, .int .i64 0] 42)
  obtain ⟨g, hg⟩ : ∃ g, g = W1.heap.size := ⟨_, rfl⟩
  obtain ⟨t, ht⟩ : ∃ t, t = W2.heap.size := ⟨_, rfl⟩
  obtain ⟨V, hV⟩ : ∃ V, V = W2.alloc (.cells #[.int .i64 o, .int .i64 0, .int .i64 0] 42) := ⟨_, rfl⟩
  have hgw : w.heap.size ≤ g := by omega
  have hgt : g < t := by omega
  rw [← hV] at RK CK hb
  rw [← hV, ← hg, ← ht]
  rw [← ht] at RK
  rw [← hg] at CK
  clear hg ht hV hs1 hs0 hcl hs9
  go_loopw [10] (fun i wr => ∃ (k : Nat) (x y : Int), k ≤ n ∧ i = .int .i64 k ∧ Clk wr g o x y ∧ Clk wr t o x y ∧ Below w.heap.size w wr) (fun i _ => n - (intOf i).toNat)
  case atStart => exact ⟨0, 0, 0, by omega, rfl, CK, RK, hb⟩
  case round =>
    obtain ⟨k, x, y, hk, rfl, CK, RK, hb⟩ := hrel
    by_cases hlt : k < n
    · -- ROUND
      rcases HS.out with h0 | ⟨gs, os, rfl, hcell⟩
      · omega
      have hgs := HA.out gs os rfl (by omega)
      obtain ⟨c0, c1, c2, c3⟩ := hcell k hlt
      clear hcell
      have c0 := (hb.cell (p := ⟨gs, os + k * 4, none⟩) hgs).trans c0
      have c1 := (hb.cell (p := ⟨gs, os + k * 4 + 1, none⟩) hgs).trans c1
      have c2 := (hb.cell (p := ⟨gs, os + k * 4 + 2, none⟩) hgs).trans c2
      have c3 := (hb.cell (p := ⟨gs, os + k * 4 + 3, none⟩) hgs).trans c3
      obtain ⟨⟨d, wl, a, b⟩, hfk⟩ : ∃ q, q = f k := ⟨_, rfl⟩
      rw [← hfk] at c0 c1 c2 c3
      simp only at c0 c1 c2 c3
      clear hfk
      have P0 := Cell.new wr #[.int .i64 d, .int .i64 wl, .int .i64 a, .int .i64 b] 44 0 (.int .i64 d) rfl
      have P1 := Cell.new wr #[.int .i64 d, .int .i64 wl, .int .i64 a, .int .i64 b] 44 1 (.int .i64 wl) rfl
      have P2 := Cell.new wr #[.int .i64 d, .int .i64 wl, .int .i64 a, .int .i64 b] 44 2 (.int .i64 a) rfl
      have P3 := Cell.new wr #[.int .i64 d, .int .i64 wl, .int .i64 a, .int .i64 b] 44 3 (.int .i64 b) rfl
      have hX := below1 wr (.cells #[.int .i64 d, .int .i64 wl, .int .i64 a, .int .i64 b] 44)
      have hCl := CK.lt
      have hRl := RK.lt
      have CK := CK.keep hX
      have RK := RK.keep hX
      have hb := hb.trans (hX.mono hb.size)
      have hal := HO.out
      obtain ⟨ho0, ho1⟩ := wallOk_le hal
      replace hal := Lib.hid hal
      by_cases hd : d = 0
      · subst hd
        have N1 := Lib.hid (fun w hk => now_any g o x y wl w hk)
        have N2 := Lib.hid (fun w hk => rnow_any t o x y wl w hk)
        obtain ⟨r1, hr1⟩ : ∃ q, q = (nowR x y wl).1 := ⟨_, rfl⟩
        obtain ⟨r2, hr2⟩ : ∃ q, q = (nowR x y wl).2.1 := ⟨_, rfl⟩
        obtain ⟨r3, hr3⟩ : ∃ q, q = (nowR x y wl).2.2 := ⟨_, rfl⟩
        obtain ⟨l1, hl1⟩ : ∃ q, q = (nowL x y wl).1 := ⟨_, rfl⟩
        obtain ⟨l2, hl2⟩ : ∃ q, q = (nowL x y wl).2 := ⟨_, rfl⟩
        rw [← hr1, ← hr2, ← hr3, ← hl1, ← hl2] at N1 N2
        clear hr1 hr2 hr3 hl1 hl2
        have p0 := P0.1
        have p1 := P1.1
        have p2 := P2.1
        have p3 := P3.1
        go_wp2_with fail
        refine (N1.out _ CK).mono ?_
        rintro e W4 ⟨rfl, CK, h4⟩
        clear p0 p1 p2 p3
        have P0 := (P0.only h4 (by omega)).alloc (.cells #[.int .i64 r1, .int .i64 r2] 23)
        have P1 := (P1.only h4 (by omega)).alloc (.cells #[.int .i64 r1, .int .i64 r2] 23)
        have P2 := (P2.only h4 (by omega)).alloc (.cells #[.int .i64 r1, .int .i64 r2] 23)
        have P3 := (P3.only h4 (by omega)).alloc (.cells #[.int .i64 r1, .int .i64 r2] 23)
        have RK := (RK.only h4 (by omega)).keep (below1 W4 (.cells #[.int .i64 r1, .int .i64 r2] 23))
        have CK := CK.keep (below1 W4 (.cells #[.int .i64 r1, .int .i64 r2] 23))
        have hb := (hb.trans (h4.below hgw hb.size)).alloc (Nat.le_trans hb.size h4.size) (.cells #[.int .i64 r1, .int .i64 r2] 23)
        have S0 := Cell.new W4 #[.int .i64 r1, .int .i64 r2] 23 0 _ rfl
        have S1 := Cell.new W4 #[.int .i64 r1, .int .i64 r2] 23 1 _ rfl
        have hz4 := h4.size
        have hq4 := RK.lt
        clear h4
        have hsz : wr.heap.size < W4.heap.size := by have := P0.lt; simp at hz4; omega
        have p0 := P0.1
        have p1 := P1.1
        have p2 := P2.1
        have p3 := P3.1
        go_wp2_with fail
        refine (N2.out _ RK).mono ?_
        rintro e W5 ⟨rfl, RK, h5⟩
        clear p0 p1 p2 p3
        have CK := (CK.only h5 (by omega)).keep (below1 W5 (.cells #[.int .i64 r1, .int .i64 r2] 23))
        have RK := RK.keep (below1 W5 (.cells #[.int .i64 r1, .int .i64 r2] 23))
        have S0 := (S0.only h5 (by omega)).alloc (.cells #[.int .i64 r1, .int .i64 r2] 23)
        have S1 := (S1.only h5 (by omega)).alloc (.cells #[.int .i64 r1, .int .i64 r2] 23)
        have hb := (hb.trans (h5.below (by omega) hb.size)).alloc (Nat.le_trans hb.size h5.size) (.cells #[.int .i64 r1, .int .i64 r2] 23)
        clear h5
        have S0x := Cell.new W5 #[.int .i64 r1, .int .i64 r2] 23 0 _ rfl
        have S1x := Cell.new W5 #[.int .i64 r1, .int .i64 r2] 23 1 _ rfl
        have s0 := S0.1
        have s1 := S1.1
        have s0x := S0x.1
        have s1x := S1x.1
        go_wp2_with fail
        refine (last_any g o l1 l2 _ CK).mono ?_
        rintro e W8 ⟨rfl, h8⟩
        have CK := CK.keep h8
        have RK := RK.keep h8
        have hb := hb.trans (h8.mono hb.size)
        clear h8
        have CK := CK.keep (below1 W8 (.cells #[.int .i64 l1, .int .i64 l2] 23))
        have RK := RK.keep (below1 W8 (.cells #[.int .i64 l1, .int .i64 l2] 23))
        have hb := hb.alloc hb.size (.cells #[.int .i64 l1, .int .i64 l2] 23)
        have k1 := RK.2.1.1
        have k2 := RK.2.2.1
        go_wp2
        go_roundw
        case rel => exact ⟨k + 1, l1, l2, by omega, by go_num, CK, RK, hb⟩
        case measure => simp [intOf]; omega
      by_cases hd1 : d = 1
      · subst hd1
        have N1 := Lib.hid (fun w hk => learn_any g o x y a b wl w hk)
        have N2 := Lib.hid (fun w hk => rlearn_any t o x y a b wl w hk ho0)
        obtain ⟨E, hE⟩ : ∃ q, q = learnE o a b wl := ⟨_, rfl⟩
        obtain ⟨l1, hl1⟩ : ∃ q, q = (learnL o x y a b wl).1 := ⟨_, rfl⟩
        obtain ⟨l2, hl2⟩ : ∃ q, q = (learnL o x y a b wl).2 := ⟨_, rfl⟩
        rw [← hE, ← hl1, ← hl2] at N1 N2
        clear hE hl1 hl2
        have p0 := P0.1
        have p1 := P1.1
        have p2 := P2.1
        have p3 := P3.1
        go_wp2_with fail
        refine (N1.out _ CK).mono ?_
        rintro e W4 ⟨rfl, CK, h4⟩
        clear p0 p1 p2 p3
        have P0 := P0.only h4 (by omega)
        have P1 := P1.only h4 (by omega)
        have P2 := P2.only h4 (by omega)
        have P3 := P3.only h4 (by omega)
        have RK := RK.only h4 (by omega)
        have hb := hb.trans (h4.below hgw hb.size)
        clear h4
        have p0 := P0.1
        have p1 := P1.1
        have p2 := P2.1
        have p3 := P3.1
        go_wp2_with fail
        refine (N2.out _ RK).mono ?_
        rintro e W5 ⟨rfl, RK, h5⟩
        clear p0 p1 p2 p3
        have CK := CK.only h5 (by omega)
        have hb := hb.trans (h5.below (by omega) hb.size)
        clear h5
        go_wp2_with fail
        refine (last_any g o l1 l2 _ CK).mono ?_
        rintro e W8 ⟨rfl, h8⟩
        have CK := CK.keep h8
        have RK := RK.keep h8
        have hb := hb.trans (h8.mono hb.size)
        clear h8
        have CK := CK.keep (below1 W8 (.cells #[.int .i64 l1, .int .i64 l2] 23))
        have RK := RK.keep (below1 W8 (.cells #[.int .i64 l1, .int .i64 l2] 23))
        have hb := hb.alloc hb.size (.cells #[.int .i64 l1, .int .i64 l2] 23)
        have k1 := RK.2.1.1
        have k2 := RK.2.2.1
        go_wp2
        go_roundw
        case rel => exact ⟨k + 1, l1, l2, by omega, by go_num, CK, RK, hb⟩
        case measure => simp [intOf]; omega
      by_cases hd2 : d = 2
      · subst hd2
        have N1 := Lib.hid (fun w hk => passed_any g o x y a b wl w hk hal.out)
        have N2 := Lib.hid (fun w hk => rpassed_any t o x y a b wl w hk hal.out)
        obtain ⟨q, hq⟩ : ∃ q, q = passed o a b wl := ⟨_, rfl⟩
        rw [← hq] at N1 N2
        clear hq
        have p0 := P0.1
        have p1 := P1.1
        have p2 := P2.1
        have p3 := P3.1
        go_wp2_with fail
        refine (N1.out _ CK).mono ?_
        rintro e W4 ⟨rfl, h4⟩
        clear p0 p1 p2 p3
        have P0 := P0.keep h4
        have P1 := P1.keep h4
        have P2 := P2.keep h4
        have P3 := P3.keep h4
        have RK := RK.keep h4
        have CK := CK.keep h4
        have hb := hb.trans (h4.mono hb.size)
        clear h4
        have p0 := P0.1
        have p1 := P1.1
        have p2 := P2.1
        have p3 := P3.1
        go_wp2_with fail
        refine (N2.out _ RK).mono ?_
        rintro e W5 ⟨rfl, h5⟩
        clear p0 p1 p2 p3
        have RK := RK.keep h5
        have CK := CK.keep h5
        have hb := hb.trans (h5.mono hb.size)
        clear h5
        go_wp2_with fail
        refine (last_any g o x y _ CK).mono ?_
        rintro e W8 ⟨rfl, h8⟩
        have CK := CK.keep h8
        have RK := RK.keep h8
        have hb := hb.trans (h8.mono hb.size)
        clear h8
        have CK := CK.keep (below1 W8 (.cells #[.int .i64 x, .int .i64 y] 23))
        have RK := RK.keep (below1 W8 (.cells #[.int .i64 x, .int .i64 y] 23))
        have hb := hb.alloc hb.size (.cells #[.int .i64 x, .int .i64 y] 23)
        have k1 := RK.2.1.1
        have k2 := RK.2.2.1
        go_wp2
        go_roundw
        case rel => exact ⟨k + 1, x, y, by omega, by go_num, CK, RK, hb⟩
        case measure => simp [intOf]; omega
      have e0 : (d == 0) = false := by rw [beq_eq_false_iff_ne]; exact hd
      have e1 : (d == 1) = false := by rw [beq_eq_false_iff_ne]; exact hd1
      have e2 : (d == 2) = false := by rw [beq_eq_false_iff_ne]; exact hd2
      clear hd hd1 hd2
      have p0 := P0.1
      have p1 := P1.1
      have p2 := P2.1
      have p3 := P3.1
      go_wp2_with fail
      refine (last_any g o x y _ CK).mono ?_
      rintro e W8 ⟨rfl, h8⟩
      have CK := CK.keep h8
      have RK := RK.keep h8
      have hb := hb.trans (h8.mono hb.size)
      clear h8
      have CK := CK.keep (below1 W8 (.cells #[.int .i64 x, .int .i64 y] 23))
      have RK := RK.keep (below1 W8 (.cells #[.int .i64 x, .int .i64 y] 23))
      have hb := hb.alloc hb.size (.cells #[.int .i64 x, .int .i64 y] 23)
      have k1 := RK.2.1.1
      have k2 := RK.2.2.1
      go_wp2
      go_roundw
      case rel => exact ⟨k + 1, x, y, by omega, by go_num, CK, RK, hb⟩
      case measure => simp [intOf]; omega
    · go_wp2
      go_ret
      exact ⟨rfl, hb⟩

theorem law_scripts (o : Int) (A : Option Addr) (n c : Nat) (f : Nat → Int × Int × Int × Int) (w : World) (hS : Steps w A n f) (hn : n ≤ maxLen) :
    Calls Try.prog 6 #[.int .i64 o, .slice A n c] w fun e w' => e = .returned (.bool true) ∧ Below w.heap.size w w' := by
  rcases ho : wallOk o with _ | _
  · exact scripts_bad o A n c w ho
  · refine scripts_ok o A n c f w ho hS (fun g q hA h0 => ?_) hn
    rcases hS with h | ⟨g', o', e, h⟩
    · exact absurd h h0
    · rw [hA] at e
      simp only [Option.some.injEq, Addr.mk.injEq] at e
      rw [e.1]
      exact World.block_lt_of_cell? w _ (h 0 (by omega)).1
end Go.Proofs.Ytglpaeiebkacoaa
