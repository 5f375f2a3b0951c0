/-
  The contract of the reference's TakeFrame.
-/
import Derived.Test.YtaojflmbfigplaaDoorRefTakes
import Derived.StillTailTactics
namespace Go.Proofs.YtaojflmbfigplaaDoor
open Go.RowKit

theorem rtakenFrame_none (A : Option Addr) (c : Nat) (w : World) :
    Calls Tryd.prog 23 #[.slice A 0 c] w fun e w' => e = .returned (.tuple #[.int .u8 0, .slice none 0 0, .int .i64 0, .int .i64 10]) ∧ w = w' := by
  go_enter Tryd.func23, Tryd.ntmps23
  go_wp2
  refine bodyPost_ret (results4 rfl _ _ _) rfl ?_
  exact ⟨rfl, rfl⟩

theorem rsums_at (A A' : Option Addr) (n n' c c' : Nat) (a b : List UInt8) (w : World) (hn : n = a.length) (hn' : n' = b.length) (ha : Rd w w.heap.size A a) (hb : Rd w w.heap.size A' b) (la : a.length ≤ 9223372036854775807) (lb : b.length ≤ 9223372036854775807) :
    Calls Tryd.prog 43 #[.slice A n c, .slice A' n' c'] w fun e w' => ∃ v, e = .returned v ∧ Own w' w.heap.size v (four (crc (a ++ b))) ∧ Below w.heap.size w w' := by
  subst hn hn'
  exact rsums_any A A' c c' a b w ha hb la lb

set_option maxHeartbeats 3200000 in
set_option maxRecDepth 100000 in
theorem rtakenFrame_full (A : Option Addr) (c : Nat) (k0 : UInt8) (t : List UInt8) (w : World) (hr : Rd w w.heap.size A (k0 :: t)) (hl : (k0 :: t).length ≤ 225179981367000) (hc : (k0 :: t).length ≤ c) :
    Calls Tryd.prog 23 #[.slice A (k0 :: t).length c] w fun e w' => ∃ v, e = .returned (.tuple #[.int .u8 ((tf (k0 :: t)).1.toNat : Int), v, .int .i64 (tf (k0 :: t)).2.2.1, .int .i64 (tf (k0 :: t)).2.2.2]) ∧ Own w' w.heap.size v (tf (k0 :: t)).2.1 ∧ Below w.heap.size w w' := by
  obtain ⟨A1, hc1, r1⟩ := cut1_run (k := 1) rfl hr (by simp) hc
  have hk := rtaken_any A1 t.length (c - 1) _ t w rfl r1 (by simp at hl; omega)
  have hf := tn_fits t 0 0
  have hlt := tn_lt t 0 0 (by omega) (by decide)
  have htt : tf (k0 :: t) = if (tn 0 0 t).2.2 ≠ 0 then (0, [], 0, (tn 0 0 t).2.2)
    else if 2097152 < (tn 0 0 t).1 then (0, [], 0, 12)
    else if (k0 :: t).length < 1 + (tn 0 0 t).2.1 + 4 + (tn 0 0 t).1 then (0, [], 0, 10)
    else if ((k0 :: t).drop (1 + (tn 0 0 t).2.1)).take 4 = four (crc ((k0 :: t).take (1 + (tn 0 0 t).2.1) ++ ((k0 :: t).drop (1 + (tn 0 0 t).2.1 + 4)).take (tn 0 0 t).1)) then
      (k0, ((k0 :: t).drop (1 + (tn 0 0 t).2.1 + 4)).take (tn 0 0 t).1, 1 + (tn 0 0 t).2.1 + 4 + (tn 0 0 t).1, 0)
    else (0, [], 0, 13) := rfl
  obtain ⟨n, hn⟩ : ∃ n, n = (tn 0 0 t).1 := ⟨_, rfl⟩
  obtain ⟨k, hk'⟩ : ∃ k, k = (tn 0 0 t).2.1 := ⟨_, rfl⟩
  obtain ⟨er, he⟩ : ∃ er, er = (tn 0 0 t).2.2 := ⟨_, rfl⟩
  rw [← hn] at hk hlt htt
  rw [← hk'] at hk hf htt
  rw [← he] at hk hf htt
  clear hn hk' he
  obtain ⟨hf1, hf2, hf3⟩ := hf
  have hf3 := hf3 (by omega)
  obtain ⟨l, hle⟩ : ∃ l, l = k0 :: t := ⟨_, rfl⟩
  have hl0 : 0 < l.length := by rw [hle]; simp
  have hk0 : l[0] = k0 := by simp [hle]
  have ht1 : t.length = l.length - 1 := by rw [hle]; rfl
  rw [← hle] at hr hl hc htt hc1
  rw [ht1] at hk hf1
  have hc1' : ∀ W' : World, (Instr.slice 23 (.slice A l.length c) (some (.int .i64 1)) none none).run Tryd.prog W' = .ok (.slice A1 (l.length - 1) (c - 1)) W' := hc1
  rw [← hle]
  have HK := Lib.hid hk
  have HR := Lib.hid hr
  have HK0 := Lib.hid hk0
  have hk1 : 1 + k ≤ l.length := by omega
  clear hk hr hc1 hle ht1 hk0 r1
  have hb0 : ((l.length : Int) == 0) = false := by rw [beq_eq_false_iff_ne]; omega
  by_cases h0 : er = 0
  · have hb : ((er : Int) != 0) = false := by rw [h0]; rfl
    rw [if_neg (by omega)] at htt
    by_cases h1 : 2097152 < n
    · have HT' := Lib.hid (htt.trans (if_pos h1))
      clear htt h0
      rw [HT'.out]
      go_enter Tryd.func23, Tryd.ntmps23
      go_wp2_with fail
      refine HK.out.mono ?_
      rintro e w1 ⟨rfl, rfl⟩
      go_wp2
      refine bodyPost_ret (results4 rfl _ _ _) rfl ?_
      exact ⟨_, rfl, Own.nil_ _ _, Below.refl _ _⟩
    · rw [if_neg h1] at htt
      by_cases h2 : l.length < 1 + k + 4 + n
      · have HT' := Lib.hid (htt.trans (if_pos h2))
        clear htt h0
        rw [HT'.out]
        go_enter Tryd.func23, Tryd.ntmps23
        go_wp2_with fail
        refine HK.out.mono ?_
        rintro e w1 ⟨rfl, rfl⟩
        go_wp2
        refine bodyPost_ret (results4 rfl _ _ _) rfl ?_
        exact ⟨_, rfl, Own.nil_ _ _, Below.refl _ _⟩
      · rw [if_neg h2] at htt
        rcases HR.out with hn0 | ⟨g, o, rfl, hg, hcell⟩
        · rw [hn0] at hl0; simp at hl0
        obtain ⟨A2, hc2, r2⟩ := cut_run (k := 1 + k + 4) (e := 1 + k + 4 + n) rfl HR.out (by omega) (by omega) hc
        rw [show 1 + k + 4 + n - (1 + k + 4) = n by omega] at r2
        have hc2' : ∀ W' : World, (Instr.slice 23 (.slice (some ⟨g, o, none⟩) l.length c) (some (.int .i64 (1 + (k : Int) + 4))) (some (.int .i64 (1 + (k : Int) + 4 + (n : Int)))) none).run Tryd.prog W' = .ok (.slice A2 n (c - (1 + k + 4))) W' := fun W' => by
          have := hc2 W'
          rw [show 1 + k + 4 + n - (1 + k + 4) = n by omega, show ((1 + k + 4 + n : Nat) : Int) = 1 + (k : Int) + 4 + (n : Int) by omega, show ((1 + k + 4 : Nat) : Int) = 1 + (k : Int) + 4 by omega] at this
          exact this
        have hc0' : ∀ W' : World, (Instr.slice 23 (.slice (some ⟨g, o, none⟩) l.length c) none (some (.int .i64 (1 + (k : Int)))) none).run Tryd.prog W' = .ok (.slice (some ⟨g, o, none⟩) (1 + k) c) W' := fun W' => by
          have := cut0_run (A := some ⟨g, o, none⟩) (n := l.length) (c := c) (e := 1 + k) (by omega) W'
          rw [show ((1 + k : Nat) : Int) = 1 + (k : Int) by omega] at this
          exact this
        obtain ⟨A3, hc3, r3⟩ := cut_run (k := 1 + k) (e := 1 + k + 4) rfl HR.out (by omega) (by omega) hc
        rw [show 1 + k + 4 - (1 + k) = 4 by omega] at r3
        have hc3' : ∀ W' : World, (Instr.slice 23 (.slice (some ⟨g, o, none⟩) l.length c) (some (.int .i64 (1 + (k : Int)))) (some (.int .i64 (1 + (k : Int) + 4))) none).run Tryd.prog W' = .ok (.slice A3 4 (c - (1 + k))) W' := fun W' => by
          have := hc3 W'
          rw [show 1 + k + 4 - (1 + k) = 4 by omega, show ((1 + k + 4 : Nat) : Int) = 1 + (k : Int) + 4 by omega, show ((1 + k : Nat) : Int) = 1 + (k : Int) by omega] at this
          exact this
        have y9 : w.cell? ⟨g, o, none⟩ = some (.int .u8 (k0.toNat : Int)) := by have := hcell 0 (by omega); rw [Nat.add_zero, HK0.out] at this; exact this
        obtain ⟨H, hH⟩ : ∃ H, H = l.take (1 + k) := ⟨_, rfl⟩
        have HH := Lib.hid (show 1 + k = H.length by rw [hH, List.length_take]; omega)
        have R1 := Lib.hid (show Rd w w.heap.size (some ⟨g, o, none⟩) H by rw [hH]; exact rd_take HR.out (1 + k))
        obtain ⟨X, hX⟩ : ∃ X, X = (l.drop (1 + k + 4)).take n := ⟨_, rfl⟩
        have HX := Lib.hid (show n = X.length by rw [hX, List.length_take, List.length_drop]; omega)
        rw [← hX] at r2
        have R2 := Lib.hid r2
        obtain ⟨Y, hY⟩ : ∃ Y, Y = (l.drop (1 + k)).take 4 := ⟨_, rfl⟩
        have HY := Lib.hid (show 4 = Y.length by rw [hY, List.length_take, List.length_drop]; omega)
        rw [← hY] at r3
        have R3 := Lib.hid r3
        rw [← hH, ← hX, ← hY] at htt
        obtain ⟨D, hD⟩ : ∃ D, D = four (crc (H ++ X)) := ⟨_, rfl⟩
        have HD := Lib.hid hD
        have HD4 := Lib.hid (show 4 = D.length by rw [hD]; rfl)
        rw [← hD] at htt
        have hn' : n ≤ 2097152 := by omega
        clear hH hX hY hc2 hc3 r2 r3 hcell hD
        by_cases hall : Y = D
        · have HT' := Lib.hid (htt.trans (if_pos hall))
          clear htt h0
          rw [HT'.out]
          go_enter Tryd.func23, Tryd.ntmps23
          go_wp2_with fail
          refine HK.out.mono ?_
          rintro e w1 ⟨rfl, rfl⟩
          go_wp2
          have hw1 : IntKind.i64.wrap (1 + (k : Int) + 4) = 1 + (k : Int) + 4 := IntWalk.i64_in _ (by omega)
          go_region_with (go_at_call 43; refine (rsums_at _ A2 (1 + k) n c _ H X _ HH.out HX.out (by exact R1.out) (by exact R2.out) (by rw [← HH.out]; omega) (by rw [← HX.out]; omega)).mono ?_; rw [← HD.out]; rintro e w1 ⟨v, rfl, o1, hb1⟩)
          subst hall
          have hb1 : Below w.heap.size w w1 := (below_drewN (Below.refl w.heap.size w) 1).trans hb1
          have o1 : Own w1 w.heap.size _ _ := o1
          obtain ⟨A4, c4, rfl, r4, hc4⟩ := o1.rdc
          have s3 : ∀ nq, (convert 23 9 (.slice A4 4 c4)).run Tryd.prog (w1.drewN nq) = .ok (.string ⟨Y.toArray⟩) (w1.drewN nq) := fun nq => by
            have := str_of (r4.drewN nq) c4
            rw [← HY.out] at this
            exact this
          have s4 : ∀ nq, (convert 23 9 (.slice A3 4 (c - (1 + k)))).run Tryd.prog (w1.drewN nq) = .ok (.string ⟨Y.toArray⟩) (w1.drewN nq) := fun nq => by
            have := str_of ((R3.out.below hb1).drewN nq) (c - (1 + k))
            rw [← HY.out] at this
            exact this
          have r2 := Lib.hid (R2.out.below hb1)
          have z9 := (hb1.cell (p := ⟨g, o, none⟩) hg).trans y9
          have hz : ∀ nq, (w1.drewN nq).cell? ⟨g, o, none⟩ = some (.int .u8 (k0.toNat : Int)) := fun nq => z9
          rw [← HY.out]
          all_goals
            go_wp2
            go_quiet (fail)
            go_wp2_with (at_builtin; refine app_bytes_at _ w.heap.size _ [] X A2 n (c - (1 + k + 4)) HX.out rfl (.tmp 61) (.tmp 66) rfl rfl rfl (Own.nil_ _ _) (by exact r2.out.more hb1.size) ?e1 ?e2 ?_)
            case e1 => rw [← HX.out]; simp; omega
            case e2 => exact hb1.size
            intro v' w' g1 g2 _
            have g2p : Below w.heap.size w w' := (below_drewN hb1 _).trans g2
            have z9 : w'.cell? ⟨g, o, none⟩ = some (.int .u8 (k0.toNat : Int)) := (g2.cell (p := ⟨g, o, none⟩) hg).trans z9
            go_wp2
            refine bodyPost_ret (results4 rfl _ _ _) rfl ?_
            exact ⟨_, by first | rfl | (congr <;> omega), by simpa using g1, g2p⟩
        · have HT' := Lib.hid (htt.trans (if_neg hall))
          have hne : ¬ D = Y := fun h => hall h.symm
          have hneb : (D == Y) = false := by rw [beq_eq_false_iff_ne]; exact hne
          clear htt h0
          rw [HT'.out]
          go_enter Tryd.func23, Tryd.ntmps23
          go_wp2_with fail
          refine HK.out.mono ?_
          rintro e w1 ⟨rfl, rfl⟩
          go_wp2
          have hw1 : IntKind.i64.wrap (1 + (k : Int) + 4) = 1 + (k : Int) + 4 := IntWalk.i64_in _ (by omega)
          go_region_with (go_at_call 43; refine (rsums_at _ A2 (1 + k) n c _ H X _ HH.out HX.out (by exact R1.out) (by exact R2.out) (by rw [← HH.out]; omega) (by rw [← HX.out]; omega)).mono ?_; rw [← HD.out]; rintro e w1 ⟨v, rfl, o1, hb1⟩)
          have hb1 : Below w.heap.size w w1 := (below_drewN (Below.refl w.heap.size w) 1).trans hb1
          have o1 : Own w1 w.heap.size _ _ := o1
          obtain ⟨A4, c4, rfl, r4, hc4⟩ := o1.rdc
          have s3 : ∀ nq, (convert 23 9 (.slice A4 4 c4)).run Tryd.prog (w1.drewN nq) = .ok (.string ⟨D.toArray⟩) (w1.drewN nq) := fun nq => by
            have := str_of (r4.drewN nq) c4
            rw [← HD4.out] at this
            exact this
          have s4 : ∀ nq, (convert 23 9 (.slice A3 4 (c - (1 + k)))).run Tryd.prog (w1.drewN nq) = .ok (.string ⟨Y.toArray⟩) (w1.drewN nq) := fun nq => by
            have := str_of ((R3.out.below hb1).drewN nq) (c - (1 + k))
            rw [← HY.out] at this
            exact this
          rw [← HD4.out]
          all_goals
            go_wp2
            go_quiet (fail)
            go_wp2
            refine bodyPost_ret (results4 rfl _ _ _) rfl ?_
            exact ⟨_, rfl, Own.nil_ _ _, below_drewN hb1 _⟩
  · have hb : ((er : Int) != 0) = true := by rw [bne_iff_ne]; omega
    have HT' := Lib.hid (htt.trans (if_pos h0))
    clear htt h0
    rw [HT'.out]
    go_enter Tryd.func23, Tryd.ntmps23
    go_wp2_with fail
    refine HK.out.mono ?_
    rintro e w1 ⟨rfl, rfl⟩
    go_wp2
    refine bodyPost_ret (results4 rfl _ _ _) rfl ?_
    exact ⟨_, rfl, Own.nil_ _ _, Below.refl _ _⟩
end Go.Proofs.YtaojflmbfigplaaDoor
