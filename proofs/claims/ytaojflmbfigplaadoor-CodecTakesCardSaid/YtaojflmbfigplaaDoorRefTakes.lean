/-
  The contracts of the reference's TakeText, TakeKeyInt, TakeKeyText.
-/
import Derived.Test.YtaojflmbfigplaaDoorRefTakeNumber
namespace Go.Proofs.YtaojflmbfigplaaDoor
open Go.RowKit

set_option maxRecDepth 100000 in
theorem rtaken_none (A : Option Addr) (c : Nat) (w : World) :
    Calls Tryd.prog 19 #[.slice A 0 c] w fun e w' => e = .returned (.tuple #[.int .u64 0, .int .i64 0, .int .i64 10]) ∧ w = w' := by
  go_enter Tryd.func19, Tryd.ntmps19
  go_wp2
  refine wp_loop_rounds 1 ?_
  rw [rounds_succ]
  go_wp2
  go_ret3
  exact ⟨rfl, rfl⟩
theorem rtaken_any (A : Option Addr) (n c B : Nat) (l : List UInt8) (w : World) (hn : n = l.length) (hr : Rd w B A l) (hl : l.length ≤ 9223372036854775807) :
    Calls Tryd.prog 19 #[.slice A n c] w fun e w' => e = .returned (.tuple #[.int .u64 (tn 0 0 l).1, .int .i64 (tn 0 0 l).2.1, .int .i64 (tn 0 0 l).2.2]) ∧ w = w' := by
  subst hn
  rcases hr with rfl | ⟨g, o, rfl, _, hc⟩
  · exact rtaken_none A c w
  · exact rtaken_full g o c l w hc hl

set_option maxHeartbeats 1600000 in
set_option maxRecDepth 100000 in
theorem rtakenText_any (A : Option Addr) (c : Nat) (l : List UInt8) (w : World) (hr : Rd w w.heap.size A l) (hl : l.length ≤ 225179981367000) (hc : l.length ≤ c) :
    Calls Tryd.prog 21 #[.slice A l.length c] w fun e w' => ∃ v, e = .returned (.tuple #[v, .int .i64 (tt l).2.1, .int .i64 (tt l).2.2]) ∧ Own w' w.heap.size v (tt l).1 ∧ Below w.heap.size w w' := by
  have hk := rtaken_any A l.length c _ l w rfl hr (by omega)
  have hf := tn_fits l 0 0
  have hlt := tn_lt l 0 0 (by omega) (by decide)
  have htt : tt l = if (tn 0 0 l).2.2 ≠ 0 then ([], 0, (tn 0 0 l).2.2) else if 2097152 < (tn 0 0 l).1 then ([], 0, 12)
    else if l.length < (tn 0 0 l).2.1 + (tn 0 0 l).1 then ([], 0, 10) else ((l.drop (tn 0 0 l).2.1).take (tn 0 0 l).1, (tn 0 0 l).2.1 + (tn 0 0 l).1, 0) := rfl
  obtain ⟨n, hn⟩ : ∃ n, n = (tn 0 0 l).1 := ⟨_, rfl⟩
  obtain ⟨k, hk'⟩ : ∃ k, k = (tn 0 0 l).2.1 := ⟨_, rfl⟩
  obtain ⟨er, he⟩ : ∃ er, er = (tn 0 0 l).2.2 := ⟨_, rfl⟩
  rw [← hn] at hk hlt htt
  rw [← hk'] at hk hf htt
  rw [← he] at hk hf htt
  clear hn hk' he
  obtain ⟨hf1, hf2, hf3⟩ := hf
  have hf3 := hf3 (by omega)
  have HK := Lib.hid hk
  have HR := Lib.hid hr
  have hkl : k ≤ l.length := by omega
  clear hk hr
  by_cases h0 : er = 0
  · have hb : ((er : Int) != 0) = false := by rw [h0]; rfl
    rw [if_neg (by omega)] at htt
    by_cases h1 : 2097152 < n
    · have HT := Lib.hid (htt.trans (if_pos h1))
      clear htt h0
      rw [HT.out]
      go_enter Tryd.func21, Tryd.ntmps21
      go_wp2_with fail
      refine HK.out.mono ?_
      rintro e w1 ⟨rfl, rfl⟩
      go_wp2
      go_ret3
      exact ⟨_, rfl, Own.nil_ _ _, Below.refl _ _⟩
    · rw [if_neg h1] at htt
      by_cases h2 : l.length < k + n
      · have HT := Lib.hid (htt.trans (if_pos h2))
        clear htt h0
        rw [HT.out]
        go_enter Tryd.func21, Tryd.ntmps21
        go_wp2_with fail
        refine HK.out.mono ?_
        rintro e w1 ⟨rfl, rfl⟩
        go_wp2
        go_ret3
        exact ⟨_, rfl, Own.nil_ _ _, Below.refl _ _⟩
      · have HT := Lib.hid (htt.trans (if_neg h2))
        clear htt h0
        rw [HT.out]
        obtain ⟨A', hcut, rc⟩ := cut_run (k := k) (e := k + n) rfl HR.out (by omega) (by omega) hc
        have hcut' : ∀ W' : World, (Instr.slice 23 (.slice A l.length c) (some (.int .i64 (k : Int))) (some (.int .i64 ((k : Int) + (n : Int)))) none).run Tryd.prog W' = .ok (.slice A' n (c - k)) W' := fun W' => by
          have := hcut W'
          rw [show k + n - k = n by omega, show ((k + n : Nat) : Int) = (k : Int) + (n : Int) by omega] at this
          exact this
        rw [show k + n - k = n by omega] at rc
        obtain ⟨X, hX⟩ : ∃ X, X = (l.drop k).take n := ⟨_, rfl⟩
        have hXl : n = X.length := by rw [hX, List.length_take, List.length_drop]; omega
        rw [← hX] at rc HT
        rw [← hX]
        have HC := Lib.hid rc
        have HE := Lib.hid hXl
        have hn : n ≤ 2097152 := by omega
        clear hcut rc hX hXl
        go_enter Tryd.func21, Tryd.ntmps21
        go_wp2_with fail
        refine HK.out.mono ?_
        rintro e w1 ⟨rfl, rfl⟩
        go_wp2_with (at_builtin; refine app_bytes_at _ w.heap.size _ [] X A' n (c - k) HE.out rfl (.tmp 35) (.tmp 39) rfl rfl rfl (Own.nil_ _ _) HC.out ?e1 ?e2 ?_)
        case e1 => rw [← HE.out]; simp; omega
        case e2 => exact Nat.le_refl _
        intro v' w' h1 h2 _
        go_wp2
        go_ret3
        exact ⟨_, rfl, by simpa using h1, h2⟩
  · have hb : ((er : Int) != 0) = true := by rw [bne_iff_ne]; omega
    have HT := Lib.hid (htt.trans (if_pos h0))
    clear htt h0
    rw [HT.out]
    go_enter Tryd.func21, Tryd.ntmps21
    go_wp2_with fail
    refine HK.out.mono ?_
    rintro e w1 ⟨rfl, rfl⟩
    go_wp2
    go_ret3
    exact ⟨_, rfl, Own.nil_ _ _, Below.refl _ _⟩

theorem rtakenKeyInt_short (A : Option Addr) (n c : Nat) (w : World) (hn : n < 8) :
    Calls Tryd.prog 25 #[.slice A n c] w fun e w' => e = .returned (.tuple #[.int .i64 0, .int .i64 0, .int .i64 10]) ∧ w = w' := by
  go_enter Tryd.func25, Tryd.ntmps25
  go_wp2
  go_ret3
  exact ⟨rfl, rfl⟩
set_option maxHeartbeats 800000 in
set_option maxRecDepth 100000 in
theorem rtakenKeyInt_full (g o c : Nat) (l : List UInt8) (w : World) (hc : ∀ i (h : i < l.length), w.cell? ⟨g, o + i, none⟩ = some (bv l[i])) (h8 : 8 ≤ l.length) :
    Calls Tryd.prog 25 #[.slice (some ⟨g, o, none⟩) l.length c] w fun e w' => e = .returned (.tuple #[.int .i64 ((be (l.take 8) : Int) - 9223372036854775808), .int .i64 8, .int .i64 0]) ∧ w = w' := by
  have HC := Lib.hid hc
  clear hc
  go_enter Tryd.func25, Tryd.ntmps25
  go_wp2
  go_loop [5, 6] (fun n i => ∃ k : Nat, k ≤ 8 ∧ i = .int .i64 k ∧ n = .int .u64 (be (l.take k))) (fun _ i => 8 - (intOf i).toNat)
  case atStart => exact ⟨0, by omega, rfl, rfl⟩
  case round =>
    obtain ⟨k, hk, rfl, rfl⟩ := hrel
    by_cases hlt : k < 8
    · have c1 : w.cell? ⟨g, o + k, none⟩ = some (.int .u8 (l[k].toNat : Int)) := HC.out k (by omega)
      have hU := be_lt (l := l) k (by omega)
      have hp : 2 ^ (8 * k) ≤ 2 ^ 56 := Nat.pow_le_pow_right (by decide) (by omega)
      have hs := be_snoc (l := l) (k := k) (by omega)
      have b1 := l[k].toNat_lt
      obtain ⟨V, hV⟩ : ∃ V, V = be (l.take k) := ⟨_, rfl⟩
      rw [← hV] at hs hU
      rw [← hV]
      have hVb : V ≤ 72057594037927935 := by omega
      have HS := Lib.hid hs
      clear hU hp hs hV
      go_wp2
      go_round
      case rel => exact ⟨k + 1, by omega, by go_num, by rw [HS.out]; go_num⟩
      case measure => simp [intOf]; omega
    · obtain rfl : k = 8 := by omega
      have hU := be_lt (l := l) 8 (by omega)
      have e1 := Lib.hid (top_back (m := be (l.take 8)) (by omega))
      clear hU
      go_wp2
      go_ret3
      refine ⟨?_, rfl⟩
      refine tup3i ?_ rfl rfl
      exact (IntWalk.i64_left _).symm.trans e1.out
theorem rtakenKeyInt_any (A : Option Addr) (c B : Nat) (l : List UInt8) (w : World) (hr : Rd w B A l) :
    Calls Tryd.prog 25 #[.slice A l.length c] w fun e w' => e = .returned (.tuple #[.int .i64 (tki l).1, .int .i64 (tki l).2.1, .int .i64 (tki l).2.2]) ∧ w = w' := by
  unfold tki
  by_cases h : l.length < 8
  · rw [if_pos h]
    exact rtakenKeyInt_short A l.length c w h
  · rw [if_neg h]
    rcases hr with rfl | ⟨g, o, rfl, _, hc⟩
    · simp at h
    · exact rtakenKeyInt_full g o c l w hc (by omega)
end Go.Proofs.YtaojflmbfigplaaDoor
