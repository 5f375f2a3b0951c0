/-
  The contracts of probe's two visitors, and of probe with each.
-/
import Derived.Test.YtogfojohflkdnaaPure
namespace Go.Proofs.Ytogfojohflkdnaa
open Go.RowKit

set_option maxHeartbeats 400000 in
set_option maxRecDepth 100000 in
theorem lay_any (g i x b : Nat) (w : World) (hc : w.cell? ⟨g, i, none⟩ = some (.int .u8 (x : Int))) (hf : w.frozen? ⟨g, i, none⟩ = false) (hx : x < 256) (hb : b < 256) :
    Calls Try.prog 19 #[.pointer (some ⟨g, i, none⟩), .int .u8 (b : Int)] w fun e w' => e = .returned (.bool true) ∧ w.setCell ⟨g, i, none⟩ (.int .u8 ((x ||| b : Nat) : Int)) = w' := by
  have hor := or_u8 x b hx hb
  go_enter Try.func19, Try.ntmps19
  go_wp2
  go_ret
  exact ⟨rfl, rfl⟩
set_option maxHeartbeats 400000 in
set_option maxRecDepth 100000 in
theorem see_any (g i x k : Nat) (b : Int) (w : World) (hc : w.cell? ⟨g, i, none⟩ = some (.int .u8 (x : Int))) (hx : x < 256) (hk : k < 8) (hb : b = ((2 ^ k : Nat) : Int)) :
    Calls Try.prog 20 #[.pointer (some ⟨g, i, none⟩), .int .u8 b] w fun e w' => e = .returned (.bool (x.testBit k)) ∧ w = w' := by
  subst hb
  have hp : 2 ^ k < 256 := Nat.pow_lt_pow_right (by decide) hk
  have ht : (((x &&& 2 ^ k : Nat) : Int) != 0) = x.testBit k := by
    have := and_pow x k
    cases h : x.testBit k with
    | false => rw [bne_eq_false_iff_eq]; have := this.2 h; omega
    | true => rw [bne_iff_ne]; intro h0; have := this.1 (by omega); rw [h] at this; cases this
  obtain ⟨b, hb⟩ : ∃ b, b = 2 ^ k := ⟨_, rfl⟩
  rw [← hb] at ht hp
  rw [← hb]
  clear hb
  have hand := and_u8 x b hx hp
  have HT := Lib.hid ht
  clear ht
  go_enter Try.func20, Try.ntmps20
  go_wp2
  go_ret
  refine ⟨?_, rfl⟩
  rw [← HT.out]
  simp
theorem pow_mod8 {k : Nat} (h : k < 8) : (2 : Int) ^ k % 256 = ((2 ^ k : Nat) : Int) := by
  have : ∀ x : Fin 8, (2 : Int) ^ x.val % 256 = ((2 ^ x.val : Nat) : Int) := by decide
  exact this ⟨k, h⟩
theorem lay_at (g i x k : Nat) (b : Int) (w : World) (hc : w.cell? ⟨g, i, none⟩ = some (.int .u8 (x : Int))) (hf : w.frozen? ⟨g, i, none⟩ = false) (hx : x < 256) (hk : k < 8) (hb : b = ((2 ^ k : Nat) : Int)) :
    Calls Try.prog 19 #[.pointer (some ⟨g, i, none⟩), .int .u8 b] w fun e w' => e = .returned (.bool true) ∧ w.setCell ⟨g, i, none⟩ (bv (by8 (x ||| 2 ^ k))) = w' := by
  subst hb
  have hp : 2 ^ k < 256 := Nat.pow_lt_pow_right (by decide) hk
  have hv : bv (by8 (x ||| 2 ^ k)) = .int .u8 ((x ||| 2 ^ k : Nat) : Int) := by
    unfold bv
    rw [by8_toNat (or_byte_lt x k hx hk)]
  rw [hv]
  exact lay_any g i x (2 ^ k) w hc hf hx hp

set_option maxHeartbeats 800000 in
set_option maxRecDepth 100000 in
theorem probe_lay (g N c base : Nat) (l : List UInt8) (A : Option Addr) (cc : Nat) (key : List UInt8) (w : World) (ho : Own w base (.slice (some ⟨g, 0, none⟩) (N + 1) c) l) (hl : l.length = N + 1) (hk : Rd w base A key) (hN : 8 ≤ N) (hM : N ≤ 1099511627776) (hkl : key.length ≤ 9223372036854775807) :
    Calls Try.prog 18 #[.slice (some ⟨g, 0, none⟩) (N + 1) c, .slice A key.length cc, .func (.func 19) #[] #[]] w fun e w' => e = .returned (.bool true) ∧
      Own w' base (.slice (some ⟨g, 0, none⟩) (N + 1) c) (addN (at8 l 0) (hash key) (step (hash key)) (N * 8) l) ∧ Below base w w' := by
  have HC := Lib.hid (fun w hr => hash_any A cc base key w hr hkl)
  have HK := Lib.hid hk
  have hH := hash_lt key
  obtain ⟨h0, hh0⟩ : ∃ h, h = hash key := ⟨_, rfl⟩
  rw [← hh0] at HC hH
  rw [← hh0]
  have HR := Lib.hid (fun w => rot_any h0 w hH)
  have c0 : w.cell? ⟨g, 0, none⟩ = some (.int .u8 (at8 l 0 : Int)) := by
    rw [ho.cell 0 (by omega)]
    unfold bv at8
    rw [List.getD_eq_getElem?_getD, List.getElem?_eq_getElem (by omega)]
    rfl
  have hor : bits .or .u64 (rot h0 : Int) 1 = (step h0 : Int) := or_u64 (rot h0) 1 (rot_lt hH) (by decide)
  have hSl := step_lt hH
  obtain ⟨s, hs⟩ : ∃ s, s = step h0 := ⟨_, rfl⟩
  obtain ⟨P, hP⟩ : ∃ P, P = at8 l 0 := ⟨_, rfl⟩
  have hP8 : P < 256 := by rw [hP]; exact at8_lt l 0
  rw [← hs] at hor hSl
  rw [← hP] at c0
  rw [← hs, ← hP]
  clear hs hP
  clear hh0 hk
  go_enter Try.func18, Try.ntmps18
  go_wp2_with (first | (go_at_call 10; refine (HC.out _ HK.out).mono ?_; rintro e w1 ⟨rfl, rfl⟩) | (go_at_call 21; refine (HR.out _).mono ?_; rintro e w1 ⟨rfl, rfl⟩))
  go_loopw [7, 24] (fun hv i wr => ∃ (q h : Nat) (l' : List UInt8), q ≤ P ∧ i = .int .u8 ((P : Int) - q) ∧ hv = .int .u64 h ∧ h < 18446744073709551616 ∧ l'.length = N + 1 ∧ Own wr base (.slice (some ⟨g, 0, none⟩) (N + 1) c) l' ∧ addN q h s (N * 8) l' = addN P h0 s (N * 8) l ∧ Below base w wr) (fun _ i _ => P - (intOf i).toNat)
  case atStart => exact ⟨P, h0, l, by omega, by simp, rfl, hH, hl, ho, rfl, Below.refl _ _⟩
  case round =>
    obtain ⟨q, h, l', hq, rfl, rfl, hh, hl', ho', hadd, hb⟩ := hrel
    cases q with
    | zero =>
      have HA := Lib.hid hadd
      clear hadd
      go_wp2
      go_ret
      refine ⟨by simp, ?_, hb⟩
      rw [← HA.out]
      exact ho'
    | succ q =>
      have HA := Lib.hid hadd
      clear hadd
      obtain ⟨J, hJ⟩ : ∃ J, J = h % (N * 8) := ⟨_, rfl⟩
      have hJi : (h : Int) % ((N : Int) * 8) = (J : Int) := by rw [hJ]; push_cast; rfl
      have hJl : J < N * 8 := by rw [hJ]; exact Nat.mod_lt _ (by omega)
      obtain ⟨d, hd⟩ : ∃ d, d = J / 8 := ⟨_, rfl⟩
      obtain ⟨k, hk⟩ : ∃ k, k = J % 8 := ⟨_, rfl⟩
      have hdi : (J : Int) / 8 = (d : Int) := by omega
      have hki : (J : Int) % 8 = (k : Int) := by omega
      have hdl : d < N := by omega
      have hkl : k < 8 := by omega
      have c1 : wr.cell? ⟨g, 1 + d, none⟩ = some (.int .u8 (at8 l' (1 + d) : Int)) := by
        rw [ho'.cell (1 + d) (by omega)]
        unfold bv at8
        rw [List.getD_eq_getElem?_getD, List.getElem?_eq_getElem (by omega)]
        rfl
      have f1 := ho'.free (1 + d)
      have hx8 := at8_lt l' (1 + d)
      have HB := Lib.hid (show setB l' J = l'.set (1 + d) (by8 (at8 l' (1 + d) ||| 2 ^ k)) by unfold setB; rw [← hd, ← hk])
      have HA' := Lib.hid (show addN q ((h + s) % 18446744073709551616) s (N * 8) (setB l' J) = addN P h0 s (N * 8) l by rw [← HA.out, hJ]; rfl)
      have HL := Lib.hid (fun (b : Int) hb => lay_at g (1 + d) (at8 l' (1 + d)) k b wr c1 f1 hx8 hkl hb)
      clear hJ hd hk
      go_wp2_with fail
      refine (HL.out _ (pow_mod8 hkl)).mono ?_
      rintro e w1 ⟨rfl, rfl⟩
      have o1 := ho'.set (1 + d) (by8 (at8 l' (1 + d) ||| 2 ^ k))
      have hwr : IntKind.u64.wrap ((h : Int) + (s : Int)) = (((h + s) % 18446744073709551616 : Nat) : Int) := by
        show (((h : Int) + (s : Int)) % 18446744073709551616) = _
        omega
      have HW := Lib.hid hwr
      have hbg : base ≤ g := ho.lt.1
      have hb1 := hb.setCell (p := ⟨g, 1 + d, none⟩) hbg (bv (by8 (at8 l' (1 + d) ||| 2 ^ k)))
      rw [← HB.out] at o1
      clear hwr c1 f1
      go_wp2
      go_roundw
      case rel => exact ⟨q, (h + s) % 18446744073709551616, setB l' J, by omega, by go_num, by rw [HW.out], Nat.mod_lt _ (by decide), by rw [setB_len]; exact hl', o1, HA'.out, hb1⟩
      case measure => simp [intOf]; omega

theorem rd_at8 {w : World} {g o : Nat} {l : List UInt8} (hc : ∀ i (h : i < l.length), w.cell? ⟨g, o + i, none⟩ = some (bv l[i])) {i : Nat} (h : i < l.length) : w.cell? ⟨g, o + i, none⟩ = some (.int .u8 (at8 l i : Int)) := by
  rw [hc i h]
  unfold bv at8
  rw [List.getD_eq_getElem?_getD, List.getElem?_eq_getElem h]
  rfl

set_option maxHeartbeats 800000 in
set_option maxRecDepth 100000 in
theorem probe_see (F : Option Addr) (N c B : Nat) (l : List UInt8) (A : Option Addr) (cc : Nat) (key : List UInt8) (w : World) (hf : Rd w B F l) (hl : l.length = N + 1) (hk : Rd w B A key) (hN : 8 ≤ N) (hM : N ≤ 1099511627776000) (hkl : key.length ≤ 9223372036854775807) :
    Calls Try.prog 18 #[.slice F (N + 1) c, .slice A key.length cc, .func (.func 20) #[] #[]] w fun e w' => e = .returned (.bool (askN (at8 l 0) (hash key) (step (hash key)) (N * 8) l)) ∧ w = w' := by
  have HC := Lib.hid (fun w hr => hash_any A cc B key w hr hkl)
  have HK := Lib.hid hk
  have hH := hash_lt key
  obtain ⟨h0, hh0⟩ : ∃ h, h = hash key := ⟨_, rfl⟩
  rw [← hh0] at HC hH
  rw [← hh0]
  have HR := Lib.hid (fun w => rot_any h0 w hH)
  rcases hf with h | ⟨g, o, rfl, hg, hcell⟩
  · rw [h] at hl; simp at hl
  have c0 := rd_at8 hcell (i := 0) (by omega)
  rw [Nat.add_zero] at c0
  have HCELL := Lib.hid hcell
  have hor : bits .or .u64 (rot h0 : Int) 1 = (step h0 : Int) := or_u64 (rot h0) 1 (rot_lt hH) (by decide)
  have hSl := step_lt hH
  obtain ⟨s, hs⟩ : ∃ s, s = step h0 := ⟨_, rfl⟩
  obtain ⟨P, hP⟩ : ∃ P, P = at8 l 0 := ⟨_, rfl⟩
  have hP8 : P < 256 := by rw [hP]; exact at8_lt l 0
  rw [← hs] at hor hSl
  rw [← hP] at c0
  rw [← hs, ← hP]
  clear hs hP hh0 hk hcell
  go_enter Try.func18, Try.ntmps18
  go_wp2_with (first | (go_at_call 10; refine (HC.out _ HK.out).mono ?_; rintro e w1 ⟨rfl, rfl⟩) | (go_at_call 21; refine (HR.out _).mono ?_; rintro e w1 ⟨rfl, rfl⟩))
  go_loopw [7, 24] (fun hv i wr => ∃ (q h : Nat), q ≤ P ∧ i = .int .u8 ((P : Int) - q) ∧ hv = .int .u64 h ∧ h < 18446744073709551616 ∧ askN q h s (N * 8) l = askN P h0 s (N * 8) l ∧ wr = w) (fun _ i _ => P - (intOf i).toNat)
  case atStart => exact ⟨P, h0, by omega, by simp, rfl, hH, rfl, rfl⟩
  case round =>
    obtain ⟨q, h, hq, rfl, rfl, hh, hask, rfl⟩ := hrel
    cases q with
    | zero =>
      have HA := Lib.hid hask
      clear hask
      go_wp2
      go_ret
      rw [← HA.out]
      exact ⟨by simp [askN], rfl⟩
    | succ q =>
      obtain ⟨J, hJ⟩ : ∃ J, J = h % (N * 8) := ⟨_, rfl⟩
      have hJi : (h : Int) % ((N : Int) * 8) = (J : Int) := by rw [hJ]; push_cast; rfl
      have hJl : J < N * 8 := by rw [hJ]; exact Nat.mod_lt _ (by omega)
      obtain ⟨d, hd⟩ : ∃ d, d = J / 8 := ⟨_, rfl⟩
      obtain ⟨k, hk⟩ : ∃ k, k = J % 8 := ⟨_, rfl⟩
      have hdi : (J : Int) / 8 = (d : Int) := by omega
      have hki : (J : Int) % 8 = (k : Int) := by omega
      have hdl : d < N := by omega
      have hkl : k < 8 := by omega
      have c1 := rd_at8 HCELL.out (i := 1 + d) (by omega)
      have hx8 := at8_lt l (1 + d)
      have HB := Lib.hid (show askN P h0 s (N * 8) l = ((at8 l (1 + d)).testBit k && askN q ((h + s) % 18446744073709551616) s (N * 8) l) by rw [← hask, hd, hk, hJ]; rfl)
      have HL := Lib.hid (fun (b : Int) hb => see_any g (o + (1 + d)) (at8 l (1 + d)) k b wr c1 hx8 hkl hb)
      clear hJ hd hk hask c1
      rcases hbit : (at8 l (1 + d)).testBit k with _ | _
      · rw [hbit] at HL HB
        clear hbit
        go_wp2_with fail
        refine (HL.out _ (pow_mod8 hkl)).mono ?_
        rintro e w1 ⟨rfl, rfl⟩
        go_wp2
        go_ret
        rw [HB.out]
        exact ⟨by simp, rfl⟩
      · rw [hbit] at HL HB
        clear hbit
        have hwr : IntKind.u64.wrap ((h : Int) + (s : Int)) = (((h + s) % 18446744073709551616 : Nat) : Int) := by
          show (((h : Int) + (s : Int)) % 18446744073709551616) = _
          omega
        have HW := Lib.hid hwr
        clear hwr
        go_wp2_with fail
        refine (HL.out _ (pow_mod8 hkl)).mono ?_
        rintro e w1 ⟨rfl, rfl⟩
        go_wp2
        go_roundw
        case rel => exact ⟨q, (h + s) % 18446744073709551616, by omega, by go_num, by rw [HW.out], Nat.mod_lt _ (by decide), by rw [HB.out]; simp, trivial⟩
        case measure => simp [intOf]; omega
end Go.Proofs.Ytogfojohflkdnaa
