/-
  The contracts of codec.sign, codec.Compare and of the reference's Compare.
-/
import Derived.Test.YtninjoepdchmiaaBase
import Derived.Deep.QuietTactic
import Derived.BigQuiet
import Derived.Outline
namespace Go.Proofs.Ytninjoepdchmiaa
open Go.RowKit

def sgn (d : Int) : Int := if d < 0 then -1 else if 0 < d then 1 else 0

set_option linter.unusedVariables false in
theorem sign_any (d : Int) (w : World) (h0 : -9223372036854775808 ≤ d) (h1 : d ≤ 9223372036854775807) :
    Calls Try.prog 84 #[.int .i64 d] w fun e w' => e = .returned (.int .i64 (sgn d)) ∧ w = w' := by
  unfold sgn
  by_cases a : d < 0
  · rw [if_pos a]
    go_enter Try.func84, Try.ntmps84
    go_wp2
    go_ret
    exact ⟨rfl, rfl⟩
  · by_cases b : 0 < d
    · rw [if_neg a, if_pos b]
      go_enter Try.func84, Try.ntmps84
      go_wp2
      go_ret
      exact ⟨rfl, rfl⟩
    · rw [if_neg a, if_neg b]
      go_enter Try.func84, Try.ntmps84
      go_wp2
      go_ret
      exact ⟨rfl, rfl⟩

/-- codec.Compare, both lists not empty -/
theorem compare_full (g o g' o' : Nat) (c c' : Nat) (s t : List UInt8) (w : World) (hs : ∀ i (h : i < s.length), w.cell? ⟨g, o + i, none⟩ = some (bv s[i])) (ht : ∀ i (h : i < t.length), w.cell? ⟨g', o' + i, none⟩ = some (bv t[i]))
    (ls : s.length ≤ 9223372036854775807) (lt : t.length ≤ 9223372036854775807) :
    Calls Try.prog 70 #[.slice (some ⟨g, o, none⟩) s.length c, .slice (some ⟨g', o', none⟩) t.length c'] w fun e w' => e = .returned (.int .i64 (cmp s t)) ∧ ∃ n, w' = w.drewN n := by
  by_cases hm : t.length < s.length
  all_goals
  · go_enter Try.func70, Try.ntmps70
    go_wp2
    go_loopw [11] (fun i wr => ∃ k n : Nat, k ≤ s.length ∧ k ≤ t.length ∧ i = .int .i64 k ∧ wr = w.drewN n ∧ cmp s t = cmp (s.drop k) (t.drop k)) (fun i _ => s.length - (intOf i).toNat)
    case atStart => exact ⟨0, 0, by omega, by omega, rfl, rfl, rfl⟩
    case round =>
      obtain ⟨k, n, hk1, hk2, rfl, rfl, hc⟩ := hrel
      have HC := Lib.hid hc
      clear hc
      by_cases hlt : k < s.length ∧ k < t.length
      · obtain ⟨h1, h2⟩ := hlt
        have c1 : w.cell? ⟨g, o + k, none⟩ = some (.int .u8 (s[k].toNat : Int)) := hs k h1
        have c2 : w.cell? ⟨g', o' + k, none⟩ = some (.int .u8 (t[k].toNat : Int)) := ht k h2
        have b1 := s[k].toNat_lt
        have b2 := t[k].toNat_lt
        clear hs ht
        rcases Nat.lt_trichotomy s[k].toNat t[k].toNat with h | h | h
        · have H := Lib.hid (cmp_lt h1 h2 h)
          have hb : ((s[k].toNat : Int) != (t[k].toNat : Int)) = true := by rw [bne_iff_ne]; omega
          go_wp2
          go_quiet (fail)
          go_wp2
          go_quiet ((go_at_call 84; exact still2 (sign_any _ _ (by omega) (by omega))))
          go_wp2
          go_ret
          exact ⟨by rw [HC.out, H.out]; unfold sgn; rw [if_pos (by omega)]; rfl, _, by rw [World.drewN_drewN, World.drewN_drewN]⟩
        · have H := Lib.hid (cmp_eq h1 h2 h)
          have hb : ((s[k].toNat : Int) != (t[k].toNat : Int)) = false := by rw [h]; simp
          clear h
          go_wp2
          go_quiet (fail)
          go_wp2
          go_roundw
          case rel => exact ⟨k + 1, _, by omega, by omega, by go_num, rfl, by rw [HC.out, H.out]⟩
          case measure => simp [intOf]; omega
        · have H := Lib.hid (cmp_gt h1 h2 h)
          have hb : ((s[k].toNat : Int) != (t[k].toNat : Int)) = true := by rw [bne_iff_ne]; omega
          go_wp2
          go_quiet (fail)
          go_wp2
          go_quiet ((go_at_call 84; exact still2 (sign_any _ _ (by omega) (by omega))))
          go_wp2
          go_ret
          exact ⟨by rw [HC.out, H.out]; unfold sgn; rw [if_neg (by omega), if_pos (by omega)]; rfl, _, by rw [World.drewN_drewN, World.drewN_drewN]⟩
      · have H := Lib.hid (cmp_end (s := s) (t := t) (k := k) (by omega))
        clear hs ht
        go_wp2_with (go_at_call 84; refine (sign_any _ _ (by omega) (by omega)).mono ?_; rintro e w' ⟨rfl, rfl⟩)
        all_goals
          go_ret
          refine ⟨?_, _, rfl⟩
          rw [HC.out, H.out]
          unfold sgn
          by_cases x1 : s.length < t.length
          · rw [if_pos (by omega), if_pos x1]; rfl
          · by_cases x2 : t.length < s.length
            · rw [if_neg (by omega), if_pos (by omega), if_neg x1, if_pos x2]; rfl
            · rw [if_neg (by omega), if_neg (by omega), if_neg x1, if_neg x2]; rfl

theorem compare_none (A A' : Option Addr) (c c' m : Nat) (w : World) (hm : m ≤ 9223372036854775807) :
    Calls Try.prog 70 #[.slice A 0 c, .slice A' m c'] w fun e w' => e = .returned (.int .i64 (sgn (-(m : Int)))) ∧ w = w' := by
  go_enter Try.func70, Try.ntmps70
  go_wp2
  all_goals
    refine wp_loop_rounds 1 ?_
    rw [rounds_succ]
    go_wp2_with (go_at_call 84; refine (sign_any _ _ (by omega) (by omega)).mono ?_; rintro e w' ⟨rfl, rfl⟩)
    go_ret
    exact ⟨rfl, rfl⟩
theorem compare_none' (A A' : Option Addr) (c c' m : Nat) (w : World) (hm : m ≤ 9223372036854775807) :
    Calls Try.prog 70 #[.slice A m c, .slice A' 0 c'] w fun e w' => e = .returned (.int .i64 (sgn (m : Int))) ∧ w = w' := by
  go_enter Try.func70, Try.ntmps70
  go_wp2
  all_goals
    refine wp_loop_rounds 1 ?_
    rw [rounds_succ]
    go_wp2_with (go_at_call 84; refine (sign_any _ _ (by omega) (by omega)).mono ?_; rintro e w' ⟨rfl, rfl⟩)
    go_ret
    exact ⟨rfl, rfl⟩

/-- codec.Compare, whatever the lists -/
theorem compare_any (A A' : Option Addr) (c c' B B' : Nat) (s t : List UInt8) (w : World) (hs : Rd w B A s) (ht : Rd w B' A' t) (ls : s.length ≤ 9223372036854775807) (lt : t.length ≤ 9223372036854775807) :
    Calls Try.prog 70 #[.slice A s.length c, .slice A' t.length c'] w fun e w' => e = .returned (.int .i64 (cmp s t)) ∧ Below w.heap.size w w' := by
  rcases hs with rfl | ⟨g, o, rfl, _, hs⟩
  · refine (compare_none A A' c c' t.length w lt).mono ?_
    rintro e w' ⟨rfl, rfl⟩
    refine ⟨?_, Below.refl _ _⟩
    cases t with
    | nil => rfl
    | cons x t => simp only [cmp, sgn, List.length_cons]; rw [if_pos (by omega)]
  · rcases ht with rfl | ⟨g', o', rfl, _, ht⟩
    · refine (compare_none' _ A' c c' s.length w ls).mono ?_
      rintro e w' ⟨rfl, rfl⟩
      refine ⟨?_, Below.refl _ _⟩
      cases s with
      | nil => rfl
      | cons x t => simp only [cmp, sgn, List.length_cons]; rw [if_neg (by omega), if_pos (by omega)]
    · refine (compare_full g o g' o' c c' s t w hs ht ls lt).mono ?_
      rintro e w' ⟨rfl, n, rfl⟩
      exact ⟨rfl, below_drewN (Below.refl _ _) n⟩

end Go.Proofs.Ytninjoepdchmiaa
