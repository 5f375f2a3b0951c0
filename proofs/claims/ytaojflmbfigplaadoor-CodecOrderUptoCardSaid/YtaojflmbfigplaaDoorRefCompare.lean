/-
  The contract of the reference's Compare.
-/
import Derived.Test.YtaojflmbfigplaaDoorBase
import Derived.Deep.QuietTactic
import Derived.BigQuiet
import Derived.Outline
namespace Go.Proofs.YtaojflmbfigplaaDoor
open Go.RowKit

/-- the reference's Compare, both lists not empty -/
theorem rcompare_full (g o g' o' : Nat) (c c' : Nat) (s t : List UInt8) (w : World) (hs : ∀ i (h : i < s.length), w.cell? ⟨g, o + i, none⟩ = some (bv s[i])) (ht : ∀ i (h : i < t.length), w.cell? ⟨g', o' + i, none⟩ = some (bv t[i]))
    (ls : s.length ≤ 9223372036854775807) (lt : t.length ≤ 9223372036854775807) :
    Calls Tryd.prog 40 #[.slice (some ⟨g, o, none⟩) s.length c, .slice (some ⟨g', o', none⟩) t.length c'] w fun e w' => e = .returned (.int .i64 (cmp s t)) ∧ ∃ n, w' = w.drewN n := by
  go_enter Tryd.func40, Tryd.ntmps40
  go_wp2
  go_loopw [5] (fun i wr => ∃ k n : Nat, k ≤ s.length ∧ k ≤ t.length ∧ i = .int .i64 k ∧ wr = w.drewN n ∧ cmp s t = cmp (s.drop k) (t.drop k)) (fun i _ => s.length - (intOf i).toNat)
  case atStart => exact ⟨0, 0, by omega, by omega, rfl, rfl, rfl⟩
  case round =>
    obtain ⟨k, n, hk1, hk2, rfl, rfl, hc⟩ := hrel
    have HC := Lib.hid hc
    clear hc
    by_cases hlt : k < s.length ∧ k < t.length
    · obtain ⟨h1, h2⟩ := hlt
      have c1 : w.cell? ⟨g, o + k, none⟩ = some (.int .u8 (s[k].toNat : Int)) := hs k h1
      have c2 : w.cell? ⟨g', o' + k, none⟩ = some (.int .u8 (t[k].toNat : Int)) := ht k h2
      have b1 := s[k].toNat_lt
      have b2 := t[k].toNat_lt
      clear hs ht
      rcases Nat.lt_trichotomy s[k].toNat t[k].toNat with h | h | h
      · have H := Lib.hid (cmp_lt h1 h2 h)
        have hb : ((s[k].toNat : Int) != (t[k].toNat : Int)) = true := by rw [bne_iff_ne]; omega
        go_wp2
        go_quiet (fail)
        go_wp2
        go_quiet (fail)
        go_wp2
        go_ret
        exact ⟨by rw [HC.out, H.out]; rfl, _, by rw [World.drewN_drewN, World.drewN_drewN]⟩
      · have H := Lib.hid (cmp_eq h1 h2 h)
        have hb : ((s[k].toNat : Int) != (t[k].toNat : Int)) = false := by rw [h]; simp
        clear h
        go_wp2
        go_quiet (fail)
        go_wp2
        go_roundw
        case rel => exact ⟨k + 1, _, by omega, by omega, by go_num, rfl, by rw [HC.out, H.out]⟩
        case measure => simp [intOf]; omega
      · have H := Lib.hid (cmp_gt h1 h2 h)
        have hb : ((s[k].toNat : Int) != (t[k].toNat : Int)) = true := by rw [bne_iff_ne]; omega
        go_wp2
        go_quiet (fail)
        go_wp2
        go_quiet (fail)
        go_wp2
        go_ret
        exact ⟨by rw [HC.out, H.out]; rfl, _, by rw [World.drewN_drewN, World.drewN_drewN]⟩
    · have H := Lib.hid (cmp_end (s := s) (t := t) (k := k) (by omega))
      clear hs ht
      rcases Nat.lt_trichotomy s.length t.length with h | h | h
      · have hb : ((s.length : Int) == (t.length : Int)) = false := by rw [beq_eq_false_iff_ne]; omega
        go_wp2
        all_goals
          go_ret
          exact ⟨by rw [HC.out, H.out, if_pos h]; rfl, _, rfl⟩
      · have hb : ((s.length : Int) == (t.length : Int)) = true := by rw [beq_iff_eq]; omega
        have h1 : ¬ s.length < t.length := by omega
        have h2 : ¬ t.length < s.length := by omega
        clear h
        go_wp2
        all_goals
          go_ret
          exact ⟨by rw [HC.out, H.out, if_neg h1, if_neg h2]; rfl, _, rfl⟩
      · have hb : ((s.length : Int) == (t.length : Int)) = false := by rw [beq_eq_false_iff_ne]; omega
        have h1 : ¬ s.length < t.length := by omega
        go_wp2
        all_goals
          go_ret
          exact ⟨by rw [HC.out, H.out, if_neg h1, if_pos h]; rfl, _, rfl⟩

theorem rcompare_none (A A' : Option Addr) (c c' m : Nat) (w : World) (hm : m ≤ 9223372036854775807) :
    Calls Tryd.prog 40 #[.slice A 0 c, .slice A' m c'] w fun e w' => e = .returned (.int .i64 (if m = 0 then 0 else -1)) ∧ w = w' := by
  by_cases h : m = 0
  · subst h
    go_enter Tryd.func40, Tryd.ntmps40
    go_wp2
    refine wp_loop_rounds 1 ?_
    rw [rounds_succ]
    go_wp2
    go_ret
    exact ⟨rfl, rfl⟩
  · have hb : ((0 : Int) == (m : Int)) = false := by rw [beq_eq_false_iff_ne]; omega
    have h1 : 0 < m := by omega
    rw [if_neg h]
    go_enter Tryd.func40, Tryd.ntmps40
    go_wp2
    refine wp_loop_rounds 1 ?_
    rw [rounds_succ]
    go_wp2
    go_ret
    exact ⟨rfl, rfl⟩
theorem rcompare_none' (A A' : Option Addr) (c c' m : Nat) (w : World) (hm : m ≤ 9223372036854775807) :
    Calls Tryd.prog 40 #[.slice A m c, .slice A' 0 c'] w fun e w' => e = .returned (.int .i64 (if m = 0 then 0 else 1)) ∧ w = w' := by
  by_cases h : m = 0
  · subst h
    exact rcompare_none A A' c c' 0 w (by omega)
  · have hb : ((m : Int) == 0) = false := by rw [beq_eq_false_iff_ne]; omega
    have h1 : 0 < m := by omega
    rw [if_neg h]
    go_enter Tryd.func40, Tryd.ntmps40
    go_wp2
    refine wp_loop_rounds 1 ?_
    rw [rounds_succ]
    go_wp2
    go_ret
    exact ⟨rfl, rfl⟩

/-- the reference's Compare, whatever the lists -/
theorem rcompare_any (A A' : Option Addr) (c c' B B' : Nat) (s t : List UInt8) (w : World) (hs : Rd w B A s) (ht : Rd w B' A' t) (ls : s.length ≤ 9223372036854775807) (lt : t.length ≤ 9223372036854775807) :
    Calls Tryd.prog 40 #[.slice A s.length c, .slice A' t.length c'] w fun e w' => e = .returned (.int .i64 (cmp s t)) ∧ Below w.heap.size w w' := by
  rcases hs with rfl | ⟨g, o, rfl, _, hs⟩
  · refine (rcompare_none A A' c c' t.length w lt).mono ?_
    rintro e w' ⟨rfl, rfl⟩
    refine ⟨?_, Below.refl _ _⟩
    cases t with
    | nil => rfl
    | cons x t => simp [cmp]
  · rcases ht with rfl | ⟨g', o', rfl, _, ht⟩
    · refine (rcompare_none' _ A' c c' s.length w ls).mono ?_
      rintro e w' ⟨rfl, rfl⟩
      refine ⟨?_, Below.refl _ _⟩
      cases s with
      | nil => rfl
      | cons x t => simp [cmp]
    · refine (rcompare_full g o g' o' c c' s t w hs ht ls lt).mono ?_
      rintro e w' ⟨rfl, n, rfl⟩
      exact ⟨rfl, below_drewN (Below.refl _ _) n⟩

end Go.Proofs.YtaojflmbfigplaaDoor
