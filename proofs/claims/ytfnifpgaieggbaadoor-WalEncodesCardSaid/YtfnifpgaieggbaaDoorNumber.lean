/-
  The contract of codec.Number.
-/
import Derived.Test.YtfnifpgaieggbaaDoorBase
import Derived.Outline
namespace Go.Proofs.YtfnifpgaieggbaaDoor
open Go.RowKit

theorem step_rel {n m f : Nat} {l : List UInt8} {w wr w' : World} {v' : Value} (hm : m < 128 ^ (f + 1)) (hl : l.length + f = 9) (hc : num n = l ++ numF f m) (h : ¬ m < 128) (hbel : Below w.heap.size w wr)
    (h1 : Own w' w.heap.size v' (l ++ [by8 (128 + m % 128)])) (h2 : Below w.heap.size wr w') :
    ∃ (m' f : Nat) (l : List UInt8), Value.int .u64 ((m : Int) / 128) = .int .u64 m' ∧ m' < 128 ^ (f + 1) ∧ l.length + f = 9 ∧ num n = l ++ numF f m' ∧ Own w' w.heap.size v' l ∧ Below w.heap.size w w' := by
  cases f with
  | zero => omega
  | succ f =>
    refine ⟨m / 128, f, _, by go_num, ?_, ?_, ?_, h1, hbel.trans h2⟩
    · rw [Nat.pow_succ] at hm
      exact Nat.div_lt_of_lt_mul (by omega)
    · simp; omega
    · rw [hc, numF_ge h]; simp

set_option maxRecDepth 100000 in
theorem number_any (n : Nat) (w : World) (hn : n < 128 ^ 10) :
    Calls Tryd.prog 19 #[.int .u64 n] w fun e w' => ∃ v, e = .returned v ∧ Own w' w.heap.size v (num n) ∧ Below w.heap.size w w' := by
  have H0 := Lib.hid hn
  clear hn
  go_enter Tryd.func19, Tryd.ntmps19
  go_wp2
  go_loopw [0, 3] (fun i v wr => ∃ (m f : Nat) (l : List UInt8), i = .int .u64 m ∧ m < 128 ^ (f + 1) ∧ l.length + f = 9 ∧ num n = l ++ numF f m ∧ Own wr w.heap.size v l ∧ Below w.heap.size w wr) (fun i _ _ => (intOf i).toNat)
  case atStart => exact ⟨n, 9, [], rfl, H0.out, rfl, rfl, Own.nil_ _ _, Below.refl _ _⟩
  case round =>
    obtain ⟨m, f, l, rfl, hm, hl, hc, hown, hbel⟩ := hrel
    have HM := Lib.hid hm
    have HC := Lib.hid hc
    have hl9 : l.length ≤ 9 := by omega
    have HL := Lib.hid hl
    clear hm hc hl
    by_cases h : m < 128
    · go_wp2_with (at_builtin; go_loud (refine app_one _ w.heap.size _ l (by8 m) _ ?e1 rfl (.tmp 14) (.tmp 17) rfl rfl rfl hown ?e2 ?e3 ?_))
      case e1 => exact (by8_toNat (by omega)).symm
      case e2 => omega
      case e3 => exact hbel.size
      intro v' w' h1 h2
      go_wp2
      go_ret
      exact ⟨_, rfl, by rw [HC.out, numF_lt h]; exact h1, hbel.trans h2⟩
    · go_wp2_with (at_builtin; go_loud (refine app_one _ w.heap.size _ l (by8 (128 + m % 128)) _ ?e1 rfl (.tmp 6) (.tmp 10) rfl rfl rfl hown ?e2 ?e3 ?_))
      case e1 => rw [or128, by8_toNat (by omega)]
      case e2 => omega
      case e3 => exact hbel.size
      intro v' w' h1 h2
      go_wp2
      go_roundw
      case rel => exact step_rel HM.out HL.out HC.out h hbel h1 h2
      case measure => simp [intOf]; omega
end Go.Proofs.YtfnifpgaieggbaaDoor
