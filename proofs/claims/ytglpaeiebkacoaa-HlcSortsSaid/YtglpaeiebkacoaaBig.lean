/-
  The contract of hlc's bigEnd.
-/
import Derived.Test.YtglpaeiebkacoaaBase
import Derived.Test.YtglpaeiebkacoaaPlain
namespace Go.Proofs.Ytglpaeiebkacoaa
open Go.RowKit

/-- a number's last k bytes, the greatest first -/
def beB (n : Nat) : Nat → List UInt8
  | 0 => []
  | k + 1 => by8 (n / 2 ^ (8 * k)) :: beB n k
theorem beB_len (n : Nat) : ∀ k, (beB n k).length = k
  | 0 => rfl
  | k + 1 => by simp [beB, beB_len n k]

set_option maxHeartbeats 800000 in
set_option maxRecDepth 100000 in
theorem bigEnd_any (n K base : Nat) (v : Value) (pre : List UInt8) (w : World) (hK : K ≤ 7) (ho : Own w base v pre) (hb : base ≤ w.heap.size) (hp : pre.length ≤ 100) :
    Calls Try.prog 33 #[v, .int .i64 (n : Int), .int .i64 (K : Int)] w fun e w' => ∃ v', e = .returned v' ∧ Own w' base v' (pre ++ beB n K) ∧ Below base w w' := by
  go_enter Try.func33, Try.ntmps33
  go_wp2
  go_loopw [0, 7] (fun v i wr => ∃ (k : Nat) (out : List UInt8), i = .int .i64 ((k : Int) - 1) ∧ k ≤ K ∧ Own wr base v out ∧ out.length + k = pre.length + K ∧ out ++ beB n k = pre ++ beB n K ∧ Below base w wr) (fun _ i _ => (intOf i + 1).toNat)
  case atStart => exact ⟨K, pre, rfl, by omega, ho, rfl, rfl, Below.refl _ _⟩
  case round =>
    obtain ⟨k, out, rfl, hk, hown, hlen, hout, hbel⟩ := hrel
    have HO := Lib.hid hout
    have hB := hbel.size
    clear hout
    cases k with
    | zero =>
      go_wp2
      go_ret
      refine ⟨_, rfl, ?_, hbel⟩
      have := HO.out
      simp only [beB, List.append_nil] at this
      rw [← this]
      exact hown
    | succ k =>
      have hbyte : ((n : Int) / 2 ^ (8 * k) % 256) = ((by8 (n / 2 ^ (8 * k))).toNat : Int) := by
        rw [by8_nat, Int.natCast_emod, Int.natCast_ediv, Int.natCast_pow]; rfl
      have HB := Lib.hid hbyte
      clear hbyte
      go_wp2_with (at_builtin; refine app_one _ base _ out (by8 (n / 2 ^ (8 * k))) _ HB.out rfl (.tmp 14) (.tmp 20) rfl rfl rfl hown ?e2 ?e3 ?_)
      case e2 => omega
      case e3 => omega
      intro v1 w1 o1 hb1
      go_wp2
      go_roundw
      case rel => exact ⟨k, out ++ [by8 (n / 2 ^ (8 * k))], by go_num, by omega, o1, by simp; omega, by rw [← HO.out]; simp [beB], hbel.trans hb1⟩
      case measure => simp [intOf]
theorem bigEnd_at (n K base : Nat) (x y : Int) (hx : x = (n : Int)) (hy : y = (K : Int)) (v : Value) (pre : List UInt8) (w : World) (hK : K ≤ 7) (ho : Own w base v pre) (hb : base ≤ w.heap.size) (hp : pre.length ≤ 100) :
    Calls Try.prog 33 #[v, .int .i64 x, .int .i64 y] w fun e w' => ∃ v', e = .returned v' ∧ Own w' base v' (pre ++ beB n K) ∧ Below base w w' := by
  subst hx hy
  exact bigEnd_any n K base v pre w hK ho hb hp

/-- number of bytes, the greatest first -/
def numB (N : Nat) : List UInt8 → Nat
  | [] => N
  | c :: l => numB (N * 256 + c.toNat) l
theorem numB_lt : ∀ (l : List UInt8) (N k : Nat), N < 256 ^ k → numB N l < 256 ^ (k + l.length)
  | [], N, k, h => h
  | c :: l, N, k, h => by
    have := numB_lt l (N * 256 + c.toNat) (k + 1) (by have := c.toNat_lt; rw [Nat.pow_succ]; omega)
    simp only [numB, List.length_cons]
    rw [show k + (l.length + 1) = k + 1 + l.length by omega]
    exact this
end Go.Proofs.Ytglpaeiebkacoaa
