/-
  The reader of the program: count.
-/
import Derived.Test.YtekgmgiokmbliaaReader
import Derived.Laws.Bits64b
set_option linter.unusedVariables false
namespace Go.Proofs.Ytekgmgiokmbliaa
open Go.RowKit

/-- a count read: rounds left, place, what is gathered -/
def rcF : Nat → Nat → Nat → RS → Nat × RS
  | 0, _, _, s => (0, (s.1, true))
  | f + 1, k, N, s => if (rbyte s).1 < 128 then (N + (rbyte s).1 * 2 ^ (7 * k), (rbyte s).2) else rcF f (k + 1) (N + ((rbyte s).1 - 128) * 2 ^ (7 * k)) (rbyte s).2
def rcount (s : RS) : Nat × RS := rcF 8 0 0 s
theorem rbyte_lt (s : RS) : (rbyte s).1 < 256 := by
  obtain ⟨l, b⟩ := s
  cases l with
  | nil => simp [rbyte]
  | cons x r => exact x.toNat_lt

theorem bits_or_i64_nat (a b : Nat) (ha : a < 9223372036854775808) (hb : b < 9223372036854775808) :
    bits .or .i64 (a : Int) (b : Int) = ((a ||| b : Nat) : Int) := by
  have hx : a ||| b < 2 ^ 63 := Nat.or_lt_two_pow (by omega) (by omega)
  have h1 : (BitVec.ofInt 64 (a : Int)).toNat = a := by
    rw [BitVec.ofInt_natCast, BitVec.toNat_ofNat]; exact Nat.mod_eq_of_lt (by omega)
  have h2 : (BitVec.ofInt 64 (b : Int)).toNat = b := by
    rw [BitVec.ofInt_natCast, BitVec.toNat_ofNat]; exact Nat.mod_eq_of_lt (by omega)
  show IntKind.i64.wrap ((BitVec.ofInt 64 (a : Int) ||| BitVec.ofInt 64 (b : Int)).toNat : Int) = _
  rw [BitVec.toNat_or, h1, h2, IntWalk.i64_in _ (by omega)]
theorem and127 {c : Nat} (h : c < 256) : bits .and .i64 (c : Int) 127 = ((c % 128 : Nat) : Int) := by
  have h' : ∀ x : Fin 256, bits .and .i64 (x.val : Int) 127 = ((x.val % 128 : Nat) : Int) := by decide +kernel
  exact h' ⟨c, h⟩
theorem growC {N k x : Nat} (hN : N < 2 ^ (7 * k)) (hx : x < 128) : N + x * 2 ^ (7 * k) < 2 ^ (7 * (k + 1)) := by
  have h1 : (x + 1) * 2 ^ (7 * k) ≤ 128 * 2 ^ (7 * k) := Nat.mul_le_mul_right _ (by omega)
  have h2 : 2 ^ (7 * (k + 1)) = 128 * 2 ^ (7 * k) := by rw [Nat.mul_add, Nat.pow_add, Nat.mul_comm]
  rw [h2]
  rw [Nat.add_mul] at h1
  omega
theorem shlC {k x : Nat} (hk : k < 8) (hx : x < 128) : x * 2 ^ (7 * k) < 2 ^ 56 := by
  have h1 : 2 ^ (7 * k) ≤ 2 ^ 49 := Nat.pow_le_pow_right (by decide) (by omega)
  have h2 : x * 2 ^ (7 * k) ≤ 127 * 2 ^ 49 := Nat.mul_le_mul (by omega) h1
  omega
theorem orAddC (N k x : Nat) (hk : k < 8) (hN : N < 2 ^ (7 * k)) (hx : x < 128) : bits .or .i64 (N : Int) ((x * 2 ^ (7 * k) : Nat) : Int) = ((N + x * 2 ^ (7 * k) : Nat) : Int) := by
  have hp := shlC hk hx
  have hN' : N < 2 ^ 49 := Nat.lt_of_lt_of_le hN (Nat.pow_le_pow_right (by decide) (by omega))
  rw [bits_or_i64_nat _ _ (by omega) (by omega)]
  have := Nat.two_pow_add_eq_or_of_lt hN x
  rw [Nat.or_comm, Nat.mul_comm x, ← this, Nat.add_comm]

theorem orW (N k c : Nat) (hk : k < 8) (hN : N < 2 ^ (7 * k)) : bits .or .i64 (N : Int) (wrap64 ((c : Int) % 128 * 2 ^ (7 * k))) = ((N + c % 128 * 2 ^ (7 * k) : Nat) : Int) := by
  have hp := shlC hk (Nat.mod_lt c (by decide : 128 > 0))
  have e : ((c : Int) % 128 * 2 ^ (7 * k)) = ((c % 128 * 2 ^ (7 * k) : Nat) : Int) := by simp
  rw [e, show wrap64 ((c % 128 * 2 ^ (7 * k) : Nat) : Int) = ((c % 128 * 2 ^ (7 * k) : Nat) : Int) from by unfold wrap64; omega]
  exact orAddC N k (c % 128) hk hN (Nat.mod_lt c (by decide))
theorem RdrAt.set_bad {w : World} {g B : Nat} {s : RS} (h : RdrAt w g B s) : RdrAt (w.setCell ⟨g, 1, none⟩ (.bool true)) g B (s.1, true) := by
  obtain ⟨A, c, hc, h1, h2, hr, hA⟩ := h.at_
  exact ⟨⟨A, c, hc.far (by simp) _, h1, h2, hr.only ((Only.refl g w).set1 1 _) h.hB hc.lt, hA⟩, h.bad.set _, h.hB⟩

set_option maxHeartbeats 1600000 in
set_option maxRecDepth 100000 in
theorem dcount_any (g B : Nat) (s : RS) (w : World) (h : RdrAt w g B s) :
    Calls Try.prog 64 #[.pointer (some ⟨g, 0, none⟩)] w fun e w' => e = .returned (.int .i64 (rcount s).1) ∧ RdrAt w' g B (rcount s).2 ∧ Only g w w' := by
  have HR := Lib.hid h
  have HB := Lib.hid h.hB
  clear h
  go_enter Try.func64, Try.ntmps64
  go_wp2
  go_loopw [3, 4] (fun s3 s4 wr => ∃ (k N : Nat) (s' : RS), s3 = .int .i64 N ∧ s4 = .int .i64 (7 * (k : Int)) ∧ k ≤ 8 ∧ Hid (N < 2 ^ (7 * k)) ∧ Hid (RdrAt wr g B s') ∧ Hid (Only g w wr) ∧ Hid (rcount s = rcF (8 - k) k N s')) (fun _ s4 _ => 56 - (intOf s4).toNat)
  case atStart => exact ⟨0, 0, s, rfl, rfl, by omega, Lib.hid (by decide), HR, Only.refl _ _, rfl⟩
  case round =>
    clear HR
    obtain ⟨k, N, s', rfl, rfl, hk, HN, HR, HO, HC⟩ := hrel
    by_cases hlt : k < 8
    · have BY := Lib.hid (dbyte_any g B s' wr HR.out)
      have hc256 := rbyte_lt s'
      obtain ⟨c, hc⟩ : ∃ c, c = (rbyte s').1 := ⟨_, rfl⟩
      obtain ⟨t, ht⟩ : ∃ t, t = (rbyte s').2 := ⟨_, rfl⟩
      replace BY := BY.out
      rw [← hc, ← ht] at BY
      rw [← hc] at hc256
      replace BY := Lib.hid BY
      have HCC : Hid (rcount s = if c < 128 then (N + c * 2 ^ (7 * k), t) else rcF (8 - (k + 1)) (k + 1) (N + (c - 128) * 2 ^ (7 * k)) t) := by
        show _ = _
        rw [HC.out, show 8 - k = (8 - (k + 1)) + 1 by omega, rcF, ← hc, ← ht]
      have han := and127 hc256
      have s1 : (0 : Int) ≤ 7 * (k : Int) := by omega
      have s2 : (7 : Int) * (k : Int) < 56 := by omega
      have hcm : c % 128 < 128 := Nat.mod_lt _ (by decide)
      have hor := orAddC N k (c % 128) hlt HN.out hcm
      have hsl := shlC (k := k) hlt hcm
      clear hc ht
      go_wp2_with fail
      refine BY.out.mono ?_
      rintro e w2 ⟨rfl, hr2, ho2⟩
      have HR2 := Lib.hid hr2
      have HO2 := Lib.hid (HO.out.trans ho2)
      clear hr2 ho2
      have hOR := Lib.hid (orW N k c hlt HN.out)
      clear hor hsl
      by_cases hc1 : c < 128
      · go_wp2
        go_ret
        rw [HCC.out, if_pos hc1]
        exact ⟨by rw [hOR.out, Nat.mod_eq_of_lt hc1]; rfl, HR2.out, HO2.out⟩
      · have hk8 : k ≤ 7 := by omega
        go_wp2
        go_roundw
        case rel =>
          have hm : c % 128 = c - 128 := by omega
          refine ⟨k + 1, N + (c - 128) * 2 ^ (7 * k), t, by rw [hOR.out, hm], by go_num, by omega, Lib.hid (growC HN.out (by omega)), HR2, HO2, ?_⟩
          show _ = _
          rw [HCC.out, if_neg hc1]
        case measure => simp [intOf]; omega
    · have hk8 : k = 8 := by omega
      subst hk8
      obtain ⟨A, c, ⟨k0, f0⟩, _⟩ := HR.out.at_
      obtain ⟨k1, f1⟩ := HR.out.bad
      have HF : Hid (RdrAt (wr.setCell ⟨g, 1, none⟩ (.bool true)) g B (s'.1, true) ∧ Only g w (wr.setCell ⟨g, 1, none⟩ (.bool true))) := ⟨HR.out.set_bad, HO.out.set1 1 _⟩
      go_wp2
      go_ret
      rw [HC.out]
      exact ⟨rfl, HF.out.1, HF.out.2⟩
end Go.Proofs.Ytekgmgiokmbliaa
