/-
  The reference's reader: Var.
-/
import Derived.Test.YtekgmgiokmbliaaXByte
set_option linter.unusedVariables false
namespace Go.Proofs.Ytekgmgiokmbliaa
open Go.RowKit

set_option maxHeartbeats 3200000 in
set_option maxRecDepth 100000 in
theorem xcount_any (g B : Nat) (s : RS) (w : World) (h : XRdr w g B s) :
    Calls Try.prog 49 #[.pointer (some ⟨g, 0, none⟩)] w fun e w' => e = .returned (.int .i64 (xcount s).1) ∧ XRdr w' g B (xcount s).2 ∧ Only g w w' := by
  have HR := Lib.hid h
  clear h
  go_enter Try.func49, Try.ntmps49
  go_wp2
  go_loopw [3, 4, 5] (fun s3 s4 s5 wr => ∃ (k N S : Nat) (s' : RS), s3 = .int .i64 N ∧ s4 = .int .i64 S ∧ s5 = .int .i64 k ∧ k ≤ 8 ∧ Hid (N < S ∧ S * 128 ^ (8 - k) = 72057594037927936) ∧ Hid (XRdr wr g B s') ∧ Hid (Only g w wr) ∧ Hid (xcount s = xcF (8 - k) k N S s')) (fun _ _ s5 _ => 8 - (intOf s5).toNat)
  case atStart => exact ⟨0, 0, 1, s, rfl, rfl, rfl, by omega, Lib.hid ⟨by decide, by decide⟩, HR, Only.refl _ _, rfl⟩
  case round =>
    clear HR
    obtain ⟨k, N, S, s', rfl, rfl, rfl, hk, HN, HR, HO, HC⟩ := hrel
    by_cases hlt : k < 8
    · have BY := Lib.hid (xbyte_any g B s' wr HR.out)
      have hc256 := xbyte_lt s'
      obtain ⟨c, hc⟩ : ∃ c, c = (xbyte s').1 := ⟨_, rfl⟩
      obtain ⟨t, ht⟩ : ∃ t, t = (xbyte s').2 := ⟨_, rfl⟩
      replace BY := BY.out
      rw [← hc, ← ht] at BY
      rw [← hc] at hc256
      replace BY := Lib.hid BY
      have HCC : Hid (xcount s = if c < 128 then (N + c * S, (t.1, t.2 || (decide (0 < k) && decide (c = 0) || decide (9007199254740991 < N + c * S)))) else xcF (8 - (k + 1)) (k + 1) (N + (c - 128) * S) (S * 128) t) := by
        show _ = _
        rw [HC.out, show 8 - k = (8 - (k + 1)) + 1 by omega, xcF, ← hc, ← ht]
      have hS49 : S ≤ 562949953421312 := by
        have h1 := HN.out.2
        rw [show 8 - k = (8 - (k + 1)) + 1 by omega, Nat.pow_succ] at h1
        have h2 : 1 ≤ 128 ^ (8 - (k + 1)) := Nat.pow_pos (by decide)
        have h3 : S * 1 ≤ S * 128 ^ (8 - (k + 1)) := Nat.mul_le_mul_left _ h2
        have h4 : S * (128 ^ (8 - (k + 1)) * 128) = S * 128 ^ (8 - (k + 1)) * 128 := by rw [Nat.mul_assoc]
        omega
      obtain ⟨d, hd⟩ : ∃ d, d = c % 128 := ⟨_, rfl⟩
      have hd128 : d < 128 := by rw [hd]; exact Nat.mod_lt _ (by decide)
      obtain ⟨P, hP⟩ : ∃ P, P = d * S := ⟨_, rfl⟩
      have hPl : P ≤ 127 * S := by rw [hP]; exact Nat.mul_le_mul_right _ (by omega)
      have hNS := HN.out.1
      have hmod : (c : Int) % 128 = (d : Int) := by rw [hd]; simp
      have hmul : (d : Int) * (S : Int) = (P : Int) := by rw [hP]; simp
      have hsum : (N : Int) + (P : Int) = ((N + P : Nat) : Int) := by simp
      obtain ⟨M, hM⟩ : ∃ M, M = N + P := ⟨_, rfl⟩
      rw [← hM] at hsum
      have hMl : M < S * 128 := by omega
      have HM : Hid (M = N + d * S ∧ d = c % 128) := ⟨by rw [hM, hP], hd⟩
      have HP0 : Hid (P = d * S) := hP
      clear hc ht hM hP hd
      go_wp2_with fail
      refine BY.out.mono ?_
      rintro e w2 ⟨rfl, hr2, ho2⟩
      have HR2 := Lib.hid hr2
      have HO2 := Lib.hid (HO.out.trans ho2)
      clear hr2 ho2
      by_cases hc1 : c < 128
      · have hdc : d = c := by have := HM.out.2; omega
        subst hdc
        have HF1 : Hid (xcount s = (M, (t.1, t.2 || (decide (0 < k) && decide (d = 0) || decide (9007199254740991 < M))))) := by
          show _ = _
          rw [HCC.out, if_pos hc1, ← HM.out.1]
        obtain ⟨A, L, c', p, ⟨k0, f0⟩, _⟩ := HR2.out.at_
        obtain ⟨k2, f2⟩ := HR2.out.bad
        by_cases hbad : (0 < k ∧ d = 0) ∨ 9007199254740991 < M
        · have hb : (t.2 || (decide (0 < k) && decide (d = 0) || decide (9007199254740991 < M))) = true := by
            rcases hbad with ⟨h1, h2⟩ | h1
            · simp [h1, h2]
            · simp [h1]
          have HF : Hid (XRdr (w2.setCell ⟨g, 2, none⟩ (.bool true)) g B (xcount s).2 ∧ Only g w (w2.setCell ⟨g, 2, none⟩ (.bool true)) ∧ (xcount s).1 = M) := by
            rw [HF1.out, hb]
            exact ⟨HR2.out.set_bad, HO2.out.set1 2 _, rfl⟩
          clear HF1 HCC HC HR BY hb HM
          rcases Nat.eq_zero_or_pos k with hk0 | hk0
          · subst hk0
            have hM9 : (9007199254740991 : Int) < (M : Int) := by omega
            clear hbad
            go_wp2
            go_ret
            exact ⟨by rw [HF.out.2.2]; rfl, HF.out.1, HF.out.2.1⟩
          · have hk1 : (0 : Int) < (k : Int) := by omega
            by_cases hd0 : d = 0
            · subst hd0
              have hMN : Hid (M = N) := by
                show _ = _
                have h0 : P = 0 := by have := HP0.out; rw [this]; exact Nat.zero_mul _
                omega
              clear hbad
              go_wp2
              go_ret
              exact ⟨by rw [HF.out.2.2, hMN.out]; rfl, HF.out.1, HF.out.2.1⟩
            · have hM9 : (9007199254740991 : Int) < (M : Int) := by omega
              have hd1 : ((d : Int) == 0) = false := by rw [beq_eq_false_iff_ne]; omega
              clear hbad
              go_wp2
              go_ret
              exact ⟨by rw [HF.out.2.2]; rfl, HF.out.1, HF.out.2.1⟩
        · have hb : (t.2 || (decide (0 < k) && decide (d = 0) || decide (9007199254740991 < M))) = t.2 := by
            rcases not_or.1 hbad with ⟨h1, h2⟩
            rw [decide_eq_false h2, Bool.or_false]
            by_cases h3 : 0 < k
            · rw [decide_eq_false (fun h4 => h1 ⟨h3, h4⟩), Bool.and_false, Bool.or_false]
            · rw [decide_eq_false h3, Bool.false_and, Bool.or_false]
          have HF : Hid (XRdr w2 g B (xcount s).2 ∧ Only g w w2 ∧ (xcount s).1 = M) := by
            rw [HF1.out, hb]
            exact ⟨HR2.out, HO2.out, rfl⟩
          clear HF1 HCC HC HR BY hb HM
          have hM9 : decide ((9007199254740991 : Int) < (M : Int)) = false := by simp; omega
          rcases Nat.eq_zero_or_pos k with hk0 | hk0
          · subst hk0
            clear hbad
            go_wp2
            go_ret
            exact ⟨by rw [HF.out.2.2]; rfl, HF.out.1, HF.out.2.1⟩
          · have hk1 : (0 : Int) < (k : Int) := by omega
            have hd1 : ((d : Int) == 0) = false := by rw [beq_eq_false_iff_ne]; omega
            clear hbad
            go_wp2
            go_ret
            exact ⟨by rw [HF.out.2.2]; rfl, HF.out.1, HF.out.2.1⟩
      · have hk8 : k ≤ 7 := by omega
        go_wp2
        go_roundw
        case rel =>
          have hm : d = c - 128 := by have := HM.out.2; omega
          refine ⟨k + 1, M, S * 128, t, rfl, by go_num, by go_num, by omega, Lib.hid ⟨hMl, ?_⟩, HR2, HO2, ?_⟩
          · have h1 := HN.out.2
            rw [show 8 - k = (8 - (k + 1)) + 1 by omega, Nat.pow_succ] at h1
            rw [← h1, Nat.mul_comm (128 ^ _) 128, Nat.mul_assoc]
          · show _ = _
            rw [HCC.out, if_neg hc1, ← hm, ← HM.out.1]
        case measure => simp [intOf]; omega
    · have hk8 : k = 8 := by omega
      subst hk8
      obtain ⟨A, L, c', p, ⟨k0, f0⟩, _⟩ := HR.out.at_
      obtain ⟨k2, f2⟩ := HR.out.bad
      have HF : Hid (XRdr (wr.setCell ⟨g, 2, none⟩ (.bool true)) g B (s'.1, true) ∧ Only g w (wr.setCell ⟨g, 2, none⟩ (.bool true))) := ⟨HR.out.set_bad, HO.out.set1 2 _⟩
      go_wp2
      go_ret
      rw [HC.out]
      exact ⟨rfl, HF.out.1, HF.out.2⟩
end Go.Proofs.Ytekgmgiokmbliaa
