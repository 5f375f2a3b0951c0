/-
  The reference's opsMay.
-/
import Derived.Test.YtfnifpgaieggbaaDoorOps
set_option linter.unusedVariables false
namespace Go.Proofs.YtfnifpgaieggbaaDoor
open Go.RowKit

set_option maxHeartbeats 3200000 in
set_option maxRecDepth 100000 in
theorem opsmay_any (l : List OpD) (A : Option Addr) (n c : Nat) (w : World) (hn : n = l.length) (hr : OpsRd w w.heap.size A l) (hs : SmallW l) :
    Calls Tryd.prog 15 #[.slice A n c] w fun e w' => Tells e (OpsP l) ∧ Below w.heap.size w w' := by
  have HR := Lib.hid hr
  have HS := Lib.hid hs
  have HN := Lib.hid hn
  have hn1 : n ≤ 2513169434843 := by rw [hn]; exact hs.n
  have HP : Hid (OpsP l ↔ ((1 ≤ n ∧ n ≤ 256) ∧ ∀ i (h : i < l.length), OpP l[i])) := by
    show _ ↔ _
    unfold OpsP
    rw [hn]
    constructor
    · rintro ⟨h1, h2⟩
      exact ⟨h1, fun i h => h2 _ (List.getElem_mem h)⟩
    · rintro ⟨h1, h2⟩
      refine ⟨h1, fun o ho => ?_⟩
      obtain ⟨i, hi, rfl⟩ := List.mem_iff_getElem.1 ho
      exact h2 i hi
  obtain ⟨P, hP⟩ : ∃ P, P = OpsP l := ⟨_, rfl⟩
  rw [← hP] at HP
  rw [← hP]
  clear hr hs hn hP
  by_cases h0 : n < 1
  · have hno : Hid (¬ P) := fun h => by have := (HP.out.1 h).1; omega
    have h0' : (n : Int) < 1 := by omega
    go_enter Tryd.func15, Tryd.ntmps15
    go_wp2
    go_ret
    exact ⟨.no hno.out, Below.refl _ _⟩
  by_cases h1 : 256 < n
  · have hno : Hid (¬ P) := fun h => by have := (HP.out.1 h).1; omega
    have h0' : (1 : Int) ≤ (n : Int) := by omega
    have h1' : (256 : Int) < (n : Int) := by omega
    go_enter Tryd.func15, Tryd.ntmps15
    go_wp2
    go_ret
    exact ⟨.no hno.out, Below.refl _ _⟩
  have h0' : (1 : Int) ≤ (n : Int) := by omega
  have h1' : (n : Int) ≤ 256 := by omega
  go_enter Tryd.func15, Tryd.ntmps15
  go_wp2
  go_loopw [3] (fun s15 wr => ∃ k : Nat, s15 = .int .i64 k ∧ k ≤ n ∧ Below w.heap.size w wr ∧ Hid (∀ i (h : i < l.length), i < k → OpP l[i])) (fun s15 _ => n - (intOf s15).toNat)
  case atStart => exact ⟨0, rfl, by omega, Below.refl _ _, fun i h hi => absurd hi (by omega)⟩
  case round =>
    obtain ⟨k, rfl, hk, hb, HK⟩ := hrel
    by_cases hlt : k < n
    · have hkl : k < l.length := by have := HN.out; omega
      rcases HR.out with hz | ⟨q, o, hA, hq, hc⟩
      · rw [hz] at hkl; simp at hkl
      rw [hA]
      obtain ⟨K, kc, V, vc, c0, c1, c2, _, _⟩ := hc k hkl
      obtain ⟨y, hy⟩ : ∃ y, y = l[k] := ⟨_, rfl⟩
      rw [← hy] at c0 c1 c2
      have HY := Lib.hid hy
      have hsk := HS.out.k _ (List.getElem_mem hkl)
      have hsv := HS.out.v _ (List.getElem_mem hkl)
      rw [← hy] at hsk hsv
      obtain ⟨del, key, val⟩ := y
      simp only at c0 c1 c2 hsk hsv
      have d0 := (hb.cell (p := ⟨q, o + k * 3, none⟩) hq).trans c0
      have d1 := (hb.cell (p := ⟨q, o + k * 3 + 1, none⟩) hq).trans c1
      have d2 := (hb.cell (p := ⟨q, o + k * 3 + 2, none⟩) hq).trans c2
      obtain ⟨nk, hnk⟩ : ∃ x, x = key.length := ⟨_, rfl⟩
      obtain ⟨nv, hnv⟩ : ∃ x, x = val.length := ⟨_, rfl⟩
      rw [← hnk] at d1 hsk
      rw [← hnv] at d2 hsv
      have HB := Lib.hid hb
      have hkn' : (k : Int) < (n : Int) := by omega
      have HNO : ¬ OpP ⟨del, key, val⟩ → Hid (¬ P) := fun h h2 => by
        have h3 := (HP.out.1 h2).2 k hkl
        rw [← HY.out] at h3
        exact h h3
      have HYES : OpP ⟨del, key, val⟩ → Hid (∀ i (h : i < l.length), i < k + 1 → OpP l[i]) := fun h i hi hik => by
        by_cases hk' : i = k
        · subst hk'
          rw [← HY.out]
          exact h
        · exact HK.out i hi (by omega)
      clear hc c0 c1 c2 hb hA hy
      by_cases e1 : nk < 1
      · have hno := HNO (fun h => by have := h.1; simp only at this; omega)
        have e1' : (nk : Int) < 1 := by omega
        clear HNO HYES hnk hnv
        go_wp2
        go_ret
        exact ⟨.no hno.out, HB.out⟩
      have e1' : (1 : Int) ≤ (nk : Int) := by omega
      by_cases e2 : 256 < nk
      · have hno := HNO (fun h => by have := h.1; simp only at this; omega)
        have e2' : (256 : Int) < (nk : Int) := by omega
        clear HNO HYES hnk hnv
        go_wp2
        go_ret
        exact ⟨.no hno.out, HB.out⟩
      have e2' : (nk : Int) ≤ 256 := by omega
      by_cases e3 : 65536 < nv
      · have hno := HNO (fun h => by have := h.2.1; simp only at this; omega)
        have e3' : (65536 : Int) < (nv : Int) := by omega
        clear HNO HYES hnk hnv
        go_wp2
        go_ret
        exact ⟨.no hno.out, HB.out⟩
      have e3' : (nv : Int) ≤ 65536 := by omega
      cases del with
      | false =>
        have hyes := HYES ⟨⟨by simp only; omega, by simp only; omega⟩, by simp only; omega, fun h => nomatch h⟩
        clear HNO HYES hnk hnv
        go_wp2
        go_roundw
        case rel => exact ⟨k + 1, by go_num, by omega, HB.out, hyes⟩
        case measure => simp [intOf]; omega
      | true =>
        by_cases e4 : 0 < nv
        · have hno := HNO (fun h => by have := h.2.2 rfl; simp only at this; rw [this] at hnv; simp at hnv; omega)
          have e4' : (0 : Int) < (nv : Int) := by omega
          clear HNO HYES hnk hnv
          go_wp2
          go_ret
          exact ⟨.no hno.out, HB.out⟩
        · have hyes := HYES ⟨⟨by simp only; omega, by simp only; omega⟩, by simp only; omega, fun _ => List.eq_nil_of_length_eq_zero (by simp only; omega)⟩
          have e4' : (nv : Int) ≤ 0 := by omega
          clear HNO HYES hnk hnv
          go_wp2
          go_roundw
          case rel => exact ⟨k + 1, by go_num, by omega, HB.out, hyes⟩
          case measure => simp [intOf]; omega
    · have hkn : k = n := by omega
      subst hkn
      have hp : Hid P := HP.out.2 ⟨⟨by omega, by omega⟩, fun i h => HK.out i h (by have := HN.out; omega)⟩
      go_wp2
      go_ret
      exact ⟨.yes hp.out, hb⟩
end Go.Proofs.YtfnifpgaieggbaaDoor
