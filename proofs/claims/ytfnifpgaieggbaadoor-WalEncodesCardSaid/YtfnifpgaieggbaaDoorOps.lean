/-
  Operations in memory; which may be; one laid behind a body.
-/
import Derived.Test.YtfnifpgaieggbaaDoorBat
import Derived.Test.YtfnifpgaieggbaaDoorCell
set_option linter.unusedVariables false
namespace Go.Proofs.YtfnifpgaieggbaaDoor
open Go.RowKit

/-- a call answers whether P -/
def Tells (e : Ending) (P : Prop) : Prop := ∃ b, e = .returned (.bool b) ∧ (b = true ↔ P)
theorem Tells.of {b : Bool} {P : Prop} (h : b = true ↔ P) : Tells (.returned (.bool b)) P := ⟨b, rfl, h⟩
theorem Tells.no {P : Prop} (h : ¬ P) : Tells (.returned (.bool false)) P := ⟨false, rfl, (fun h => nomatch h), fun h' => absurd h' h⟩
theorem Tells.yes {P : Prop} (h : P) : Tells (.returned (.bool true)) P := ⟨true, rfl, fun _ => h, fun _ => rfl⟩

/-- the slice at A reads as these operations -/
def OpsRd (w : World) (B : Nat) (A : Option Addr) (l : List OpD) : Prop := l = [] ∨ ∃ g o, A = some ⟨g, o, none⟩ ∧ g < B ∧ ∀ i (h : i < l.length), ∃ K kc V vc,
  w.cell? ⟨g, o + i * 3, none⟩ = some (.bool l[i].del) ∧ w.cell? ⟨g, o + i * 3 + 1, none⟩ = some (.slice K l[i].key.length kc) ∧ w.cell? ⟨g, o + i * 3 + 2, none⟩ = some (.slice V l[i].val.length vc) ∧ Rd w B K l[i].key ∧ Rd w B V l[i].val
theorem OpsRd.below {w w' : World} {B : Nat} {A : Option Addr} {l : List OpD} (h : OpsRd w B A l) (hb : Below B w w') : OpsRd w' B A l := by
  rcases h with h | ⟨g, o, hA, hg, hc⟩
  · exact .inl h
  · refine .inr ⟨g, o, hA, hg, fun i hi => ?_⟩
    obtain ⟨K, kc, V, vc, h0, h1, h2, h3, h4⟩ := hc i hi
    exact ⟨K, kc, V, vc, (hb.cell (p := ⟨g, o + i * 3, none⟩) hg).trans h0, (hb.cell (p := ⟨g, o + i * 3 + 1, none⟩) hg).trans h1, (hb.cell (p := ⟨g, o + i * 3 + 2, none⟩) hg).trans h2, h3.below hb, h4.below hb⟩
theorem OpsRd.more {w : World} {B B' : Nat} {A : Option Addr} {l : List OpD} (h : OpsRd w B A l) (hB : B ≤ B') : OpsRd w B' A l := by
  rcases h with h | ⟨g, o, hA, hg, hc⟩
  · exact .inl h
  · refine .inr ⟨g, o, hA, by omega, fun i hi => ?_⟩
    obtain ⟨K, kc, V, vc, h0, h1, h2, h3, h4⟩ := hc i hi
    exact ⟨K, kc, V, vc, h0, h1, h2, h3.more hB, h4.more hB⟩
/-- no list is large -/
structure SmallO (l : List OpD) : Prop where
  n : l.length ≤ 1048576
  k : ∀ o ∈ l, o.key.length ≤ 4194304
  v : ∀ o ∈ l, o.val.length ≤ 4194304
/-- what the first form lets in -/
structure SmallW (l : List OpD) : Prop where
  n : l.length ≤ 2513169434843
  k : ∀ o ∈ l, o.key.length ≤ 140737488351232
  v : ∀ o ∈ l, o.val.length ≤ 140737488351232
theorem SmallO.w {l : List OpD} (h : SmallO l) : SmallW l := ⟨Nat.le_trans h.n (by decide), fun o ho => Nat.le_trans (h.k o ho) (by decide), fun o ho => Nat.le_trans (h.v o ho) (by decide)⟩

set_option maxHeartbeats 3200000 in
set_option maxRecDepth 100000 in
theorem validops_any (l : List OpD) (A : Option Addr) (n c : Nat) (w : World) (hn : n = l.length) (hr : OpsRd w w.heap.size A l) (hs : SmallW l) :
    Calls Tryd.prog 18 #[.slice A n c] w fun e w' => Tells e (OpsP l) ∧ Below w.heap.size w w' := by
  have HR := Lib.hid hr
  have HS := Lib.hid hs
  have HN := Lib.hid hn
  have hn1 : n ≤ 2513169434843 := by rw [hn]; exact hs.n
  have HP : Hid (OpsP l ↔ ((1 ≤ n ∧ n ≤ 256) ∧ ∀ i (h : i < l.length), OpP l[i])) := by
    show _ ↔ _
    unfold OpsP
    rw [hn]
    constructor
    · rintro ⟨h1, h2⟩
      exact ⟨h1, fun i h => h2 _ (List.getElem_mem h)⟩
    · rintro ⟨h1, h2⟩
      refine ⟨h1, fun o ho => ?_⟩
      obtain ⟨i, hi, rfl⟩ := List.mem_iff_getElem.1 ho
      exact h2 i hi
  obtain ⟨P, hP⟩ : ∃ P, P = OpsP l := ⟨_, rfl⟩
  rw [← hP] at HP
  rw [← hP]
  clear hr hs hn hP
  by_cases h0 : n < 1
  · have hno : Hid (¬ P) := fun h => by have := (HP.out.1 h).1; omega
    have h0' : (n : Int) < 1 := by omega
    go_enter Tryd.func18, Tryd.ntmps18
    go_wp2
    go_ret
    exact ⟨.no hno.out, Below.refl _ _⟩
  by_cases h1 : 256 < n
  · have hno : Hid (¬ P) := fun h => by have := (HP.out.1 h).1; omega
    have h0' : (1 : Int) ≤ (n : Int) := by omega
    have h1' : (256 : Int) < (n : Int) := by omega
    go_enter Tryd.func18, Tryd.ntmps18
    go_wp2
    go_ret
    exact ⟨.no hno.out, Below.refl _ _⟩
  have h0' : (1 : Int) ≤ (n : Int) := by omega
  have h1' : (n : Int) ≤ 256 := by omega
  go_enter Tryd.func18, Tryd.ntmps18
  go_wp2
  go_loopw [15] (fun s15 wr => ∃ k : Nat, s15 = .int .i64 k ∧ k ≤ n ∧ Below w.heap.size w wr ∧ Hid (∀ i (h : i < l.length), i < k → OpP l[i])) (fun s15 _ => n - (intOf s15).toNat)
  case atStart => exact ⟨0, rfl, by omega, Below.refl _ _, fun i h hi => absurd hi (by omega)⟩
  case round =>
    obtain ⟨k, rfl, hk, hb, HK⟩ := hrel
    by_cases hlt : k < n
    · have hkl : k < l.length := by have := HN.out; omega
      rcases HR.out with hz | ⟨q, o, hA, hq, hc⟩
      · rw [hz] at hkl; simp at hkl
      rw [hA]
      obtain ⟨K, kc, V, vc, c0, c1, c2, _, _⟩ := hc k hkl
      obtain ⟨y, hy⟩ : ∃ y, y = l[k] := ⟨_, rfl⟩
      rw [← hy] at c0 c1 c2
      have HY := Lib.hid hy
      have hsk := HS.out.k _ (List.getElem_mem hkl)
      have hsv := HS.out.v _ (List.getElem_mem hkl)
      rw [← hy] at hsk hsv
      obtain ⟨del, key, val⟩ := y
      simp only at c0 c1 c2 hsk hsv
      have d0 := (hb.cell (p := ⟨q, o + k * 3, none⟩) hq).trans c0
      have d1 := (hb.cell (p := ⟨q, o + k * 3 + 1, none⟩) hq).trans c1
      have d2 := (hb.cell (p := ⟨q, o + k * 3 + 2, none⟩) hq).trans c2
      obtain ⟨nk, hnk⟩ : ∃ x, x = key.length := ⟨_, rfl⟩
      obtain ⟨nv, hnv⟩ : ∃ x, x = val.length := ⟨_, rfl⟩
      rw [← hnk] at d1 hsk
      rw [← hnv] at d2 hsv
      have HB := Lib.hid (hb.alloc hb.size (.cells #[.bool del, .slice K nk kc, .slice V nv vc] 43))
      have HNO : ¬ OpP ⟨del, key, val⟩ → Hid (¬ P) := fun h h2 => by
        have h3 := (HP.out.1 h2).2 k hkl
        rw [← HY.out] at h3
        exact h h3
      have HYES : OpP ⟨del, key, val⟩ → Hid (∀ i (h : i < l.length), i < k + 1 → OpP l[i]) := fun h i hi hik => by
        by_cases hk' : i = k
        · subst hk'
          rw [← HY.out]
          exact h
        · exact HK.out i hi (by omega)
      clear hc c0 c1 c2 hb hA hy
      by_cases e1 : nk < 1
      · have hno := HNO (fun h => by have := h.1; simp only at this; omega)
        have e1' : (nk : Int) < 1 := by omega
        clear HNO HYES hnk hnv
        go_wp2
        go_ret
        exact ⟨.no hno.out, HB.out⟩
      have e1' : (1 : Int) ≤ (nk : Int) := by omega
      by_cases e2 : 256 < nk
      · have hno := HNO (fun h => by have := h.1; simp only at this; omega)
        have e2' : (256 : Int) < (nk : Int) := by omega
        clear HNO HYES hnk hnv
        go_wp2
        go_ret
        exact ⟨.no hno.out, HB.out⟩
      have e2' : (nk : Int) ≤ 256 := by omega
      by_cases e3 : 65536 < nv
      · have hno := HNO (fun h => by have := h.2.1; simp only at this; omega)
        have e3' : (65536 : Int) < (nv : Int) := by omega
        clear HNO HYES hnk hnv
        go_wp2
        go_ret
        exact ⟨.no hno.out, HB.out⟩
      have e3' : (nv : Int) ≤ 65536 := by omega
      cases del with
      | false =>
        have hyes := HYES ⟨⟨by simp only; omega, by simp only; omega⟩, by simp only; omega, fun h => nomatch h⟩
        clear HNO HYES hnk hnv
        go_wp2
        go_roundw
        case rel => exact ⟨k + 1, by go_num, by omega, HB.out, hyes⟩
        case measure => simp [intOf]; omega
      | true =>
        by_cases e4 : 0 < nv
        · have hno := HNO (fun h => by have := h.2.2 rfl; simp only at this; rw [this] at hnv; simp at hnv; omega)
          have e4' : (0 : Int) < (nv : Int) := by omega
          clear HNO HYES hnk hnv
          go_wp2
          go_ret
          exact ⟨.no hno.out, HB.out⟩
        · have hyes := HYES ⟨⟨by simp only; omega, by simp only; omega⟩, by simp only; omega, fun _ => List.eq_nil_of_length_eq_zero (by simp only; omega)⟩
          have e4' : (nv : Int) ≤ 0 := by omega
          clear HNO HYES hnk hnv
          go_wp2
          go_roundw
          case rel => exact ⟨k + 1, by go_num, by omega, HB.out, hyes⟩
          case measure => simp [intOf]; omega
    · have hkn : k = n := by omega
      subst hkn
      have hp : Hid P := HP.out.2 ⟨⟨by omega, by omega⟩, fun i h => HK.out i h (by have := HN.out; omega)⟩
      go_wp2
      go_ret
      exact ⟨.yes hp.out, hb⟩
end Go.Proofs.YtfnifpgaieggbaaDoor
