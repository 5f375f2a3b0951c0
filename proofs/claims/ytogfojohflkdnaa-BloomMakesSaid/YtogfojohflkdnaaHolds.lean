/-
  Plain words: what was laid into a filter is found in it.
-/
import Derived.Test.YtogfojohflkdnaaShown
namespace Go.Proofs.Ytogfojohflkdnaa
open Go.RowKit

theorem at8_set {l : List UInt8} {i : Nat} (j : Nat) (b : UInt8) (h : i < l.length) : at8 (l.set i b) j = if j = i then b.toNat else at8 l j := by
  unfold at8
  rw [List.getD_eq_getElem?_getD, List.getD_eq_getElem?_getD, List.getElem?_set]
  by_cases e : i = j
  · subst e; simp [h]
  · rw [if_neg e, if_neg (fun h => e h.symm)]
/-- l' has all bits of l -/
def Sub (l l' : List UInt8) : Prop := l.length = l'.length ∧ at8 l 0 = at8 l' 0 ∧ ∀ j, testB l j = true → testB l' j = true
theorem Sub.refl (l : List UInt8) : Sub l l := ⟨rfl, rfl, fun _ h => h⟩
theorem Sub.trans {a b c : List UInt8} (h : Sub a b) (k : Sub b c) : Sub a c := ⟨h.1.trans k.1, h.2.1.trans k.2.1, fun j hj => k.2.2 j (h.2.2 j hj)⟩
/-- more bits in byte i + 1 -/
theorem sub_or {l : List UInt8} {i x : Nat} (h : i + 1 < l.length) (hx : at8 l (i + 1) ||| x < 256) : Sub l (l.set (i + 1) (by8 (at8 l (i + 1) ||| x))) := by
  refine ⟨by simp, ?_, fun j hj => ?_⟩
  · rw [at8_set 0 _ h, if_neg (by omega)]
  · unfold testB at hj ⊢
    rw [at8_set _ _ h]
    by_cases e : 1 + j / 8 = i + 1
    · rw [if_pos e, by8_nat, Nat.mod_eq_of_lt hx, Nat.testBit_or, ← e, hj]; rfl
    · rw [if_neg e]; exact hj
theorem setB_sub {l : List UInt8} {j : Nat} (h : 1 + j / 8 < l.length) : Sub l (setB l j) := by
  unfold setB
  have e : 1 + j / 8 = j / 8 + 1 := by omega
  rw [e] at h ⊢
  exact sub_or h (or_byte_lt _ _ (at8_lt _ _) (by omega))
theorem setB_test {l : List UInt8} {j : Nat} (h : 1 + j / 8 < l.length) : testB (setB l j) j = true := by
  unfold setB testB
  rw [at8_set _ _ h, if_pos rfl, by8_nat, Nat.mod_eq_of_lt (or_byte_lt _ _ (at8_lt _ _) (by omega)), Nat.testBit_or, Nat.testBit_two_pow_self]
  simp
theorem addN_sub : ∀ (k h s m : Nat) (l : List UInt8), 0 < m → m ≤ (l.length - 1) * 8 → Sub l (addN k h s m l)
  | 0, _, _, _, l, _, _ => Sub.refl l
  | k + 1, h, s, m, l, hm, hl => by
    have hj := Nat.mod_lt h hm
    simp only [addN]
    exact (setB_sub (by omega)).trans (addN_sub k _ s m _ hm (by rw [setB_len]; exact hl))
theorem askN_sub : ∀ (k h s m : Nat) (l l' : List UInt8), Sub l l' → askN k h s m l = true → askN k h s m l' = true
  | 0, _, _, _, _, _, _, _ => rfl
  | k + 1, h, s, m, l, l', hs, ha => by
    simp only [askN, Bool.and_eq_true] at ha ⊢
    exact ⟨hs.2.2 _ ha.1, askN_sub k _ s m l l' hs ha.2⟩
theorem addN_ask : ∀ (k h s m : Nat) (l : List UInt8), 0 < m → m ≤ (l.length - 1) * 8 → askN k h s m (addN k h s m l) = true
  | 0, _, _, _, _, _, _ => rfl
  | k + 1, h, s, m, l, hm, hl => by
    have hj := Nat.mod_lt h hm
    have hs := addN_sub k ((h + s) % 18446744073709551616) s m (setB l (h % m)) hm (by rw [setB_len]; exact hl)
    simp only [askN, addN, Bool.and_eq_true]
    exact ⟨hs.2.2 _ (setB_test (by omega)), addN_ask k _ s m _ hm (by rw [setB_len]; exact hl)⟩
theorem addK_sub {l : List UInt8} (key : List UInt8) (hl : 9 ≤ l.length) : Sub l (addK l key) := addN_sub _ _ _ _ l (by omega) (Nat.le_refl _)
theorem addAll_sub : ∀ (ks : List (List UInt8)) (l : List UInt8), 9 ≤ l.length → Sub l (addAll l ks)
  | [], l, _ => Sub.refl l
  | k :: ks, l, hl => by
    have : addAll l (k :: ks) = addAll (addK l k) ks := rfl
    rw [this]
    exact (addK_sub k hl).trans (addAll_sub ks _ (by rw [addK_len]; exact hl))
theorem addAll_ask : ∀ (ks : List (List UInt8)) (l key : List UInt8), 9 ≤ l.length → key ∈ ks → askN (at8 l 0) (hash key) (step (hash key)) ((l.length - 1) * 8) (addAll l ks) = true
  | [], _, _, _, h => by cases h
  | k :: ks, l, key, hl, h => by
    have e : addAll l (k :: ks) = addAll (addK l k) ks := rfl
    rw [e]
    have hs := addK_sub k hl
    rcases List.mem_cons.1 h with rfl | h
    · exact askN_sub _ _ _ _ _ _ (addAll_sub ks _ (by rw [addK_len]; exact hl)) (addN_ask _ _ _ _ l (by omega) (Nat.le_refl _))
    · have := addAll_ask ks (addK l k) key (by rw [addK_len]; exact hl) h
      rw [← hs.2.1, addK_len] at this
      exact this
theorem blank_at (n pk : Nat) (h : pk ≤ 30) : at8 (blank n pk) 0 = probes pk := by
  unfold blank at8
  simp only [List.getD_cons_zero]
  rw [by8_nat]
  unfold probes
  omega
theorem makeB_len (ks : List (List UInt8)) (pk : Nat) : (makeB ks pk).length = words ks.length pk * 8 + 1 := by unfold makeB; rw [addAll_len, blank_len]
theorem words_pos (n pk : Nat) : 1 ≤ words n pk := by unfold words; omega
theorem makeB_at (ks : List (List UInt8)) (pk : Nat) (h : pk ≤ 30) : at8 (makeB ks pk) 0 = probes pk := by
  have := words_pos ks.length pk
  rw [← blank_at ks.length pk h]
  exact (addAll_sub ks (blank ks.length pk) (by rw [blank_len]; omega)).2.1.symm
/-- a filter with all bits of the one that was made of the keys finds each of them -/
theorem makeB_holds {ks : List (List UInt8)} {pk : Nat} {l key : List UInt8} (hpk : pk ≤ 30) (hs : Sub (makeB ks pk) l) (hk : key ∈ ks) : mayB l key = true := by
  have hw := words_pos ks.length pk
  have hl := makeB_len ks pk
  have ha := makeB_at ks pk hpk
  unfold mayB
  split
  · rfl
  · rw [← hs.1, ← hs.2.1]
    refine askN_sub _ _ _ _ _ _ hs ?_
    have := addAll_ask ks (blank ks.length pk) key (by rw [blank_len]; omega) hk
    rw [blank_at _ _ hpk, blank_len] at this
    rw [ha, hl]
    exact this
end Go.Proofs.Ytogfojohflkdnaa
