/-
  Plain words: in which order keys are laid into a filter turns nothing.
-/
import Derived.Test.YtogfojohflkdnaaHolds
namespace Go.Proofs.Ytogfojohflkdnaa
open Go.RowKit

theorem ext8 {l l' : List UInt8} (hl : l.length = l'.length) (h : ∀ q, q < l.length → at8 l q = at8 l' q) : l = l' := by
  apply List.ext_getElem hl
  intro i h1 h2
  have := h i h1
  unfold at8 at this
  rw [List.getD_eq_getElem?_getD, List.getD_eq_getElem?_getD, List.getElem?_eq_getElem h1, List.getElem?_eq_getElem h2] at this
  exact UInt8.toNat_inj.1 this
theorem at8_setB {l : List UInt8} {j : Nat} (q : Nat) (h : 1 + j / 8 < l.length) : at8 (setB l j) q = if q = 1 + j / 8 then at8 l (1 + j / 8) ||| 2 ^ (j % 8) else at8 l q := by
  unfold setB
  rw [at8_set _ _ h, by8_nat, Nat.mod_eq_of_lt (or_byte_lt _ _ (at8_lt _ _) (by omega))]
theorem setB_comm {l : List UInt8} {i j : Nat} (hi : 1 + i / 8 < l.length) (hj : 1 + j / 8 < l.length) : setB (setB l i) j = setB (setB l j) i := by
  apply ext8 (by simp [setB_len])
  intro q _
  rw [at8_setB (l := setB l i) (j := j) q (by rw [setB_len]; exact hj), at8_setB (l := setB l j) (j := i) q (by rw [setB_len]; exact hi), at8_setB (l := l) (j := i) (1 + j / 8) hi, at8_setB (l := l) (j := i) q hi, at8_setB (l := l) (j := j) (1 + i / 8) hj, at8_setB (l := l) (j := j) q hj]
  by_cases e1 : q = 1 + i / 8
  · by_cases e2 : q = 1 + j / 8
    · have e3 : 1 + j / 8 = 1 + i / 8 := by omega
      rw [if_pos e2, if_pos e1, if_pos e3, if_pos e3.symm, e3, Nat.or_assoc, Nat.or_assoc, Nat.or_comm (2 ^ (i % 8))]
    · have e3 : ¬ 1 + i / 8 = 1 + j / 8 := by omega
      rw [if_neg e2, if_pos e1, if_pos e1, if_neg e3]
  · by_cases e2 : q = 1 + j / 8
    · have e3 : ¬ 1 + j / 8 = 1 + i / 8 := by omega
      rw [if_pos e2, if_neg e1, if_pos e2, if_neg e3]
    · rw [if_neg e2, if_neg e1, if_neg e1, if_neg e2]
theorem addN_setB : ∀ (k h s m : Nat) (l : List UInt8) (j : Nat), 0 < m → m ≤ (l.length - 1) * 8 → 1 + j / 8 < l.length → addN k h s m (setB l j) = setB (addN k h s m l) j
  | 0, _, _, _, _, _, _, _, _ => rfl
  | k + 1, h, s, m, l, j, hm, hl, hj => by
    have hh := Nat.mod_lt h hm
    simp only [addN]
    rw [setB_comm hj (by omega)]
    exact addN_setB k _ s m _ j hm (by rw [setB_len]; exact hl) (by rw [setB_len]; exact hj)
theorem addN_addN : ∀ (k h s m : Nat) (l : List UInt8) (k' h' s' : Nat), 0 < m → m ≤ (l.length - 1) * 8 → addN k h s m (addN k' h' s' m l) = addN k' h' s' m (addN k h s m l)
  | 0, _, _, _, _, _, _, _, _, _ => rfl
  | k + 1, h, s, m, l, k', h', s', hm, hl => by
    have hh := Nat.mod_lt h hm
    simp only [addN]
    rw [← addN_setB k' h' s' m l (h % m) hm hl (by omega)]
    exact addN_addN k _ s m _ k' h' s' hm (by rw [setB_len]; exact hl)
theorem addK_comm {l : List UInt8} (a b : List UInt8) (hl : 9 ≤ l.length) : addK (addK l a) b = addK (addK l b) a := by
  have ha := addK_sub a hl
  have hb := addK_sub b hl
  have e1 : addK (addK l a) b = addN (at8 l 0) (hash b) (step (hash b)) ((l.length - 1) * 8) (addK l a) := by
    show addN (at8 (addK l a) 0) _ _ (((addK l a).length - 1) * 8) _ = _
    rw [addK_len, ← ha.2.1]
  have e2 : addK (addK l b) a = addN (at8 l 0) (hash a) (step (hash a)) ((l.length - 1) * 8) (addK l b) := by
    show addN (at8 (addK l b) 0) _ _ (((addK l b).length - 1) * 8) _ = _
    rw [addK_len, ← hb.2.1]
  rw [e1, e2]
  exact addN_addN _ _ _ _ l _ _ _ (by omega) (Nat.le_refl _)
theorem addAll_perm {ks ks' : List (List UInt8)} (h : ks.Perm ks') : ∀ l : List UInt8, 9 ≤ l.length → addAll l ks = addAll l ks' := by
  induction h with
  | nil => intro l _; rfl
  | cons x _ ih => intro l hl; exact ih (addK l x) (by rw [addK_len]; exact hl)
  | swap x y r =>
    intro l hl
    show addAll (addK (addK l y) x) r = addAll (addK (addK l x) y) r
    rw [addK_comm y x hl]
  | trans _ _ ih1 ih2 => intro l hl; exact (ih1 l hl).trans (ih2 l hl)
theorem makeB_perm {ks ks' : List (List UInt8)} (h : ks.Perm ks') (pk : Nat) : makeB ks pk = makeB ks' pk := by
  have hw := words_pos ks.length pk
  unfold makeB
  rw [← h.length_eq]
  exact addAll_perm h _ (by rw [blank_len]; omega)
theorem turned_perm {α : Type} (l : List α) (k : Nat) : ((l.drop k).reverse ++ l.take k).Perm l := by
  have h1 : ((l.drop k).reverse ++ l.take k).Perm (l.drop k ++ l.take k) := (List.reverse_perm _).append_right _
  have h2 : (l.drop k ++ l.take k).Perm (l.take k ++ l.drop k) := List.perm_append_comm
  rw [List.take_append_drop] at h2
  exact h1.trans h2
end Go.Proofs.Ytogfojohflkdnaa
