/-
  Plain words: the order of keys' bytes.
-/
import Derived.Test.YtaojflmbfigplaaDoorLawKeys
namespace Go.Proofs.YtaojflmbfigplaaDoor
open Go.RowKit

theorem cmp_app : ∀ (a b r r' : List UInt8), a.length = b.length → cmp a b ≠ 0 → cmp (a ++ r) (b ++ r') = cmp a b
  | [], [], _, _, _, h => by simp [cmp] at h
  | [], _ :: _, _, _, h, _ => by simp at h
  | _ :: _, [], _, _, h, _ => by simp at h
  | a :: s, b :: t, r, r', hl, h => by
    simp only [cmp, List.cons_append] at h ⊢
    have ih := cmp_app s t r r' (by simpa using hl)
    by_cases h1 : a.toNat < b.toNat
    · rw [if_pos h1, if_pos h1]
    · rw [if_neg h1] at h ⊢
      rw [if_neg h1]
      by_cases h2 : b.toNat < a.toNat
      · rw [if_pos h2, if_pos h2]
      · rw [if_neg h2] at h ⊢
        rw [if_neg h2]
        exact ih h

def beF (A : Nat) (l : List UInt8) : Nat := l.foldl (fun n c => 256 * n + c.toNat) A
theorem beF_cons (A : Nat) (c : UInt8) (l : List UInt8) : beF A (c :: l) = beF (256 * A + c.toNat) l := rfl
theorem beF_lt : ∀ (a b : List UInt8) (A B : Nat), a.length = b.length → A < B → beF A a < beF B b
  | [], [], _, _, _, h => h
  | [], _ :: _, _, _, h, _ => by simp at h
  | _ :: _, [], _, _, h, _ => by simp at h
  | c :: a, d :: b, A, B, hl, h => by
    rw [beF_cons, beF_cons]
    have := c.toNat_lt
    exact beF_lt a b _ _ (by simpa using hl) (by omega)
theorem cmp_beF : ∀ (a b : List UInt8) (A : Nat), a.length = b.length → cmp a b = if beF A a < beF A b then -1 else if beF A b < beF A a then 1 else 0
  | [], [], A, _ => by simp [cmp]
  | [], _ :: _, _, h => by simp at h
  | _ :: _, [], _, h => by simp at h
  | c :: a, d :: b, A, hl => by
    rw [beF_cons, beF_cons]
    simp only [cmp]
    have hl' : a.length = b.length := by simpa using hl
    by_cases h1 : c.toNat < d.toNat
    · have := beF_lt a b (256 * A + c.toNat) (256 * A + d.toNat) hl' (by omega)
      rw [if_pos h1, if_pos this]
    · rw [if_neg h1]
      by_cases h2 : d.toNat < c.toNat
      · have := beF_lt b a (256 * A + d.toNat) (256 * A + c.toNat) hl'.symm (by omega)
        rw [if_pos h2, if_neg (by omega), if_pos this]
      · rw [if_neg h2, show d.toNat = c.toNat by omega]
        exact cmp_beF a b _ hl'
theorem cmp_key8 {U V : Nat} (hU : U < 2 ^ 64) (hV : V < 2 ^ 64) : cmp (key8 U) (key8 V) = if U < V then -1 else if V < U then 1 else 0 := by
  have h := cmp_beF (key8 U) (key8 V) 0 rfl
  rw [show beF 0 (key8 U) = U from be_key8 hU, show beF 0 (key8 V) = V from be_key8 hV] at h
  exact h

theorem cmp_at_lt {c d : UInt8} {s t : List UInt8} (h : c.toNat < d.toNat) : cmp (c :: s) (d :: t) = -1 := by simp only [cmp]; rw [if_pos h]
theorem cmp_at_gt {c d : UInt8} {s t : List UInt8} (h : d.toNat < c.toNat) : cmp (c :: s) (d :: t) = 1 := by simp only [cmp]; rw [if_neg (by omega), if_pos h]
theorem cmp_at_eq {c d : UInt8} {s t : List UInt8} (h : c.toNat = d.toNat) : cmp (c :: s) (d :: t) = cmp s t := by simp only [cmp]; rw [if_neg (by omega), if_neg (by omega)]
theorem kt_nil : kt [] = [0, 1] := rfl
theorem kt_zero {c : UInt8} (h : c.toNat = 0) (s : List UInt8) : kt (c :: s) = c :: by8 255 :: kt s := by simp [kt, esc, h]
theorem kt_some {c : UInt8} (h : c.toNat ≠ 0) (s : List UInt8) : kt (c :: s) = c :: kt s := by simp [kt, esc, h]

theorem cmp_kt : ∀ (s t r r' : List UInt8), cmp (kt s ++ r) (kt t ++ r') = if cmp s t = 0 then cmp r r' else cmp s t
  | [], [], r, r' => by simp [kt_nil, cmp]
  | [], d :: t, r, r' => by
    by_cases hd : d.toNat = 0
    · rw [kt_nil, kt_zero hd]; simp [cmp, hd, by8]
    · rw [kt_nil, kt_some hd]; simp [cmp]; omega
  | c :: s, [], r, r' => by
    by_cases hd : c.toNat = 0
    · rw [kt_nil, kt_zero hd]; simp [cmp, hd, by8]
    · rw [kt_nil, kt_some hd]; simp [cmp]; omega
  | c :: s, d :: t, r, r' => by
    have ih := cmp_kt s t r r'
    by_cases hc : c.toNat = 0
    · by_cases hd : d.toNat = 0
      · rw [kt_zero hc, kt_zero hd]; simp [cmp, hc, hd, ih]
      · rw [kt_zero hc, kt_some hd, cmp_at_lt (show c.toNat < d.toNat by omega)]
        exact cmp_at_lt (show c.toNat < d.toNat by omega)
    · by_cases hd : d.toNat = 0
      · rw [kt_some hc, kt_zero hd, cmp_at_gt (show d.toNat < c.toNat by omega)]
        exact cmp_at_gt (show d.toNat < c.toNat by omega)
      · rw [kt_some hc, kt_some hd]
        rcases Nat.lt_trichotomy c.toNat d.toNat with h1 | h1 | h1
        · rw [cmp_at_lt h1]; exact cmp_at_lt h1
        · rw [cmp_at_eq h1]; exact (cmp_at_eq h1).trans ih
        · rw [cmp_at_gt h1]; exact cmp_at_gt h1
theorem cmp_kt0 (s t : List UInt8) : cmp (kt s) (kt t) = cmp s t := by
  have h := cmp_kt s t [] []
  rw [List.append_nil, List.append_nil] at h
  rw [h]
  split <;> rename_i h0
  · rw [h0]; rfl
  · rfl
end Go.Proofs.YtaojflmbfigplaaDoor
