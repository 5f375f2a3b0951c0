/-
  Plain words: nine bytes of a stamp read again, and their order.
-/
import Derived.Test.YtglpaeiebkacoaaLawBytes
namespace Go.Proofs.Ytglpaeiebkacoaa
open Go.RowKit

theorem numB_beB (n : Nat) : ∀ (k N : Nat), numB N (beB n k) = N * 256 ^ k + n % 256 ^ k
  | 0, N => by simp [beB, numB, Nat.mod_one]
  | k + 1, N => by
    simp only [beB, numB]
    rw [numB_beB n k, by8_nat, Nat.mod_pow_succ, show 2 ^ (8 * k) = 256 ^ k by rw [Nat.pow_mul], Nat.add_mul, Nat.pow_succ, Nat.mul_assoc, Nat.mul_comm 256, Nat.add_assoc, Nat.add_comm (n % 256 ^ k), Nat.mul_comm (256 ^ k) (n / 256 ^ k % 256)]
theorem numB_app : ∀ (l m : List UInt8) (N : Nat), numB N (l ++ m) = numB (numB N l) m
  | [], _, _ => rfl
  | c :: l, m, N => by simp only [List.cons_append, numB]; exact numB_app l m _
theorem stBytes_len (a b : Nat) : (stBytes a b).length = 9 := by simp [stBytes, beB_len]
theorem take7 (a b : Nat) : (stBytes a b).take 7 = beB a 7 := by
  unfold stBytes
  exact List.take_left' (beB_len a 7)
theorem drop7' (a b : Nat) : (stBytes a b).drop 7 = beB b 2 := by
  unfold stBytes
  exact List.drop_left' (beB_len a 7)
theorem rdAll_st {a b : Nat} (h : stOk a b = true) : rdAll (stBytes a b) = (a, b, 0) := by
  obtain ⟨ha, hb⟩ := stOk_le h
  unfold rdAll rdSt
  rw [if_pos (stBytes_len a b), take7, drop7', numB_beB, numB_beB]
  have e1 : 0 * 256 ^ 7 + a % 256 ^ 7 = a := by omega
  have e2 : 0 * 256 ^ 2 + b % 256 ^ 2 = b := by omega
  rw [e1, e2, if_pos h]

theorem bytesLess_lt : ∀ (l m : List UInt8) (A B : Nat), l.length = m.length → A < B → numB A l < numB B m
  | [], [], _, _, _, h => h
  | [], _ :: _, _, _, h, _ => by simp at h
  | _ :: _, [], _, _, h, _ => by simp at h
  | c :: a, d :: b, A, B, hl, h => by
    simp only [numB]
    have := c.toNat_lt
    exact bytesLess_lt a b _ _ (by simpa using hl) (by omega)
theorem bytesLess_num : ∀ (l m : List UInt8) (A : Nat), l.length = m.length → (Op.bytesLess l m = true ↔ numB A l < numB A m)
  | [], [], _, _ => by simp [Op.bytesLess, numB]
  | [], _ :: _, _, h => by simp at h
  | _ :: _, [], _, h => by simp at h
  | c :: a, d :: b, A, hl => by
    have hl' : a.length = b.length := by simpa using hl
    show (decide (c < d) || (c == d && Op.bytesLess a b)) = true ↔ numB (A * 256 + c.toNat) a < numB (A * 256 + d.toNat) b
    by_cases h1 : c.toNat < d.toNat
    · have := bytesLess_lt a b (A * 256 + c.toNat) (A * 256 + d.toNat) hl' (by omega)
      have hc : c < d := h1
      rw [decide_eq_true hc]
      simpa using this
    · have hc : ¬ c < d := h1
      rw [decide_eq_false hc]
      by_cases h2 : d.toNat < c.toNat
      · have := bytesLess_lt b a (A * 256 + d.toNat) (A * 256 + c.toNat) hl'.symm (by omega)
        have hne : (c == d) = false := by rw [beq_eq_false_iff_ne]; exact fun h => by rw [h] at h2; omega
        rw [hne]
        simp only [Bool.false_and, Bool.or_false, Bool.false_eq_true, false_iff]
        omega
      · have he : c = d := UInt8.toNat_inj.1 (by omega)
        subst he
        rw [← bytesLess_num a b _ hl']
        simp
theorem bytes_num : ∀ (l m : List UInt8) (A : Nat), l.length = m.length → (l = m ↔ numB A l = numB A m)
  | [], [], _, _ => by simp
  | [], _ :: _, _, h => by simp at h
  | _ :: _, [], _, h => by simp at h
  | c :: a, d :: b, A, hl => by
    have hl' : a.length = b.length := by simpa using hl
    show c :: a = d :: b ↔ numB (A * 256 + c.toNat) a = numB (A * 256 + d.toNat) b
    rw [List.cons.injEq]
    by_cases h1 : c.toNat < d.toNat
    · have := bytesLess_lt a b (A * 256 + c.toNat) (A * 256 + d.toNat) hl' (by omega)
      constructor
      · rintro ⟨h, _⟩; rw [h] at h1; omega
      · intro h; omega
    · by_cases h2 : d.toNat < c.toNat
      · have := bytesLess_lt b a (A * 256 + d.toNat) (A * 256 + c.toNat) hl'.symm (by omega)
        constructor
        · rintro ⟨h, _⟩; rw [h] at h2; omega
        · intro h; omega
      · have he : c = d := UInt8.toNat_inj.1 (by omega)
        subst he
        rw [← bytes_num a b _ hl']
        simp
theorem numB_st {a b : Nat} (h : stOk a b = true) : numB 0 (stBytes a b) = a * 65536 + b := by
  obtain ⟨ha, hb⟩ := stOk_le h
  unfold stBytes
  rw [numB_app, numB_beB, numB_beB]
  omega
theorem st_less {a b c d : Nat} (h : stOk a b = true) (h' : stOk c d = true) : Op.bytesLess (stBytes a b) (stBytes c d) = decide (stCmp a b c d < 0) := by
  have e := bytesLess_num (stBytes a b) (stBytes c d) 0 (by rw [stBytes_len, stBytes_len])
  rw [numB_st h, numB_st h'] at e
  obtain ⟨_, hb⟩ := stOk_le h
  obtain ⟨_, hd⟩ := stOk_le h'
  rw [Bool.eq_iff_iff, e, decide_eq_true_iff]
  unfold stCmp
  split
  · simp; omega
  · split
    · simp; omega
    · split
      · simp; omega
      · split
        · simp; omega
        · simp; omega
theorem st_same {a b c d : Nat} (h : stOk a b = true) (h' : stOk c d = true) : (stBytes a b == stBytes c d) = (stCmp a b c d == 0) := by
  have e := bytes_num (stBytes a b) (stBytes c d) 0 (by rw [stBytes_len, stBytes_len])
  rw [numB_st h, numB_st h'] at e
  obtain ⟨_, hb⟩ := stOk_le h
  obtain ⟨_, hd⟩ := stOk_le h'
  rw [Bool.eq_iff_iff, beq_iff_eq, e, beq_iff_eq]
  unfold stCmp
  split
  · simp; omega
  · split
    · simp; omega
    · split
      · simp; omega
      · split
        · simp; omega
        · simp; omega
/-- Next's stamp is behind, and Prev goes back -/
theorem next_back {a b : Int} (h : (stNext a b).2.2 = 0) : stPrev (stNext a b).1 (stNext a b).2.1 = (a, b, 0) ∧ stCmp a b (stNext a b).1 (stNext a b).2.1 = -1 := by
  unfold stNext at h ⊢
  by_cases h0 : stOk a b = false
  · rw [if_pos h0] at h; simp at h
  · rw [if_neg h0] at h ⊢
    have h1 : stOk a b = true := by simpa using h0
    simp [stOk, wallOk] at h1
    by_cases h2 : b < 65535
    · rw [if_pos h2]
      constructor
      · unfold stPrev
        rw [if_neg (by simp [stOk, wallOk]; omega), if_pos (by simp; omega)]
        simp
      · unfold stCmp
        simp
        omega
    · rw [if_neg h2] at h ⊢
      by_cases h3 : a = 9007199254740991
      · rw [if_pos h3] at h; simp at h
      · rw [if_neg h3]
        have hb : b = 65535 := by omega
        subst hb
        constructor
        · unfold stPrev
          rw [if_neg (by simp [stOk, wallOk]; omega), if_neg (by simp), if_neg (by simp; omega)]
          simp
        · unfold stCmp
          simp
          omega
end Go.Proofs.Ytglpaeiebkacoaa
