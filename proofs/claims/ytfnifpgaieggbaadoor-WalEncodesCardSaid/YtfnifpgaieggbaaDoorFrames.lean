/-
  What codec's readers tell of its own bytes, whole, torn and turned.
-/
import Derived.Test.YtfnifpgaieggbaaDoorTakeFrame
set_option linter.unusedVariables false
namespace Go.Proofs.YtfnifpgaieggbaaDoor
open Go.RowKit

theorem tt_text {s : List UInt8} (hs : s.length ≤ 2097152) (rest : List UInt8) : tt (num s.length ++ s ++ rest) = (s, (num s.length ++ s).length, 0) := by
  have h := tn_num (n := s.length) (by omega) (s ++ rest)
  rw [← List.append_assoc] at h
  unfold tt
  rw [h]
  simp only [ne_eq, not_true_eq_false, if_false]
  rw [if_neg (by omega), if_neg (by simp), List.append_assoc, List.drop_left, List.take_left]
  simp
theorem four_len (S : Nat) : (four S).length = 4 := rfl
theorem tf_frame {k : UInt8} {s : List UInt8} (hs : s.length ≤ 2097152) (rest : List UInt8) : tf (frame k s ++ rest) = (k, s, (frame k s).length, 0) := by
  obtain ⟨S, hS⟩ : ∃ S, S = crc (head k s.length ++ s) := ⟨_, rfl⟩
  have hN := tn_num (n := s.length) (by omega) (four S ++ s ++ rest)
  have hf : frame k s ++ rest = k :: (num s.length ++ (four S ++ s ++ rest)) := by
    unfold frame
    rw [← hS]
    simp [head]
  have hl : (frame k s).length = 1 + (num s.length).length + 4 + s.length := by
    unfold frame
    simp [head, four_len]
    omega
  rw [hl, hf]
  simp only [tf, hN, ne_eq, not_true_eq_false, if_false]
  have d1 : (k :: (num s.length ++ (four S ++ s ++ rest))).drop (1 + (num s.length).length) = four S ++ s ++ rest := by
    rw [Nat.add_comm, List.drop_succ_cons, List.drop_left]
  have d2 : (k :: (num s.length ++ (four S ++ s ++ rest))).drop (1 + (num s.length).length + 4) = s ++ rest := by
    rw [← List.drop_drop, d1, List.append_assoc, show (4 : Nat) = (four S).length from rfl, List.drop_left]
  have d3 : (k :: (num s.length ++ (four S ++ s ++ rest))).take (1 + (num s.length).length) = head k s.length := by
    rw [Nat.add_comm, List.take_succ_cons, List.take_left]
    rfl
  rw [d1, d2, d3, List.take_left, ← hS, if_neg (by omega), if_neg (by simp [four_len]; omega), if_pos (by rw [List.append_assoc, show (4 : Nat) = (four S).length from rfl, List.take_left])]
theorem tn_torn : ∀ (f i N m j : Nat), i + f ≤ 9 → j < (numF f m).length → (tn i N ((numF f m).take j)) = (0, 0, 10)
  | 0, i, N, m, j, _, hj => by
    have : j = 0 := by simp [numF] at hj; exact hj
    subst this
    rfl
  | f + 1, i, N, m, j, hi, hj => by
    cases j with
    | zero => rfl
    | succ j =>
      by_cases h : m < 128
      · rw [numF_lt h] at hj
        simp at hj
      · rw [numF_ge h] at hj ⊢
        have e : (by8 (128 + m % 128)).toNat = 128 + m % 128 := by rw [by8_nat]; omega
        rw [List.take_succ_cons]
        simp only [tn, e]
        rw [if_neg (by omega), if_neg (by omega)]
        exact tn_torn f (i + 1) _ (m / 128) j (by omega) (by simp at hj; omega)
theorem tn_torn0 {n j : Nat} (h : j < (num n).length) : tn 0 0 ((num n).take j) = (0, 0, 10) := tn_torn 9 0 0 n j (by omega) h
theorem tt_torn {s : List UInt8} (hs : s.length ≤ 2097152) {j : Nat} (hj : j < (num s.length ++ s).length) : tt ((num s.length ++ s).take j) = ([], 0, 10) := by
  unfold tt
  by_cases h : j < (num s.length).length
  · rw [List.take_append_of_le_length (by omega), tn_torn0 h]
    rfl
  · have e : (num s.length ++ s).take j = num s.length ++ s.take (j - (num s.length).length) := by
      rw [List.take_append, List.take_of_length_le (by omega)]
    rw [e, tn_num (by omega)]
    simp only [ne_eq, not_true_eq_false, if_false]
    rw [if_neg (by omega), if_pos (by simp at hj ⊢; omega)]
theorem tf_torn {k : UInt8} {s : List UInt8} (hs : s.length ≤ 2097152) {j : Nat} (hj : j < (frame k s).length) : tf ((frame k s).take j) = (0, [], 0, 10) := by
  cases j with
  | zero => rfl
  | succ j =>
    obtain ⟨S, hS⟩ : ∃ S, S = crc (head k s.length ++ s) := ⟨_, rfl⟩
    have hf : frame k s = k :: (num s.length ++ (four S ++ s)) := by
      unfold frame
      rw [← hS]
      simp [head]
    rw [hf] at hj ⊢
    rw [List.take_succ_cons]
    by_cases h : j < (num s.length).length
    · rw [List.take_append_of_le_length (by omega)]
      simp only [tf, tn_torn0 h]
      rfl
    · have e : (num s.length ++ (four S ++ s)).take j = num s.length ++ (four S ++ s).take (j - (num s.length).length) := by
        rw [List.take_append, List.take_of_length_le (by omega)]
      rw [e]
      simp only [tf, tn_num (show s.length < 2 ^ 64 by omega), ne_eq, not_true_eq_false, if_false]
      rw [if_neg (by omega), if_pos (by simp [four_len] at hj ⊢; omega)]
theorem takenFrame_any (A : Option Addr) (n c : Nat) (l : List UInt8) (w : World) (hn : n = l.length) (hr : Rd w w.heap.size A l) (hl : l.length ≤ 225179981367000) (hc : l.length ≤ c) (hT : Tab w) :
    Calls Tryd.prog 25 #[.slice A n c] w fun e w' => ∃ v, e = .returned (.tuple #[.int .u8 ((tf l).1.toNat : Int), v, .int .i64 (tf l).2.2.1, .int .i64 (tf l).2.2.2]) ∧ Own w' w.heap.size v (tf l).2.1 ∧ Below w.heap.size w w' := by
  subst hn
  cases l with
  | nil =>
    refine (takenFrame_none A c w).mono ?_
    rintro e w' ⟨rfl, rfl⟩
    exact ⟨_, rfl, Own.nil_ _ _, Below.refl _ _⟩
  | cons k0 t => exact takenFrame_full A c k0 t w hr hl hc hT
theorem takenText_at (A : Option Addr) (n c : Nat) (l : List UInt8) (w : World) (hn : n = l.length) (hr : Rd w w.heap.size A l) (hl : l.length ≤ 225179981367000) (hc : l.length ≤ c) :
    Calls Tryd.prog 43 #[.slice A n c] w fun e w' => ∃ v, e = .returned (.tuple #[v, .int .i64 (tt l).2.1, .int .i64 (tt l).2.2]) ∧ Own w' w.heap.size v (tt l).1 ∧ Below w.heap.size w w' := by
  subst hn
  exact takenText_any A c l w hr hl hc
theorem tab_top : ∀ i j : Fin 16, tabAt i.val / 2 ^ 28 = tabAt j.val / 2 ^ 28 → i = j := by decide +kernel
theorem nib_inj {r s : Nat} (hr : r < 2 ^ 32) (hs : s < 2 ^ 32) (h : nib r = nib s) : r = s := by
  have ht : tabAt (r % 16) / 2 ^ 28 = tabAt (s % 16) / 2 ^ 28 := by
    have e : ∀ x, x < 2 ^ 32 → nib x / 2 ^ 28 = tabAt (x % 16) / 2 ^ 28 := fun x hx => by
      unfold nib
      rw [Nat.xor_div_two_pow, Nat.div_eq_of_lt (show x / 16 < 2 ^ 28 by omega), Nat.zero_xor]
    rw [← e r hr, ← e s hs, h]
  have hm : r % 16 = s % 16 := by
    have := tab_top ⟨r % 16, by omega⟩ ⟨s % 16, by omega⟩ ht
    exact congrArg Fin.val this
  have hd : r / 16 = s / 16 := by
    unfold nib at h
    rw [hm] at h
    have e : ∀ a b : Nat, (a ^^^ b) ^^^ b = a := fun a b => by rw [Nat.xor_assoc, Nat.xor_self, Nat.xor_zero]
    rw [← e (r / 16) (tabAt (s % 16)), h, e]
  omega
theorem crcOn_inj : ∀ (t : List UInt8) {r s : Nat}, r < 2 ^ 32 → s < 2 ^ 32 → crcOn r t = crcOn s t → r = s
  | [], _, _, _, _, h => h
  | c :: t, r, s, hr, hs, h => by
    have hc : c.toNat < 2 ^ 32 := by have := c.toNat_lt; omega
    have h1 : r ^^^ c.toNat < 2 ^ 32 := Nat.xor_lt_two_pow hr hc
    have h2 : s ^^^ c.toNat < 2 ^ 32 := Nat.xor_lt_two_pow hs hc
    have := crcOn_inj t (nib_lt (nib_lt h1)) (nib_lt (nib_lt h2)) h
    have := nib_inj h1 h2 (nib_inj (nib_lt h1) (nib_lt h2) this)
    have e : ∀ a b : Nat, (a ^^^ b) ^^^ b = a := fun a b => by rw [Nat.xor_assoc, Nat.xor_self, Nat.xor_zero]
    rw [← e r c.toNat, this, e]
theorem crc_turned (a t : List UInt8) (c d : UInt8) (h : c ≠ d) : crc (a ++ c :: t) ≠ crc (a ++ d :: t) := by
  intro he
  have hR : crcOn 4294967295 a < 2 ^ 32 := crcOn_lt (by decide)
  have h1 := crcOn_lt (l := a ++ c :: t) (r := 4294967295) (by decide)
  have h2 := crcOn_lt (l := a ++ d :: t) (r := 4294967295) (by decide)
  have he' : crcOn 4294967295 (a ++ c :: t) = crcOn 4294967295 (a ++ d :: t) := by unfold crc at he; omega
  rw [← crcOn_append, ← crcOn_append] at he'
  have hc : c.toNat < 2 ^ 32 := by have := c.toNat_lt; omega
  have hd : d.toNat < 2 ^ 32 := by have := d.toNat_lt; omega
  have x1 := Nat.xor_lt_two_pow hR hc
  have x2 := Nat.xor_lt_two_pow hR hd
  have h3 := crcOn_inj t (nib_lt (nib_lt x1)) (nib_lt (nib_lt x2)) he'
  have h4 := nib_inj x1 x2 (nib_inj (nib_lt x1) (nib_lt x2) h3)
  have e : ∀ r b : Nat, r ^^^ (r ^^^ b) = b := fun r b => by rw [← Nat.xor_assoc, Nat.xor_self, Nat.zero_xor]
  apply h
  apply UInt8.toNat_inj.1
  rw [← e (crcOn 4294967295 a) c.toNat, h4, e]
theorem four_inj {S T : Nat} (hS : S ≤ 4294967295) (hT : T ≤ 4294967295) (h : four S = four T) : S = T := by
  unfold four at h
  simp only [List.cons.injEq, and_true] at h
  obtain ⟨h0, h1, h2, h3⟩ := h
  have e : ∀ a b : Nat, by8 a = by8 b → a % 256 = b % 256 := fun a b h => by rw [← by8_nat a, ← by8_nat b, h]
  have h0 := e _ _ h0
  have h1 := e _ _ h1
  have h2 := e _ _ h2
  have h3 := e _ _ h3
  omega
theorem tf_turned {k : UInt8} {s : List UInt8} (hs : s.length ≤ 2097152) {m : Nat} {d : UInt8} (hm : m < s.length + 4) (hd : ∀ h : 1 + (num s.length).length + m < (frame k s).length, (frame k s)[1 + (num s.length).length + m] ≠ d) :
    tf ((frame k s).set (1 + (num s.length).length + m) d) = (0, [], 0, 13) := by
  obtain ⟨S, hS⟩ : ∃ S, S = crc (head k s.length ++ s) := ⟨_, rfl⟩
  have hSb : S ≤ 4294967295 := by rw [hS]; have := crc_lt (head k s.length ++ s); omega
  obtain ⟨N, hN⟩ : ∃ N, N = num s.length := ⟨_, rfl⟩
  have hf : frame k s = k :: (N ++ (four S ++ s)) := by
    unfold frame
    rw [← hS, hN]
    simp [head]
  have hh : head k s.length = k :: N := by rw [hN]; rfl
  rw [hf] at hd ⊢
  rw [← hN] at hd ⊢
  have hset : (k :: (N ++ (four S ++ s))).set (1 + N.length + m) d = k :: (N ++ (four S ++ s).set m d) := by
    rw [show 1 + N.length + m = (N.length + m) + 1 by omega, List.set_cons_succ, List.set_append_right _ _ (by omega)]
    simp
  have hget : ∀ h : m < (four S ++ s).length, (four S ++ s)[m] ≠ d := fun h => by
    have h2 : 1 + N.length + m < (k :: (N ++ (four S ++ s))).length := by simp [four_len] at h ⊢; omega
    have := hd h2
    have e : (k :: (N ++ (four S ++ s)))[1 + N.length + m] = (four S ++ s)[m] := by
      have e1 : (k :: (N ++ (four S ++ s)))[1 + N.length + m]? = (four S ++ s)[m]? := by
        rw [show 1 + N.length + m = (N.length + m) + 1 by omega, List.getElem?_cons_succ, List.getElem?_append_right (by omega)]
        simp
      rw [List.getElem?_eq_getElem h2, List.getElem?_eq_getElem h] at e1
      exact Option.some.inj e1
    rw [← e]
    exact this
  rw [hset]
  obtain ⟨Z, hZ⟩ : ∃ Z, Z = (four S ++ s).set m d := ⟨_, rfl⟩
  have hZl : Z.length = 4 + s.length := by rw [hZ]; simp [four_len]
  rw [← hZ]
  have hT := tn_num (n := s.length) (by omega) Z
  rw [← hN] at hT
  have d1 : (k :: (N ++ Z)).drop (1 + N.length) = Z := by rw [Nat.add_comm, List.drop_succ_cons, List.drop_left]
  have d2 : (k :: (N ++ Z)).drop (1 + N.length + 4) = Z.drop 4 := by rw [← List.drop_drop, d1]
  have d3 : (k :: (N ++ Z)).take (1 + N.length) = head k s.length := by rw [Nat.add_comm, List.take_succ_cons, List.take_left, hh]
  simp only [tf, hT, ne_eq, not_true_eq_false, if_false]
  rw [d1, d2, d3, if_neg (by omega), if_neg (by simp; omega)]
  have h4 : (Z.drop 4).take s.length = Z.drop 4 := List.take_of_length_le (by simp; omega)
  rw [h4, if_neg]
  intro he
  by_cases h : m < 4
  · have e1 : Z.take 4 = (four S).set m d := by rw [hZ, List.set_append_left _ _ (by simpa [four_len] using h), show (4 : Nat) = ((four S).set m d).length by simp [four_len], List.take_left]
    have e2 : Z.drop 4 = s := by rw [hZ, List.set_append_left _ _ (by simpa [four_len] using h), show (4 : Nat) = ((four S).set m d).length by simp [four_len], List.drop_left]
    rw [e1, e2, ← hS] at he
    have hm4 : m < (four S).length := by simpa [four_len] using h
    have e3 : ((four S).set m d)[m]'(by simpa using hm4) = d := by simp
    have e4 : (four S ++ s)[m]'(by simp; omega) = (four S)[m] := List.getElem_append_left hm4
    apply hget (by simp; omega)
    rw [e4, ← e3]
    congr 1
    exact he.symm
  · have e1 : Z.take 4 = four S := by rw [hZ, List.set_append_right _ _ (by simp [four_len]; omega), show (4 : Nat) = (four S).length from rfl, List.take_left]
    have e2 : Z.drop 4 = s.set (m - 4) d := by rw [hZ, List.set_append_right _ _ (by simp [four_len]; omega), show (4 : Nat) = (four S).length from rfl, List.drop_left]
    rw [e1, e2] at he
    have hSS := four_inj hSb (by have := crc_lt (head k s.length ++ s.set (m - 4) d); omega) he
    have hi : m - 4 < s.length := by omega
    have e5 : s = s.take (m - 4) ++ s[m - 4] :: s.drop (m - 4 + 1) := by rw [← drop_cons hi, List.take_append_drop]
    have e6 : s.set (m - 4) d = s.take (m - 4) ++ d :: s.drop (m - 4 + 1) := by rw [List.set_eq_take_append_cons_drop, if_pos hi]
    have hne : s[m - 4] ≠ d := by
      have := hget (by simp [four_len]; omega)
      rw [List.getElem_append_right (by simp [four_len]; omega)] at this
      exact this
    rw [hS, e6] at hSS
    obtain ⟨H, hH⟩ : ∃ H, H = head k s.length := ⟨_, rfl⟩
    rw [← hH] at hSS
    conv at hSS => lhs; rw [e5]
    rw [← List.append_assoc, ← List.append_assoc] at hSS
    exact crc_turned _ _ _ _ hne hSS
theorem tt_len (l : List UInt8) : (tt l).1.length ≤ l.length := by
  unfold tt
  split
  · simp
  · split
    · simp
    · split
      · simp
      · simp only [List.length_take, List.length_drop]; omega
theorem tf_len (l : List UInt8) : (tf l).2.1.length ≤ l.length := by
  cases l with
  | nil => simp [tf]
  | cons c t =>
    simp only [tf]
    by_cases h1 : (tn 0 0 t).2.2 ≠ 0
    · rw [if_pos h1]; simp
    · rw [if_neg h1]
      by_cases h2 : 2097152 < (tn 0 0 t).1
      · rw [if_pos h2]; simp
      · rw [if_neg h2]
        by_cases h3 : (c :: t).length < 1 + (tn 0 0 t).2.1 + 4 + (tn 0 0 t).1
        · rw [if_pos h3]; simp
        · rw [if_neg h3]
          split
          · simp only [List.length_take, List.length_drop]; omega
          · simp
end Go.Proofs.YtfnifpgaieggbaaDoor
