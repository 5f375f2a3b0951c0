/-
  The bytes that are cut off and turned, in parts.
-/
import Derived.Test.YtfnifpgaieggbaaDoorTornL
set_option linter.unusedVariables false
namespace Go.Proofs.YtfnifpgaieggbaaDoor
open Go.RowKit

theorem num_le3 {n : Nat} (h : n ≤ 2097151) : (num n).length ≤ 3 := by
  have e : ∀ f m, m < 128 → numF f m = [by8 m] := fun f m h => numF_lt h
  unfold num
  by_cases h1 : n < 128
  · rw [e _ _ h1]; simp
  · rw [numF_ge h1]
    by_cases h2 : n / 128 < 128
    · rw [e _ _ h2]; simp
    · rw [numF_ge h2, e _ _ (by omega)]; simp
theorem num_one {n : Nat} (h : ∀ h0 : 0 < (num n).length, ((num n)[0]).toNat < 128) : (num n).length = 1 := by
  by_cases h1 : n < 128
  · unfold num
    rw [numF_lt h1]; rfl
  · exfalso
    have h2 := h (by unfold num; rw [numF_ge h1]; simp)
    have e : num n = by8 (128 + n % 128) :: numF 8 (n / 128) := by unfold num; rw [numF_ge h1]
    simp only [e, List.getElem_cons_zero] at h2
    rw [by8_nat] at h2
    omega
theorem xor8 (a b : UInt8) : bits .xor .u8 (a.toNat : Int) (b.toNat : Int) = ((a ^^^ b).toNat : Int) := by
  have ha : (BitVec.ofInt 8 (a.toNat : Int)).toNat = a.toNat := by
    rw [BitVec.ofInt_natCast, BitVec.toNat_ofNat]; exact Nat.mod_eq_of_lt a.toNat_lt
  have hb : (BitVec.ofInt 8 (b.toNat : Int)).toNat = b.toNat := by
    rw [BitVec.ofInt_natCast, BitVec.toNat_ofNat]; exact Nat.mod_eq_of_lt b.toNat_lt
  have hx : a.toNat ^^^ b.toNat < 2 ^ 8 := Nat.xor_lt_two_pow a.toNat_lt b.toNat_lt
  show IntKind.u8.wrap ((BitVec.ofInt 8 (a.toNat : Int) ^^^ BitVec.ofInt 8 (b.toNat : Int)).toNat : Int) = _
  rw [BitVec.toNat_xor, ha, hb, UInt8.toNat_xor, IntKind.wrap_u8]
  omega
theorem xor_ne {a b : UInt8} (h : b.toNat ≠ 0) : a ≠ a ^^^ b := fun e => by
  have h1 := congrArg UInt8.toNat e
  rw [UInt8.toNat_xor] at h1
  have h2 : a.toNat ^^^ a.toNat = a.toNat ^^^ (a.toNat ^^^ b.toNat) := congrArg _ h1
  rw [Nat.xor_self, ← Nat.xor_assoc, Nat.xor_self, Nat.zero_xor] at h2
  exact h h2.symm
/-- cut off at k -/
theorem torn_at {L : List (Nat × List OpD)} {i k : Nat} (h : Seqd 1 L) (hi : i < L.length) (h1 : (catB (L.take i)).length ≤ k) (h2 : k < (catB (L.take (i + 1))).length) :
    ∃ e, repl ((catB L).take k) = (L.take i, (catB (L.take i)).length, e) := by
  rw [cat_take hi] at h2
  obtain ⟨j, rfl⟩ : ∃ j, k = (catB (L.take i)).length + j := ⟨k - (catB (L.take i)).length, by omega⟩
  have e : (catB L).take ((catB (L.take i)).length + j) = catB (L.take i) ++ (batB L[i].1 L[i].2).take j := by
    rw [cat_at hi, List.take_length_add_append, List.take_append_of_le_length (by omega)]
  rw [e]
  exact torn_cat (seqd_at hi h) (by omega)
theorem get_at {L : List (Nat × List OpD)} {i j : Nat} (hi : i < L.length) (hj : j < (batB L[i].1 L[i].2).length) (h : (catB (L.take i)).length + j < (catB L).length) : (catB L)[(catB (L.take i)).length + j] = (batB L[i].1 L[i].2)[j] := by
  have e : (catB L)[(catB (L.take i)).length + j]? = (batB L[i].1 L[i].2)[j]? := by
    rw [cat_at hi, List.getElem?_append_right (by omega), Nat.add_sub_cancel_left, List.getElem?_append_left hj]
  rw [List.getElem?_eq_getElem h, List.getElem?_eq_getElem hj] at e
  exact Option.some.inj e
/-- a byte turned at k -/
theorem turned_at {L : List (Nat × List OpD)} {i k : Nat} {d : UInt8} (h : Seqd 1 L) (hi : i < L.length) (h1 : (catB (L.take i)).length ≤ k) (h2 : k < (catB (L.take (i + 1))).length) (hk : k < (catB L).length) (hd : (catB L)[k] ≠ d)
    (hb : (catB (L.take i)).length + 6 ≤ k ∨ ((catB (L.take i)).length + 3 ≤ k ∧ ∀ h : (catB (L.take i)).length + 1 < (catB L).length, ((catB L)[(catB (L.take i)).length + 1]).toNat < 128)) :
    repl ((catB L).set k d) = (L.take i, (catB (L.take i)).length, 13) := by
  rw [cat_take hi] at h2
  obtain ⟨j, rfl⟩ : ∃ j, k = (catB (L.take i)).length + j := ⟨k - (catB (L.take i)).length, by omega⟩
  have hj : j < (batB L[i].1 L[i].2).length := by omega
  rw [get_at hi hj] at hd
  have hE := (seqd_at hi h).mid.1
  have hm : 1 + (num (bodyB L[i].1 L[i].2).length).length ≤ j := by
    rcases hb with hb | ⟨hb, hx⟩
    · have := num_le3 (n := (bodyB L[i].1 L[i].2).length) (by have := hE.2.2; omega)
      omega
    · have hx := hx (by omega)
      rw [get_at hi (by omega)] at hx
      have := num_one (n := (bodyB L[i].1 L[i].2).length) (fun h0 => by
        have e : ∀ h : 1 < (batB L[i].1 L[i].2).length, (batB L[i].1 L[i].2)[1]'h = (num (bodyB L[i].1 L[i].2).length)[0] := fun h => by
          have e1 : (batB L[i].1 L[i].2)[1]? = (num (bodyB L[i].1 L[i].2).length)[0]? := by
            unfold batB frame head
            rw [List.append_assoc, List.cons_append, List.getElem?_cons_succ, List.getElem?_append_left h0]
          rw [List.getElem?_eq_getElem h, List.getElem?_eq_getElem h0] at e1
          exact Option.some.inj e1
        rw [e] at hx
        exact hx)
      omega
  have e : (catB L).set ((catB (L.take i)).length + j) d = catB (L.take i) ++ ((batB L[i].1 L[i].2).set j d ++ catB (L.drop (i + 1))) := by
    rw [cat_at hi, List.set_append_right _ _ (by omega), Nat.add_sub_cancel_left, List.set_append_left _ _ hj]
  rw [e]
  exact turned_cat (seqd_at hi h) hj hm hd
end Go.Proofs.YtfnifpgaieggbaaDoor
