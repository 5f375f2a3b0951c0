/-
  A right message is read from its own bytes.
-/
import Derived.Test.YtekgmgiokmbliaaBack
set_option linter.unusedVariables false
namespace Go.Proofs.Ytekgmgiokmbliaa
open Go.RowKit

theorem rbyte_byI {x : Int} (h0 : 0 ≤ x) (h : x ≤ 255) (r : List UInt8) (b : Bool) : rbyte (byI x :: r, b) = (x.toNat, (r, b)) := by
  rw [rbyte_cons]
  unfold byI
  rw [by8_of (by omega)]
theorem rcount_vi {x : Int} (h0 : 0 ≤ x) (h : x ≤ 9007199254740991) (r : List UInt8) (b : Bool) : rcount (vi x ++ r, b) = (x.toNat, (r, b)) :=
  rcount_vb (by omega) r b
theorem rbyte_tb (k : Bool) (r : List UInt8) (b : Bool) : rbyte (tb k :: r, b) = ((if k then 1 else 0), (r, b)) := by
  cases k <;> rfl
theorem EntP.data {e : Ent} (h : EntP e) : e.data.length ≤ 12000 := by
  rcases h.2.2 with h | h | h
  · omega
  · exact h.2
  · have := h.2.2.five; rw [intsOf_len] at this; omega
theorem EntP.kind {e : Ent} (h : EntP e) : 0 ≤ e.kind ∧ e.kind ≤ 255 := by
  rcases h.2.2 with h | h | h <;> omega
theorem rent {e : Ent} (h : EntP e) (r : List UInt8) (b : Bool) : rcount (entB e ++ r, b) = (e.term.toNat, ([byI e.kind] ++ vb e.data.length ++ e.data ++ r, b)) := by
  unfold entB
  rw [show vi e.term ++ [byI e.kind] ++ vb e.data.length ++ e.data ++ r = vi e.term ++ ([byI e.kind] ++ vb e.data.length ++ e.data ++ r) by simp only [List.append_assoc]]
  exact rcount_vi (by have := h.1; omega) h.1.2 _ _
theorem reF_ents (idx : Int) (r : List UInt8) (b : Bool) : ∀ (es : List Ent) (k : Nat) (acc : List Ent), (∀ i (h : i < es.length), EntP es[i] ∧ es[i].index = idx + 1 + ((k + i : Nat) : Int)) → reF idx es.length k acc (es.flatMap entB ++ r, b) = (acc ++ es, (r, b))
  | [], k, acc, _ => by simp [reF]
  | e :: es, k, acc, h => by
    obtain ⟨h1, h2⟩ := h 0 (by simp)
    simp only [List.getElem_cons_zero] at h1 h2
    rw [List.length_cons, reF, List.flatMap_cons, List.append_assoc, rent h1]
    have e1 : [byI e.kind] ++ vb e.data.length ++ e.data ++ (es.flatMap entB ++ r) = byI e.kind :: (vb e.data.length ++ e.data ++ (es.flatMap entB ++ r)) := by simp
    simp only [e1, rbyte_byI h1.kind.1 h1.kind.2, rbytes_vb (Nat.le_trans h1.data (by decide))]
    rw [reF_ents idx r b es (k + 1) _ (fun i hi => by
      have := h (i + 1) (by simp; omega)
      simp only [List.getElem_cons_succ] at this
      refine ⟨this.1, this.2.trans ?_⟩
      congr 1
      omega)]
    have ht : ((e.term.toNat : Nat) : Int) = e.term := by have := h1.1; omega
    have hk : ((e.kind.toNat : Nat) : Int) = e.kind := by have := h1.kind; omega
    rw [ht, hk, show (⟨idx + 1 + (k : Nat), e.term, e.kind, e.data⟩ : Ent) = e by rw [show idx + 1 + (k : Int) = e.index by rw [h2]; simp]]
    simp
theorem rentries_ents (idx : Int) (r : List UInt8) (b : Bool) (es : List Ent) (hl : es.length ≤ 64) (h : ∀ i (h : i < es.length), EntP es[i] ∧ es[i].index = idx + 1 + (i : Int)) : rentries idx (vb es.length ++ es.flatMap entB ++ r, b) = (es, (r, b)) := by
  unfold rentries
  rw [List.append_assoc, rcount_vb (by omega), if_neg (by simp only; omega)]
  simp only
  rw [reF_ents idx r b es 0 [] (fun i hi => by simpa using h i hi), List.nil_append]
theorem ints_back : ∀ {l : List Int}, (∀ x ∈ l, 0 ≤ x ∧ x ≤ 255) → intsOf (l.map byI) = l
  | [], _ => rfl
  | x :: l, h => by
    have h1 := h x (by simp)
    show ((byI x).toNat : Int) :: intsOf (l.map byI) = x :: l
    rw [ints_back (fun y hy => h y (List.mem_cons_of_mem _ hy))]
    unfold byI
    rw [by8_of (by omega)]
    congr 1
    omega
end Go.Proofs.Ytekgmgiokmbliaa
