/-
  A right message is read from its own bytes, and what follows is left.
-/
import Derived.Test.YtekgmgiokmbliaaBack2
set_option linter.unusedVariables false
namespace Go.Proofs.Ytekgmgiokmbliaa
open Go.RowKit

theorem RiseP.byte {l : List Int} (h : RiseP l) : ∀ x ∈ l, 0 ≤ x ∧ x ≤ 255 := by
  intro x hx
  obtain ⟨i, hi, rfl⟩ := List.mem_iff_getElem.1 hx
  have := (h i hi).1
  unfold NodeP at this
  omega
theorem rbytes_vb' {d : List UInt8} {n : Nat} (hn : n = d.length) (h : d.length ≤ 9007199254740991) (r : List UInt8) (b : Bool) : rbytes (vb n ++ (d ++ r), b) = (d, (r, b)) := by
  rw [hn, ← List.append_assoc]
  exact rbytes_vb h r b
theorem pmsg_encB {m : Msg} (h : RightP m) (r : List UInt8) (b : Bool) : pmsg (encB m ++ r, b) = (m, (r, b)) := by
  obtain ⟨k, g, f, d, t, i, l, c, ok, es, ms, da⟩ := m
  obtain ⟨⟨hg, hf, hd, ht⟩, ⟨hi, hl, hc⟩, hk⟩ := h
  unfold KindP NoneP at hk
  unfold CountP at hi hl hc
  unfold NodeP at hf hd
  simp only at hg hf hd ht hi hl hc hk
  have hkb : 0 ≤ k ∧ k ≤ 255 := by rcases hk with h | h | h | h | h <;> omega
  have e0 : ∀ m : Msg, encB m ++ r = byI m.kind :: byI m.group :: byI m.frm :: byI m.dst :: (vi m.term ++ (restB m ++ r)) := fun m => by
    unfold encB headB; simp only [List.append_assoc, List.cons_append, List.nil_append]
  have ek : ((k.toNat : Nat) : Int) = k := by omega
  have eg : ((g.toNat : Nat) : Int) = g := by omega
  have ef : ((f.toNat : Nat) : Int) = f := by omega
  have ed : ((d.toNat : Nat) : Int) = d := by omega
  have et : ((t.toNat : Nat) : Int) = t := by omega
  have ei : ((i.toNat : Nat) : Int) = i := by omega
  have el : ((l.toNat : Nat) : Int) = l := by omega
  have ec : ((c.toNat : Nat) : Int) = c := by omega
  rw [e0]
  unfold pmsg
  simp only [rbyte_byI hkb.1 hkb.2, rbyte_byI (x := g) (by omega) (by omega), rbyte_byI (x := f) (by omega) (by omega), rbyte_byI (x := d) (by omega) (by omega), rcount_vi (x := t) (by omega) (by omega), ek, eg, ef, ed, et]
  unfold restB
  simp only
  rcases hk with ⟨h1, h2, h3, h4, h5, h6⟩ | ⟨h1, h2, h3, h4, h5, h6, h7⟩ | ⟨h1, h2, ⟨h3, h4⟩, h5, h6⟩ | ⟨h1, h2, h3, h4, h5, h6⟩ | ⟨h1, h2, h3, h4, h5, h6, h7⟩
  · have hk1 : k.toNat = 1 := by omega
    have h4 := List.length_eq_zero_iff.1 h4
    have h5 := List.length_eq_zero_iff.1 h5
    have h6 := List.length_eq_zero_iff.1 h6
    rw [if_pos hk1, if_pos h1]
    simp only [List.append_assoc, rcount_vi hi.1 hi.2, rcount_vi hl.1 hl.2, ei, el]
    rw [h2, h3, h4, h5, h6]
  · have h5 := List.length_eq_zero_iff.1 h5
    have h6 := List.length_eq_zero_iff.1 h6
    have h7 := List.length_eq_zero_iff.1 h7
    rw [if_neg (by omega), if_pos (by omega), if_neg (by omega), if_pos h1]
    simp only [List.cons_append, List.nil_append, rbyte_tb]
    rw [h2, h3, h4, h5, h6, h7]
    cases ok <;> rfl
  · have h3 := List.length_eq_zero_iff.1 h3
    have h4 := List.length_eq_zero_iff.1 h4
    rw [if_neg (by omega), if_neg (by omega), if_pos (by omega), if_neg (by omega), if_neg (by omega), if_pos h1]
    have hE := rentries_ents i r b es h6.1 (fun j hj => ⟨(h6.2 j hj).1, (h6.2 j hj).2.1⟩)
    rw [List.append_assoc] at hE
    simp only [List.append_assoc, rcount_vi hi.1 hi.2, rcount_vi hl.1 hl.2, rcount_vi hc.1 hc.2, ei, el, ec, hE]
    rw [h2, h3, h4]
  · have h4 := List.length_eq_zero_iff.1 h4
    have h5 := List.length_eq_zero_iff.1 h5
    have h6 := List.length_eq_zero_iff.1 h6
    rw [if_neg (by omega), if_neg (by omega), if_neg (by omega), if_pos (by omega), if_neg (by omega), if_neg (by omega), if_neg (by omega), if_pos h1]
    simp only [List.cons_append, List.nil_append, rbyte_tb, rcount_vi hi.1 hi.2, ei]
    rw [h2, h3, h4, h5, h6]
    cases ok <;> rfl
  · have h4 := List.length_eq_zero_iff.1 h4
    rw [if_neg (by omega), if_neg (by omega), if_neg (by omega), if_neg (by omega), if_pos (by omega), if_neg (by omega), if_neg (by omega), if_neg (by omega), if_neg (by omega), if_pos h1]
    have h8 := h5.2.five
    simp only [List.append_assoc, rcount_vi hi.1 hi.2, rcount_vi hl.1 hl.2, ei, el, rbytes_vb' (d := ms.map byI) (n := ms.length) (by simp) (by simp; omega), rbytes_vb' (d := da) rfl (by omega), ints_back h5.2.byte]
    rw [h2, h3, h4]
end Go.Proofs.Ytekgmgiokmbliaa
