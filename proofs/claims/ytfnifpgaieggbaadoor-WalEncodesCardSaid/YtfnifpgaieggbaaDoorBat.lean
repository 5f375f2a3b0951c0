/-
  Batches, and their bytes.
-/
import Derived.Test.YtfnifpgaieggbaaDoorFrames
set_option linter.unusedVariables false
namespace Go.Proofs.YtfnifpgaieggbaaDoor
open Go.RowKit

structure OpD where
  del : Bool
  key : List UInt8
  val : List UInt8
def OpP (o : OpD) : Prop := (1 ≤ o.key.length ∧ o.key.length ≤ 256) ∧ o.val.length ≤ 65536 ∧ (o.del = true → o.val = [])
def OpsP (l : List OpD) : Prop := (1 ≤ l.length ∧ l.length ≤ 256) ∧ ∀ o ∈ l, OpP o
def textB (s : List UInt8) : List UInt8 := num s.length ++ s
def opB (o : OpD) : List UInt8 := (if o.del then by8 1 else by8 0) :: (textB o.key ++ (if o.del then [] else textB o.val))
def opsB (l : List OpD) : List UInt8 := l.flatMap opB
def bodyB (seq : Nat) (l : List OpD) : List UInt8 := num seq ++ num l.length ++ opsB l
def SeqP (seq n : Nat) : Prop := 1 ≤ seq ∧ seq ≤ 4611686018427387904 ∧ seq + n ≤ 4611686018427387904
/-- what Encode says: the error, none is 0 -/
def EncP (seq : Nat) (l : List OpD) : Prop := OpsP l ∧ SeqP seq l.length ∧ (bodyB seq l).length ≤ 1048576
def batB (seq : Nat) (l : List OpD) : List UInt8 := frame 66 (bodyB seq l)
open Classical in
noncomputable def encE (seq : Nat) (l : List OpD) : Nat :=
  if ¬ OpsP l then 60 else if ¬ SeqP seq l.length then 61 else if 1048576 < (bodyB seq l).length then 62 else 0
theorem encE_zero {seq : Nat} {l : List OpD} : encE seq l = 0 ↔ EncP seq l := by
  unfold encE EncP
  constructor
  · intro h
    split at h
    · omega
    · split at h
      · omega
      · split at h
        · omega
        · rename_i h1 h2 h3
          exact ⟨Classical.not_not.1 h1, Classical.not_not.1 h2, by omega⟩
  · rintro ⟨h1, h2, h3⟩
    rw [if_neg (fun h => h h1), if_neg (fun h => h h2), if_neg (by omega)]

theorem textB_len {s : List UInt8} : s.length + 1 ≤ (textB s).length ∧ (textB s).length ≤ s.length + 10 := by
  unfold textB
  have h1 := num_len s.length
  have h2 := num_pos s.length
  rw [List.length_append]
  omega
theorem opB_pos (o : OpD) : 1 ≤ (opB o).length := by unfold opB; simp
theorem opB_len {o : OpD} : (opB o).length ≤ o.key.length + o.val.length + 21 := by
  have h1 := (textB_len (s := o.key)).2
  have h2 := (textB_len (s := o.val)).2
  unfold opB
  split <;> simp only [List.length_cons, List.length_append, List.length_nil] <;> omega
theorem opsB_snoc {l : List OpD} {k : Nat} (hk : k < l.length) : opsB (l.take (k + 1)) = opsB (l.take k) ++ opB l[k] := by
  unfold opsB
  rw [List.take_succ_eq_append_getElem hk, List.flatMap_append]
  simp
theorem opsB_take_le (l : List OpD) (k : Nat) : (opsB (l.take k)).length ≤ (opsB l).length := by
  have h : opsB l = opsB (l.take k) ++ opsB (l.drop k) := by
    unfold opsB
    rw [← List.flatMap_append, List.take_append_drop]
  rw [h, List.length_append]
  omega

/-- an operation read off the front of bytes: it, how many bytes, whether it is one -/
def tOp (b : List UInt8) : OpD × Nat × Bool := match b with
  | [] => (⟨false, [], []⟩, 0, false)
  | c :: t =>
    if 1 < c.toNat then (⟨false, [], []⟩, 0, false)
    else if (tt t).2.2 ≠ 0 then (⟨false, [], []⟩, 0, false)
    else if c.toNat = 1 then (⟨true, (tt t).1, []⟩, 1 + (tt t).2.1, true)
    else if (tt (t.drop (tt t).2.1)).2.2 ≠ 0 then (⟨false, [], []⟩, 0, false)
    else (⟨false, (tt t).1, (tt (t.drop (tt t).2.1)).1⟩, 1 + (tt t).2.1 + (tt (t.drop (tt t).2.1)).2.1, true)
/-- operations, f of them: they, what is left, whether all are there -/
def tOps : Nat → List OpD → List UInt8 → List OpD × List UInt8 × Bool
  | 0, acc, b => (acc, b, true)
  | f + 1, acc, b => if (tOp b).2.2 then tOps f (acc ++ [(tOp b).1]) (b.drop (tOp b).2.1) else (acc, b, false)
theorem tt_textB {s : List UInt8} (hs : s.length ≤ 2097152) (r : List UInt8) : tt (textB s ++ r) = (s, (textB s).length, 0) := tt_text hs r
theorem tOp_opB {o : OpD} (h : OpP o) (r : List UInt8) : tOp (opB o ++ r) = (o, (opB o).length, true) := by
  obtain ⟨del, key, val⟩ := o
  obtain ⟨⟨h1, h2⟩, h3, h4⟩ := h
  simp only at h1 h2 h3 h4
  cases del with
  | true =>
    have hv := h4 rfl
    subst hv
    have e : opB ⟨true, key, []⟩ ++ r = by8 1 :: (textB key ++ r) := by simp [opB]
    have ht := tt_textB (s := key) (by omega) r
    have hc : (by8 1).toNat = 1 := by rw [by8_nat]
    have hl : (opB ⟨true, key, []⟩).length = 1 + (textB key).length := by simp [opB]; omega
    rw [e, hl]
    simp only [tOp, hc, ht, ne_eq, not_true_eq_false, if_false, if_true]
    rw [if_neg (by omega)]
  | false =>
    have e : opB ⟨false, key, val⟩ ++ r = by8 0 :: (textB key ++ (textB val ++ r)) := by simp [opB]
    have ht := tt_textB (s := key) (by omega) (textB val ++ r)
    have hv := tt_textB (s := val) (by omega) r
    have hc : (by8 0).toNat = 0 := by rw [by8_nat]
    have hl : (opB ⟨false, key, val⟩).length = 1 + (textB key).length + (textB val).length := by simp [opB]; omega
    rw [e, hl]
    simp only [tOp, hc, ht, List.drop_left, hv, ne_eq, not_true_eq_false, if_false]
    rw [if_neg (by omega), if_neg (by omega)]
theorem tOps_opsB : ∀ (l acc : List OpD) (r : List UInt8), (∀ o ∈ l, OpP o) → tOps l.length acc (opsB l ++ r) = (acc ++ l, r, true)
  | [], acc, r, _ => by simp [tOps, opsB]
  | o :: l, acc, r, h => by
    have e : opsB (o :: l) ++ r = opB o ++ (opsB l ++ r) := by simp [opsB]
    have ht := tOp_opB (h o (by simp)) (opsB l ++ r)
    rw [List.length_cons, tOps, e, ht]
    simp only [if_true, List.drop_left]
    rw [tOps_opsB l _ r (fun x hx => h x (List.mem_cons_of_mem _ hx))]
    simp
/-- a batch read of a body: its number, its operations, whether that is all -/
def tBat (b : List UInt8) : Nat × List OpD × Bool :=
  if (tn 0 0 b).2.2 ≠ 0 then (0, [], false)
  else if (tn 0 0 (b.drop (tn 0 0 b).2.1)).2.2 ≠ 0 ∨ 256 < (tn 0 0 (b.drop (tn 0 0 b).2.1)).1 then (0, [], false)
  else ((tn 0 0 b).1, (tOps (tn 0 0 (b.drop (tn 0 0 b).2.1)).1 [] ((b.drop (tn 0 0 b).2.1).drop (tn 0 0 (b.drop (tn 0 0 b).2.1)).2.1)).1,
    (tOps (tn 0 0 (b.drop (tn 0 0 b).2.1)).1 [] ((b.drop (tn 0 0 b).2.1).drop (tn 0 0 (b.drop (tn 0 0 b).2.1)).2.1)).2.2 && decide ((tOps (tn 0 0 (b.drop (tn 0 0 b).2.1)).1 [] ((b.drop (tn 0 0 b).2.1).drop (tn 0 0 (b.drop (tn 0 0 b).2.1)).2.1)).2.1 = []))
theorem tBat_bodyB {seq : Nat} {l : List OpD} (h : OpsP l) (hs : SeqP seq l.length) : tBat (bodyB seq l) = (seq, l, true) := by
  have h1 := tn_num (n := seq) (by have := hs.2.1; omega) (num l.length ++ opsB l)
  have h2 := tn_num (n := l.length) (by have := h.1; omega) (opsB l)
  have h3 := tOps_opsB l [] [] h.2
  rw [List.append_nil, List.nil_append] at h3
  unfold tBat bodyB
  rw [List.append_assoc, h1]
  simp only [List.drop_left, h2, h3, ne_eq, not_true_eq_false, if_false, false_or]
  rw [if_neg (by have := h.1; omega)]
  simp

/-- a frame's bytes as a batch -/
theorem frame_inj {k k' : UInt8} {s s' : List UInt8} (hs : s.length ≤ 2097152) (hs' : s'.length ≤ 2097152) (h : frame k s = frame k' s') : k = k' ∧ s = s' := by
  have h1 := tf_frame (k := k) hs []
  have h2 := tf_frame (k := k') hs' []
  rw [h, h2] at h1
  injection h1 with h1 h3
  injection h3 with h3
  exact ⟨h1.symm, h3.symm⟩
theorem EncP.inj {seq seq' : Nat} {l l' : List OpD} (h : EncP seq l) (h' : EncP seq' l') (e : batB seq l = batB seq' l') : seq = seq' ∧ l = l' := by
  have h1 := (frame_inj (by have := h.2.2; omega) (by have := h'.2.2; omega) e).2
  have h2 := tBat_bodyB h.1 h.2.1
  rw [h1, tBat_bodyB h'.1 h'.2.1] at h2
  injection h2 with h2 h3
  injection h3 with h3
  exact ⟨h2.symm, h3.symm⟩
open Classical in
/-- what Replay tells of bytes: batches (number and operations), how many bytes, the error -/
noncomputable def replF : Nat → List (Nat × List OpD) → Nat → List UInt8 → List (Nat × List OpD) × Nat × Nat
  | 0, acc, at_, b => (acc, at_, 0)
  | f + 1, acc, at_, b =>
    if b = [] then (acc, at_, 0)
    else if (tf b).2.2.2 ≠ 0 then (acc, at_, (tf b).2.2.2)
    else if h : ∃ x : Nat × List OpD, EncP x.1 x.2 ∧ batB x.1 x.2 = b.take (tf b).2.2.1 then
      if acc ≠ [] ∧ h.choose.1 ≠ (acc.getLast?.map (fun y => y.1 + y.2.length)).getD 0 then (acc, at_, 61)
      else replF f (acc ++ [h.choose]) (at_ + (tf b).2.2.1) (b.drop (tf b).2.2.1)
    else (acc, at_, 63)
noncomputable def repl (b : List UInt8) : List (Nat × List OpD) × Nat × Nat := replF (b.length + 1) [] 0 b
end Go.Proofs.YtfnifpgaieggbaaDoor
