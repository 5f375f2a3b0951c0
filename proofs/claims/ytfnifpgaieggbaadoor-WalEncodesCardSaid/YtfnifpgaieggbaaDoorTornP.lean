/-
  Batches one behind the other, cut off anywhere, or with a byte turned: what Replay tells of them.
-/
import Derived.Test.YtfnifpgaieggbaaDoorShownP
set_option linter.unusedVariables false
namespace Go.Proofs.YtfnifpgaieggbaaDoor
open Go.RowKit

theorem tn_grow (r : List UInt8) : ∀ (t : List UInt8) (i N : Nat), (tn i N t).2.2 = 0 → tn i N (t ++ r) = tn i N t
  | [], i, N, h => by simp [tn] at h
  | c :: t, i, N, h => by
    rw [List.cons_append]
    simp only [tn] at h ⊢
    by_cases h1 : i = 9 ∧ 1 < c.toNat
    · rw [if_pos h1] at h; simp at h
    · rw [if_neg h1] at h
      rw [if_neg h1, if_neg h1]
      by_cases h2 : c.toNat < 128
      · rw [if_pos h2, if_pos h2]
      · rw [if_neg h2] at h
        rw [if_neg h2, if_neg h2]
        exact tn_grow r t _ _ h
theorem tn_errs : ∀ (t : List UInt8) (i N : Nat), (tn i N t).2.2 ≠ 13
  | [], i, N => by simp [tn]
  | c :: t, i, N => by
    simp only [tn]
    split
    · simp
    · split
      · split <;> simp
      · exact tn_errs t _ _
theorem tf_grow13 {l : List UInt8} (h : tf l = (0, [], 0, 13)) (r : List UInt8) : tf (l ++ r) = (0, [], 0, 13) := by
  cases l with
  | nil => simp [tf] at h
  | cons c t =>
    rw [List.cons_append]
    unfold tf at h ⊢
    dsimp only at h ⊢
    by_cases h0 : (tn 0 0 t).2.2 ≠ 0
    · rw [if_pos h0] at h
      exact absurd (congrArg (fun x => x.2.2.2) h) (tn_errs _ _ _)
    · rw [if_neg h0] at h
      have h0' : (tn 0 0 t).2.2 = 0 := by omega
      rw [tn_grow r t 0 0 h0', if_neg h0]
      by_cases h1 : 2097152 < (tn 0 0 t).1
      · rw [if_pos h1] at h
        exact absurd (congrArg (fun x => x.2.2.2) h) (by decide)
      · rw [if_neg h1] at h
        rw [if_neg h1]
        by_cases h2 : (c :: t).length < 1 + (tn 0 0 t).2.1 + 4 + (tn 0 0 t).1
        · rw [if_pos h2] at h
          exact absurd (congrArg (fun x => x.2.2.2) h) (by decide)
        · rw [if_neg h2] at h
          rw [← List.cons_append, if_neg (by rw [List.length_append]; omega)]
          obtain ⟨n, hn⟩ : ∃ x, x = (tn 0 0 t).2.1 := ⟨_, rfl⟩
          obtain ⟨m, hm⟩ : ∃ x, x = (tn 0 0 t).1 := ⟨_, rfl⟩
          obtain ⟨z, hz⟩ : ∃ x, x = c :: t := ⟨_, rfl⟩
          rw [← hn, ← hm, ← hz] at h h2 ⊢
          have e1 : ((z ++ r).drop (1 + n)).take 4 = (z.drop (1 + n)).take 4 := by
            rw [List.drop_append_of_le_length (by omega), List.take_append_of_le_length (by rw [List.length_drop]; omega)]
          have e2 : (z ++ r).take (1 + n) = z.take (1 + n) := List.take_append_of_le_length (by omega)
          have e3 : ((z ++ r).drop (1 + n + 4)).take m = (z.drop (1 + n + 4)).take m := by
            rw [List.drop_append_of_le_length (by omega), List.take_append_of_le_length (by rw [List.length_drop]; omega)]
          rw [e1, e2, e3]
          by_cases h3 : (z.drop (1 + n)).take 4 = four (crc (z.take (1 + n) ++ (z.drop (1 + n + 4)).take m))
          · rw [if_pos h3] at h
            exact absurd (congrArg (fun x => x.2.2.2) h) (fun h => absurd (show (0 : Nat) = 13 from h) (by decide))
          · rw [if_neg h3]

/-- the batches' bytes, one behind the other -/
def catB (L : List (Nat × List OpD)) : List UInt8 := L.flatMap fun p => batB p.1 p.2
theorem catB_app (L M : List (Nat × List OpD)) : catB (L ++ M) = catB L ++ catB M := by unfold catB; rw [List.flatMap_append]
theorem catB_cons (p : Nat × List OpD) (L : List (Nat × List OpD)) : catB (p :: L) = batB p.1 p.2 ++ catB L := by unfold catB; rw [List.flatMap_cons]
def Seqd : Nat → List (Nat × List OpD) → Prop
  | _, [] => True
  | s, p :: t => p.1 = s ∧ EncP p.1 p.2 ∧ Seqd (s + p.2.length) t
def lens (L : List (Nat × List OpD)) : Nat := (L.map fun p => p.2.length).sum
theorem Seqd.left : ∀ {A B : List (Nat × List OpD)} {s : Nat}, Seqd s (A ++ B) → Seqd s A
  | [], _, _, _ => trivial
  | _ :: _, _, _, h => ⟨h.1, h.2.1, Seqd.left h.2.2⟩
theorem Seqd.mid : ∀ {A B : List (Nat × List OpD)} {p : Nat × List OpD} {s : Nat}, Seqd s (A ++ p :: B) → EncP p.1 p.2 ∧ p.1 = s + lens A
  | [], _, _, _, h => ⟨h.2.1, by rw [h.1]; simp [lens]⟩
  | q :: A, _, _, s, h => by
    obtain ⟨h1, h2⟩ := Seqd.mid (A := A) h.2.2
    exact ⟨h1, by rw [h2]; simp [lens]; omega⟩
theorem Seqd.snoc : ∀ {A : List (Nat × List OpD)} {p : Nat × List OpD} {s : Nat}, Seqd s A → EncP p.1 p.2 → p.1 = s + lens A → Seqd s (A ++ [p])
  | [], _, _, _, h, hp => ⟨by rw [hp]; simp [lens], h, trivial⟩
  | q :: A, p, s, hA, h, hp => ⟨hA.1, hA.2.1, Seqd.snoc hA.2.2 h (by rw [hp]; simp [lens]; omega)⟩
theorem afterB_snoc (acc : List (Nat × List OpD)) (p : Nat × List OpD) : afterB (acc ++ [p]) = p.1 + p.2.length := by simp [afterB]
theorem replF_cat : ∀ (L : List (Nat × List OpD)) (s f : Nat) (acc : List (Nat × List OpD)) (at_ : Nat) (r : List UInt8), Seqd s L → (acc = [] ∨ s = afterB acc) →
    replF (f + L.length) acc at_ (catB L ++ r) = replF f (acc ++ L) (at_ + (catB L).length) r
  | [], s, f, acc, at_, r, _, _ => by simp [catB]
  | p :: t, s, f, acc, at_, r, h, hq => by
    have e : f + (p :: t).length = (f + t.length) + 1 := by simp; omega
    rw [e, catB_cons, List.append_assoc, replF_bat h.2.1 (by rw [h.1]; exact hq), replF_cat t (s + p.2.length) f _ _ r h.2.2 (.inr (by rw [afterB_snoc, h.1])), List.length_append]
    congr 1
    · simp
    · omega
theorem batB_pos (q : Nat) (l : List OpD) : 0 < (batB q l).length := by unfold batB frame head; simp
theorem catB_len : ∀ L : List (Nat × List OpD), L.length ≤ (catB L).length
  | [] => by simp
  | p :: t => by
    have h1 := batB_pos p.1 p.2
    have h2 := catB_len t
    rw [catB_cons, List.length_append, List.length_cons]
    omega
theorem repl_cat {L : List (Nat × List OpD)} {r : List UInt8} (h : Seqd 1 L) : ∃ f, repl (catB L ++ r) = replF (f + 1) L (catB L).length r := by
  have h1 := catB_len L
  refine ⟨(catB L).length + r.length - L.length, ?_⟩
  unfold repl
  have e : (catB L ++ r).length + 1 = ((catB L).length + r.length - L.length + 1) + L.length := by rw [List.length_append]; omega
  rw [e, replF_cat L 1 _ [] 0 r h (.inl rfl)]
  simp
theorem torn_cat {L1 L2 : List (Nat × List OpD)} {p : Nat × List OpD} (h : Seqd 1 (L1 ++ p :: L2)) {j : Nat} (hj : j < (batB p.1 p.2).length) :
    ∃ e, repl (catB L1 ++ (batB p.1 p.2).take j) = (L1, (catB L1).length, e) := by
  obtain ⟨f, hf⟩ := repl_cat (r := (batB p.1 p.2).take j) h.left
  rw [hf]
  have h1 : tf ((batB p.1 p.2).take j) = (0, [], 0, 10) := tf_torn (by have := h.mid.1.2.2; omega) hj
  by_cases h0 : (batB p.1 p.2).take j = []
  · rw [h0]
    exact ⟨_, replF_end⟩
  · exact ⟨_, replF_err h0 (by rw [h1]; decide)⟩
theorem turned_cat {L1 L2 : List (Nat × List OpD)} {p : Nat × List OpD} (h : Seqd 1 (L1 ++ p :: L2)) {j : Nat} {d : UInt8} (hj : j < (batB p.1 p.2).length)
    (hm : 1 + (num (bodyB p.1 p.2).length).length ≤ j) (hd : (batB p.1 p.2)[j] ≠ d) :
    repl (catB L1 ++ ((batB p.1 p.2).set j d ++ catB L2)) = (L1, (catB L1).length, 13) := by
  obtain ⟨f, hf⟩ := repl_cat (r := (batB p.1 p.2).set j d ++ catB L2) h.left
  rw [hf]
  have hb : (bodyB p.1 p.2).length ≤ 2097152 := by have := h.mid.1.2.2; omega
  obtain ⟨m, rfl⟩ : ∃ m, j = 1 + (num (bodyB p.1 p.2).length).length + m := ⟨j - (1 + (num (bodyB p.1 p.2).length).length), by omega⟩
  have hl : (batB p.1 p.2).length = 1 + (num (bodyB p.1 p.2).length).length + 4 + (bodyB p.1 p.2).length := by
    unfold batB frame head
    simp [four_len]
    omega
  have h1 : tf ((batB p.1 p.2).set (1 + (num (bodyB p.1 p.2).length).length + m) d) = (0, [], 0, 13) := tf_turned hb (by omega) (fun _ => hd)
  have h2 := tf_grow13 h1 (catB L2)
  have h0 : (batB p.1 p.2).set (1 + (num (bodyB p.1 p.2).length).length + m) d ++ catB L2 ≠ [] := fun e => by
    have := congrArg List.length e
    rw [List.length_append, List.length_set, List.length_nil] at this
    omega
  rw [replF_err h0 (by rw [h2]; decide), h2]
/-- the place of a byte: the batches ahead, its own, those behind -/
theorem cat_at {L : List (Nat × List OpD)} {i : Nat} (hi : i < L.length) : catB L = catB (L.take i) ++ (batB L[i].1 L[i].2 ++ catB (L.drop (i + 1))) := by
  rw [← catB_cons, ← catB_app, ← List.drop_eq_getElem_cons hi, List.take_append_drop]
theorem cat_take {L : List (Nat × List OpD)} {i : Nat} (hi : i < L.length) : (catB (L.take (i + 1))).length = (catB (L.take i)).length + (batB L[i].1 L[i].2).length := by
  rw [List.take_succ_eq_append_getElem hi, catB_app, List.length_append]
  simp [catB]
theorem seqd_at {L : List (Nat × List OpD)} {s i : Nat} (hi : i < L.length) (h : Seqd s L) : Seqd s (L.take i ++ L[i] :: L.drop (i + 1)) := by
  rw [← List.drop_eq_getElem_cons hi, List.take_append_drop]
  exact h
end Go.Proofs.YtfnifpgaieggbaaDoor
