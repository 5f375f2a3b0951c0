/-
  What Decode answers, as a function on bytes.
-/
import Derived.Test.YtekgmgiokmbliaaBack3
set_option linter.unusedVariables false
namespace Go.Proofs.Ytekgmgiokmbliaa
open Go.RowKit

theorem reF_all (P : List Ent → Prop) (idx : Int) (B : Nat) (hs : ∀ acc i t k s, s.1.length ≤ B → P acc → P (acc ++ [⟨i, t, k, (rbytes s).1⟩])) : ∀ (f k : Nat) (acc : List Ent) (s : RS), s.1.length ≤ B → P acc → P (reF idx f k acc s).1
  | 0, _, _, _, _, h => h
  | f + 1, k, acc, s, hl, h => by
    rw [reF]
    have l1 : (rbyte (rcount s).2).2.1.length ≤ B := Nat.le_trans (rbyte_len _) (Nat.le_trans (rcount_len s) hl)
    exact reF_all P idx B hs f (k + 1) _ _ (Nat.le_trans (rbytes_len _) l1) (hs _ _ _ _ _ l1 h)
theorem reF_length (idx : Int) : ∀ (f k : Nat) (acc : List Ent) (s : RS), (reF idx f k acc s).1.length = acc.length + f
  | 0, _, _, _ => rfl
  | f + 1, k, acc, s => by
    rw [reF, reF_length idx f]
    simp only [List.length_append, List.length_singleton]
    omega
theorem rentries_small (idx : Int) (s : RS) (hl : s.1.length ≤ 1048576) : (rentries idx s).1.length ≤ 1048576 ∧ ∀ e ∈ (rentries idx s).1, e.data.length ≤ 1048576 := by
  unfold rentries
  split
  · exact ⟨Nat.zero_le _, (fun e h => nomatch h)⟩
  · refine ⟨by rw [reF_length]; simp only [List.length_nil]; omega, ?_⟩
    refine reF_all (fun es => ∀ e ∈ es, e.data.length ≤ 1048576) idx 1048576 ?_ _ _ _ _ (Nat.le_trans (rcount_len s) hl) (fun e h => nomatch h)
    intro acc i t k s hs h e he
    rcases List.mem_append.1 he with he | he
    · exact h e he
    · rw [List.mem_singleton.1 he]
      exact Nat.le_trans (rbytes_le s) hs
theorem pmsg_small (s : RS) (hl : s.1.length ≤ 1048576) : Small (pmsg s).1 := by
  have l1 := Nat.le_trans (rbyte_len s) hl
  have l2 := Nat.le_trans (rbyte_len _) l1
  have l3 := Nat.le_trans (rbyte_len _) l2
  have l4 := Nat.le_trans (rbyte_len _) l3
  have l5 := Nat.le_trans (rcount_len _) l4
  have l6 := Nat.le_trans (rcount_len _) l5
  have l7 := Nat.le_trans (rcount_len _) l6
  have l8 := Nat.le_trans (rcount_len _) l7
  have z : ∀ (m : Msg), m.entries = [] → m.members = [] → m.data = [] → Small m := fun m h1 h2 h3 => ⟨by rw [h1]; exact Nat.zero_le _, by rw [h1]; exact (fun e h => nomatch h), by rw [h2]; exact Nat.zero_le _, by rw [h3]; exact Nat.zero_le _⟩
  have hp : ∀ x, x = pmsg s → Small x.1 := by
    intro x hx
    unfold pmsg at hx
    simp only at hx
    generalize (rbyte (rbyte (rbyte (rbyte s).2).2).2).2 = D at hx l4 l5 l6 l7 l8
    generalize (rcount D).2 = T at hx l5 l6 l7 l8
    split at hx
    · rw [hx]; exact z _ rfl rfl rfl
    split at hx
    · rw [hx]; exact z _ rfl rfl rfl
    split at hx
    · have h := rentries_small (rcount T).1 _ l8
      rw [hx]
      generalize rentries _ _ = X at h ⊢
      exact ⟨h.1, h.2, Nat.zero_le _, Nat.zero_le _⟩
    split at hx
    · rw [hx]; exact z _ rfl rfl rfl
    split at hx
    · rw [hx]
      have h1 := rbytes_le (rcount (rcount T).2).2
      have h2 := Nat.le_trans (rbytes_le _) (Nat.le_trans (rbytes_len (rcount (rcount T).2).2) l7)
      generalize (rcount (rcount T).2).2 = Y at h1 h2 l7 ⊢
      generalize (rbytes (rbytes Y).2).1 = Z at h2 ⊢
      generalize (rbytes Y).1 = V at h1 ⊢
      exact ⟨Nat.zero_le _, (fun e h => nomatch h), by show (intsOf V).length ≤ _; rw [intsOf_len]; exact Nat.le_trans h1 l7, h2⟩
    · rw [hx]; exact z _ rfl rfl rfl
  exact hp _ rfl

open Classical in
/-- the message that these bytes are, if they are one -/
noncomputable def decB (b : List UInt8) : Option Msg :=
  if (pmsg (b, false)).2 = ([], false) ∧ RightP (pmsg (b, false)).1 ∧ encB (pmsg (b, false)).1 = b then some (pmsg (b, false)).1 else none
theorem decB_some {b : List UInt8} {m : Msg} : decB b = some m ↔ RightP m ∧ encB m = b := by
  unfold decB
  constructor
  · intro h
    split at h
    · rename_i hc
      injection h with h
      rw [← h]
      exact hc.2
    · exact nomatch h
  · rintro ⟨h1, rfl⟩
    have h := pmsg_encB h1 [] false
    rw [List.append_nil] at h
    rw [h, if_pos ⟨rfl, h1, rfl⟩]
theorem decB_none {b : List UInt8} : decB b = none ↔ ∀ m, RightP m → encB m ≠ b := by
  constructor
  · intro h m h1 h2
    rw [decB_some.2 ⟨h1, h2⟩] at h
    exact nomatch h
  · intro h
    rcases h0 : decB b with _ | m
    · rfl
    · have := decB_some.1 h0
      exact absurd this.2 (h m this.1)
/-- what follows a message's bytes makes them none -/
theorem decB_more {m : Msg} (h : RightP m) {r : List UInt8} (hr : r ≠ []) : decB (encB m ++ r) = none := by
  unfold decB
  rw [pmsg_encB h, if_neg]
  rintro ⟨h1, _⟩
  injection h1 with h1
  exact hr h1
end Go.Proofs.Ytekgmgiokmbliaa
