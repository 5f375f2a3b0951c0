/-
  isZero.
-/
import Derived.Test.YtekgmgiokmbliaaEnts
set_option linter.unusedVariables false
namespace Go.Proofs.Ytekgmgiokmbliaa
open Go.RowKit

set_option maxHeartbeats 3200000 in
set_option maxRecDepth 100000 in
theorem zero_any (kind group frm dst term index logTerm commit : Int) (ok : Bool) (ne nm nd : Nat) (a : At) (w : World) :
    Calls Try.prog 62 #[.agg #[.int .i64 kind, .int .i64 group, .int .i64 frm, .int .i64 dst, .int .i64 term, .int .i64 index, .int .i64 logTerm, .int .i64 commit, .bool ok, .slice a.e ne a.ec, .slice a.m nm a.mc, .slice a.d nd a.dc]] w fun e w' => Tells e (index = 0 ∧ logTerm = 0 ∧ commit = 0 ∧ ok = false ∧ ne = 0 ∧ nm = 0 ∧ nd = 0) ∧ Below w.heap.size w w' := by
  have hb := below1' w (.cells #[.int .i64 kind, .int .i64 group, .int .i64 frm, .int .i64 dst, .int .i64 term, .int .i64 index, .int .i64 logTerm, .int .i64 commit, .bool ok, .slice a.e ne a.ec, .slice a.m nm a.mc, .slice a.d nd a.dc] 51)
  obtain ⟨P, hP⟩ : ∃ P, P = (index = 0 ∧ logTerm = 0 ∧ commit = 0 ∧ ok = false ∧ ne = 0 ∧ nm = 0 ∧ nd = 0) := ⟨_, rfl⟩
  rw [← hP]
  replace hP := Lib.hid hP
  by_cases h0 : index = 0
  rotate_left
  · have hnp : Hid (¬ P) := fun h => h0 (hP.out ▸ h).1
    have hf : (index == 0) = false := by rw [beq_eq_false_iff_ne]; exact h0
    go_enter Try.func62, Try.ntmps62
    go_wp2
    go_ret
    exact ⟨.no hnp.out, hb⟩
  subst h0
  by_cases h1 : logTerm = 0
  rotate_left
  · have hnp : Hid (¬ P) := fun h => h1 (hP.out ▸ h).2.1
    have hf : (logTerm == 0) = false := by rw [beq_eq_false_iff_ne]; exact h1
    go_enter Try.func62, Try.ntmps62
    go_wp2
    go_ret
    exact ⟨.no hnp.out, hb⟩
  subst h1
  by_cases h2 : commit = 0
  rotate_left
  · have hnp : Hid (¬ P) := fun h => h2 (hP.out ▸ h).2.2.1
    have hf : (commit == 0) = false := by rw [beq_eq_false_iff_ne]; exact h2
    go_enter Try.func62, Try.ntmps62
    go_wp2
    go_ret
    exact ⟨.no hnp.out, hb⟩
  subst h2
  cases ok with
  | true =>
    have hnp : Hid (¬ P) := fun h => by have := (hP.out ▸ h).2.2.2.1; cases this
    go_enter Try.func62, Try.ntmps62
    go_wp2
    go_ret
    exact ⟨.no hnp.out, hb⟩
  | false =>
    by_cases h4 : ne = 0
    rotate_left
    · have hnp : Hid (¬ P) := fun h => h4 (hP.out ▸ h).2.2.2.2.1
      have hf : ((ne : Int) == 0) = false := by rw [beq_eq_false_iff_ne]; omega
      go_enter Try.func62, Try.ntmps62
      go_wp2
      go_ret
      exact ⟨.no hnp.out, hb⟩
    subst h4
    by_cases h5 : nm = 0
    rotate_left
    · have hnp : Hid (¬ P) := fun h => h5 (hP.out ▸ h).2.2.2.2.2.1
      have hf : ((nm : Int) == 0) = false := by rw [beq_eq_false_iff_ne]; omega
      go_enter Try.func62, Try.ntmps62
      go_wp2
      go_ret
      exact ⟨.no hnp.out, hb⟩
    subst h5
    by_cases h6 : nd = 0
    rotate_left
    · have hnp : Hid (¬ P) := fun h => h6 (hP.out ▸ h).2.2.2.2.2.2
      have hf : ((nd : Int) == 0) = false := by rw [beq_eq_false_iff_ne]; omega
      go_enter Try.func62, Try.ntmps62
      go_wp2
      go_ret
      exact ⟨.no hnp.out, hb⟩
    subst h6
    have hp : Hid P := by show P; rw [hP.out]; exact ⟨rfl, rfl, rfl, rfl, rfl, rfl, rfl⟩
    go_enter Try.func62, Try.ntmps62
    go_wp2
    go_ret
    exact ⟨.yes hp.out, hb⟩
end Go.Proofs.Ytekgmgiokmbliaa
