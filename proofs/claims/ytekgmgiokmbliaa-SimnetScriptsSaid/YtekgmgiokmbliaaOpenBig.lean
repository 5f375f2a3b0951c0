/-
  A script's length is bounded by its bytes.
-/
import Derived.Test.YtekgmgiokmbliaaOpenSteps
namespace Go.Proofs.Ytekgmgiokmbliaa
open Go.RowKit Go.ChangeShapes Go.WideShapes Go.ChangeAt Go.Deep

theorem bytesStep : Try.prog.bytesOf 34 = 72 := by kernel_rfl
theorem steps_data {H : Type} {enc : TypeId × Value → H} {W : World} {A : Option Addr} {n c : Nat} {d : DataW H} {p : List MemPlace}
    (h : ∃ fuel, DataW.trod enc Try.prog W 0 (fun _ => true) true fuel 22 (Value.slice A n c).cells.toList = some (d, p)) : n = 0 ∨ ∃ elems spare, d = .slice elems spare ∧ elems.length = n := by
  obtain ⟨fuel, hf⟩ := h
  rcases open_slice Try.underlying22 hf with ⟨hcs, _⟩ | ⟨a, len, cap, m, q, D, Pl, hcs, _, hl, hm, hmm, hd, hx⟩
  · simp [Value.cells] at hcs
    exact .inl hcs.2.1
  · simp [Value.cells] at hcs
    simp only [Prod.mk.injEq] at hd
    exact .inr ⟨_, _, hd.1, by simp [hcs.2.1]⟩
theorem sized_steps {H : Type} {ts : List TypeId} {ds : List (DataW H)} {j : Nat} {d : DataW H} {n : Nat} (h : (DataW.weightsEach Try.prog ts ds).all (· ≤ reachBytes) = true) (ht : ts[j]? = some 22) (hd : ds[j]? = some d)
    (dd : n = 0 ∨ ∃ elems spare, d = .slice elems spare ∧ elems.length = n) : n ≤ 1152921504606846976 := by
  rcases dd with rfl | ⟨elems, spare, rfl, he⟩
  · simp
  · have := sized_slice h ht hd Try.underlying22
    rw [bytesStep] at this
    simp only [reachBytes] at this
    omega
end Go.Proofs.Ytekgmgiokmbliaa
