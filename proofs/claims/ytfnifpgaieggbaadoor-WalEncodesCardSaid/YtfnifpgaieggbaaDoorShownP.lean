/-
  The document's example: its bytes, and what Replay tells of them.
-/
import Derived.Test.YtfnifpgaieggbaaDoorReplay
set_option linter.unusedVariables false
namespace Go.Proofs.YtfnifpgaieggbaaDoor
open Go.RowKit

def ops0 : List OpD := [⟨false, [97], [120]⟩, ⟨true, [98], []⟩]
theorem body0 : bodyB 1 ops0 = [1, 2, 0, 1, 97, 1, 120, 1, 1, 98] := by decide
theorem enc0 : EncP 1 ops0 := by
  refine ⟨⟨by decide, fun o ho => ?_⟩, by unfold SeqP; decide, by rw [body0]; decide⟩
  simp only [ops0, List.mem_cons, List.not_mem_nil, or_false] at ho
  rcases ho with rfl | rfl
  · exact ⟨by decide, by decide, fun h => nomatch h⟩
  · exact ⟨by decide, by decide, fun _ => rfl⟩
theorem bat0 : ∃ S, batB 1 ops0 = 66 :: 10 :: (four S ++ [1, 2, 0, 1, 97, 1, 120, 1, 1, 98]) := by
  refine ⟨crc ([66, 10] ++ [1, 2, 0, 1, 97, 1, 120, 1, 1, 98]), ?_⟩
  unfold batB frame
  rw [body0]
  have h : head 66 [(1 : UInt8), 2, 0, 1, 97, 1, 120, 1, 1, 98].length = [66, 10] := by decide
  rw [h]
  rfl
theorem bat0_len : (batB 1 ops0).length = 16 := by
  obtain ⟨S, h⟩ := bat0
  rw [h]
  rfl
theorem bat0_drop : (batB 1 ops0).drop 6 = [1, 2, 0, 1, 97, 1, 120, 1, 1, 98] := by
  obtain ⟨S, h⟩ := bat0
  rw [h]
  rfl
theorem small0 : SmallO ops0 := ⟨by decide, fun o ho => by
  simp only [ops0, List.mem_cons, List.not_mem_nil, or_false] at ho
  rcases ho with rfl | rfl <;> decide, fun o ho => by
  simp only [ops0, List.mem_cons, List.not_mem_nil, or_false] at ho
  rcases ho with rfl | rfl <;> decide⟩
/-- a batch's frame ahead of anything -/
theorem replF_bat {f : Nat} {acc : List (Nat × List OpD)} {at_ : Nat} {sq : Nat} {ops : List OpD} (h : EncP sq ops) (hq : acc = [] ∨ sq = afterB acc) (r : List UInt8) :
    replF (f + 1) acc at_ (batB sq ops ++ r) = replF f (acc ++ [(sq, ops)]) (at_ + (batB sq ops).length) r := by
  have h1 := tf_frame (k := 66) (s := bodyB sq ops) (by have := h.2.2; omega) r
  have h2 : tf (batB sq ops ++ r) = (66, bodyB sq ops, (batB sq ops).length, 0) := h1
  have hne : batB sq ops ++ r ≠ [] := fun e => by
    have := congrArg List.length e
    unfold batB frame head at this
    simp at this
  rw [replF_yes (sq := sq) (ops := ops) hne (by rw [h2]) h (by rw [h2]; simp)]
  rw [h2]
  simp only [List.drop_left]
  rw [if_neg]
  rintro ⟨h3, h4⟩
  rcases hq with hq | hq
  · exact h3 hq
  · exact h4 hq
theorem repl0 : repl (batB 1 ops0 ++ [66, 3]) = ([(1, ops0)], 16, 10) := by
  unfold repl
  have hl : (batB 1 ops0 ++ [66, 3]).length + 1 = 17 + 1 + 1 := by rw [List.length_append, bat0_len]; rfl
  rw [hl, replF_bat enc0 (.inl rfl), bat0_len]
  have h : tf [66, 3] = (0, [], 0, 10) := by decide
  rw [replF_err (by decide) (by rw [h]; decide), h]
  rfl
end Go.Proofs.YtfnifpgaieggbaaDoor
