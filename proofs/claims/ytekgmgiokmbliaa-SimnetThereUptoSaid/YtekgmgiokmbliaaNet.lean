/-
  A line in memory; the contract of Send.
-/
import Derived.Test.YtekgmgiokmbliaaClone
import Derived.Deep.RegionLaw
import Derived.Deep.AppendLies
set_option linter.unusedVariables false
namespace Go.Proofs.Ytekgmgiokmbliaa
open Go.RowKit

/-- an envelope as values: its number, from, to, kind, its body's value -/
abbrev Ev := Int × Int × Int × Int × Value
def ec (e : Ev) : List Value := [.int .i64 e.1, .int .i64 e.2.1, .int .i64 e.2.2.1, .int .i64 e.2.2.2.1, e.2.2.2.2]
theorem infoE : (Try.prog.info? 32).map (fun i => (i.zero, i.size, i.bytes)) = some (some (.agg #[.int .i64 0, .int .i64 0, .int .i64 0, .int .i64 0, .slice none 0 0]), 5, 56) := by kernel_rfl
def OwnF (w : World) (base : Nat) (v : Value) (es : List Ev) : Prop := w.ownsRow base 32 5 v es.length (es.flatMap ec)
theorem ec_len (es : List Ev) : (es.flatMap ec).length = es.length * 5 := by
  induction es with
  | nil => rfl
  | cons e es ih => rw [List.flatMap_cons, List.length_append, ih]; simp [ec]; omega

/-- what a call may turn of what was there: block g and one row -/
structure Two (g : Nat) (row : Option Nat) (w w' : World) : Prop where
  os : w'.os = w.os
  tape : w'.tape = w.tape
  output : w'.output = w.output
  size : w.heap.size ≤ w'.heap.size
  block : ∀ k, k < w.heap.size → k ≠ g → some k ≠ row → w'.heap[k]? = w.heap[k]?
theorem Two.refl (g : Nat) (row : Option Nat) (w : World) : Two g row w w := ⟨rfl, rfl, rfl, Nat.le_refl _, fun _ _ _ _ => rfl⟩
theorem Two.of_below {g : Nat} {row : Option Nat} {w w' : World} (h : Below w.heap.size w w') : Two g row w w' := ⟨h.os, h.tape, h.output, h.size, fun k hk _ _ => h.block k hk⟩
theorem Two.then {g : Nat} {row : Option Nat} {a b c : World} (h : Two g row a b) (k : Below a.heap.size b c) : Two g row a c :=
  ⟨k.os.trans h.os, k.tape.trans h.tape, k.output.trans h.output, Nat.le_trans h.size k.size, fun i hi h1 h2 => (k.block i hi).trans (h.block i hi h1 h2)⟩
theorem Two.grown {g : Nat} {row : Option Nat} {a b c : World} (h : Two g row a b) (k : b.grownBy c row) : Two g row a c :=
  ⟨k.os.trans h.os, k.tape.trans h.tape, k.output.trans h.output, Nat.le_trans h.size k.size, fun i hi h1 h2 => (k.block i (Nat.lt_of_lt_of_le hi h.size) h2).trans (h.block i hi h1 h2)⟩
theorem Two.set {g : Nat} {row : Option Nat} {a b : World} (h : Two g row a b) {p : Addr} (hp : p.block = g ∨ some p.block = row ∨ a.heap.size ≤ p.block) (u : Value) : Two g row a (b.setCell p u) :=
  ⟨h.os, h.tape, h.output, by have := h.size; simpa [World.setCell] using this, fun k hk h1 h2 => (Below.heap_setCell _ _ _ _ (by rcases hp with e | e | e; omega; (intro e'; exact h2 (by rw [e', e])); omega)).trans (h.block k hk h1 h2)⟩
theorem Two.setg {g : Nat} {row : Option Nat} {a b : World} (h : Two g row a b) (i : Nat) (u : Value) : Two g row a (b.setCell ⟨g, i, none⟩ u) := h.set (.inl rfl) u
theorem Two.setn {g : Nat} {row : Option Nat} {a b : World} (h : Two g row a b) (k i : Nat) (hk : a.heap.size ≤ k) (u : Value) : Two g row a (b.setCell ⟨k, i, none⟩ u) := h.set (.inr (.inr hk)) u
theorem Rd.two {w w' : World} {B g : Nat} {row : Option Nat} {A : Option Addr} {l : List UInt8} (h : Rd w B A l) (hB : B ≤ w.heap.size) (t : Two g row w w') (hA : ∀ q o, A = some ⟨q, o, none⟩ → l ≠ [] → q ≠ g ∧ some q ≠ row) : Rd w' B A l := by
  rcases h with h | ⟨q, o, rfl, hq, hc⟩
  · exact .inl h
  · by_cases h0 : l = []
    · exact .inl h0
    · obtain ⟨h1, h2⟩ := hA q o rfl h0
      exact .inr ⟨q, o, rfl, hq, fun i hi => (World.cell?_of_block (w := w) (t.block q (by omega) h1 h2)).trans (hc i hi)⟩
theorem Two.below {g B : Nat} {row : Option Nat} {w w' : World} (h : Two g row w w') (hg : B ≤ g) (hr : ∀ r, row = some r → B ≤ r) (hB : B ≤ w.heap.size) : Below B w w' :=
  ⟨h.os, h.tape, h.output, h.size, fun k hk => h.block k (by omega) (by omega) (fun e => by have := hr k e.symm; omega)⟩

/-- a line: the last number, those under way -/
structure Net (w : World) (g base : Nat) (last : Int) (fv : Value) (es : List Ev) : Prop where
  c0 : Cell w g 0 (.int .i64 last)
  c1 : Cell w g 1 fv
  own : OwnF w base fv es
  gb : base ≤ g
  apart : fv.ownBlock ≠ some g
theorem OwnF.below {w w' : World} {base : Nat} {v : Value} {l : List Ev} (h : OwnF w base v l) (hb : Below w.heap.size w w') : OwnF w' base v l := by
  unfold OwnF at h ⊢
  refine ⟨h.1, ?_⟩
  rcases h.2 with hn | ⟨g, cap, cur, hv, hg, hh, r⟩
  · exact .inl hn
  · exact .inr ⟨g, cap, cur, hv, hg, (hb.block g (Array.getElem?_eq_some_iff.1 hh).1).trans hh, r⟩
theorem OwnF.far {w : World} {base : Nat} {v : Value} {l : List Ev} (h : OwnF w base v l) {p : Addr} (hp : v.ownBlock ≠ some p.block) (u : Value) : OwnF (w.setCell p u) base v l := by
  unfold OwnF at h ⊢
  refine ⟨h.1, ?_⟩
  rcases h.2 with hn | ⟨g, cap, cur, rfl, hg, hh, r⟩
  · exact .inl hn
  · exact .inr ⟨g, cap, cur, rfl, hg, (Below.heap_setCell _ _ _ _ (fun e => hp (by simp [Value.ownBlock, e]))).trans hh, r⟩
theorem OwnF.form {w : World} {base : Nat} {v : Value} {l : List Ev} (h : OwnF w base v l) : ∃ A c, v = .slice A l.length c := by
  rcases h.2 with ⟨rfl, hn⟩ | ⟨g, cap, cur, rfl, _⟩
  · exact ⟨none, 0, by rw [hn]⟩
  · exact ⟨_, _, rfl⟩
def isNodeB (n : Int) : Bool := decide (1 ≤ n ∧ n ≤ 5)

theorem Cell.grown {w w' : World} {k i : Nat} {x : Value} {row : Option Nat} (h : Cell w k i x) (hg : w.grownBy w' row) (hk : some k ≠ row) : Cell w' k i x :=
  ⟨(hg.cell_far _ h.lt hk).trans h.1, (hg.frozen_far _ h.lt hk).trans h.2⟩
theorem flat_snoc (es : List Ev) (e : Ev) : (es ++ [e]).flatMap ec = es.flatMap ec ++ ec e := by simp [List.flatMap_append]

/-- append(v, e), e in a block of its own, as a step of a drawn region -/
theorem step_app_ev {ops : Array Oper} {o : Oper} {a : Act} {K : Act → World → Prop} {Q : Exit → Act → World → Prop} {E : Prop} (w : World) (base : Nat) (v : Value) (es : List Ev) (e : Ev) (hgd : o.guard = none) (s x : Operand)
    (ho : o.op = .call { callee := .builtin .append, args := #[s, x], argTypes := #[27, 27] })
    (hs : a.eval s = v) (hx : a.eval x = .slice (some ⟨w.heap.size, 0, none⟩) 1 1) (hown : OwnF w base v es) (h1 : e.2.2.2.2.oneCell' = true) (hlen : es.length < 1000) (hbase : base ≤ w.heap.size)
    (h : ∀ gq cap w', OwnF w' base (.slice (some ⟨gq, 0, none⟩) (es.length + 1) cap) (es ++ [e]) → (w.alloc (.cells #[.int .i64 e.1, .int .i64 e.2.1, .int .i64 e.2.2.1, .int .i64 e.2.2.2.1, e.2.2.2.2] 32)).grownBy w' v.ownBlock → (v.ownBlock = some gq ∨ gq = w.heap.size + 1) → gq < w'.heap.size → K (a.put o.dst (.slice (some ⟨gq, 0, none⟩) (es.length + 1) cap)) w') :
    if Region.wanted o (yielded ops a.tmps) = true then Oper.wp Try.prog o a (w.alloc (.cells #[.int .i64 e.1, .int .i64 e.2.1, .int .i64 e.2.2.1, .int .i64 e.2.2.2.1, e.2.2.2.2] 32)) K Q else E := by
  obtain ⟨i0, hi0, hz0, hz1, hz2⟩ := info_parts infoE
  have hown' : (w.alloc (.cells #[.int .i64 e.1, .int .i64 e.2.1, .int .i64 e.2.2.1, .int .i64 e.2.2.2.1, e.2.2.2.2] 32)).ownsRow base 32 5 v es.length (es.flatMap ec) := World.ownsRow.alloc hown _
  refine step_append_lies (w.alloc (.cells #[.int .i64 e.1, .int .i64 e.2.1, .int .i64 e.2.2.1, .int .i64 e.2.2.2.1, e.2.2.2.2] 32)) hgd s x 27 ho base 32 i0 _ 5 56 Try.underlying27 hi0 hz0 hz1 hz2 rfl (by decide) v es.length (es.flatMap ec) hs hown' ⟨w.heap.size, 0, none⟩ 1 1 (ec e) hx rfl ?_ ?_ (by decide) (by unfold maxLen; omega) (by omega) (by simp; omega) (w.heap.size + 1) (by simp) ?_
  · intro j u hu
    rw [add_at, World.cell?_alloc_at _ _ _ _ rfl, Nat.zero_add, ← Array.getElem?_toList]
    exact hu
  · intro u hu
    simp only [ec, List.mem_cons, List.not_mem_nil, or_false] at hu
    rcases hu with rfl | rfl | rfl | rfl | rfl <;> first | rfl | exact h1
  · intro gq cap w' h1 h2 h3 h4
    refine h gq cap w' ?_ h2 h3 h4
    unfold OwnF
    rw [flat_snoc, List.length_append]
    exact h1
end Go.Proofs.Ytekgmgiokmbliaa
