/-
  Cells that stay, and calls that may turn one block alone; laid once for whatever package.
-/
import Derived.Test.YtninjoepdchmiaaRows
import Derived.WalkKit
import Derived.Deep.Draws
import Derived.Lib.Hide
import Derived.Deep.QuietTactic
import Derived.OwnWalk
import Derived.Deep.RegionHeld3
import Derived.Deep.RegionWith
import Derived.Laws.ResultCell
namespace Go.Proofs.Ytninjoepdchmiaa
open Go.RowKit

theorem results_cell1 {fn : Func} {p : Tmp} {ty : TypeId} (h : fn.results = #[.cell p ty]) (tmps : Array Value) (P : Program) (w : World) :
    (results fn tmps).run P w = ((asAddr (tmps.getD p undef)).run P w).andThen fun a w₁ => (loadVar ty a).run P w₁ := by
  simp only [results, h]
  simp [Sem.run_bind, Result.andThen]

/-- a cell that may be written -/
def Cell (w : World) (k i : Nat) (x : Value) : Prop := w.cell? ⟨k, i, none⟩ = some x ∧ w.frozen? ⟨k, i, none⟩ = false
theorem Cell.lt {w : World} {k i : Nat} {x : Value} (h : Cell w k i x) : k < w.heap.size := World.block_lt_of_cell? w _ h.1
theorem Cell.keep {w w' : World} {k i : Nat} {x : Value} (h : Cell w k i x) (hb : Below w.heap.size w w') : Cell w' k i x := ⟨(hb.cell h.lt).trans h.1, (hb.frozen h.lt).trans h.2⟩
theorem Cell.alloc {w : World} {k i : Nat} {x : Value} (h : Cell w k i x) (o : Obj) : Cell (w.alloc o) k i x := h.keep ((Below.refl _ _).alloc (Nat.le_refl _) o)
theorem Cell.drew {w : World} {k i : Nat} {x : Value} (h : Cell w k i x) : Cell w.drew k i x := h
theorem Cell.of_drew {w : World} {k i : Nat} {x : Value} (h : Cell w.drew k i x) : Cell w k i x := h
theorem Cell.far {w : World} {k i : Nat} {x : Value} (h : Cell w k i x) {p : Addr} (hp : p ≠ ⟨k, i, none⟩) (u : Value) : Cell (w.setCell p u) k i x := ⟨(World.cell?_setCell_other _ _ _ _ hp).trans h.1, by rw [World.frozen?_setCell]; exact h.2⟩
theorem Cell.set {w : World} {k i : Nat} {x : Value} (h : Cell w k i x) (u : Value) : Cell (w.setCell ⟨k, i, none⟩ u) k i u := ⟨World.cell?_setCell_same _ _ _ h.1, by rw [World.frozen?_setCell]; exact h.2⟩
theorem Cell.new (w : World) (C : Array Value) (t : TypeId) (i : Nat) (x : Value) (h : C[i]? = some x) : Cell (w.alloc (.cells C t)) w.heap.size i x :=
  ⟨by rw [World.cell?_alloc_at _ _ _ _ rfl]; exact h, by rw [World.frozen?_alloc_at _ _ _ _ rfl]⟩

/-- what a call may turn of what was there: block g alone -/
structure Only (g : Nat) (w w' : World) : Prop where
  os : w'.os = w.os
  tape : w'.tape = w.tape
  output : w'.output = w.output
  size : w.heap.size ≤ w'.heap.size
  block : ∀ k, k < w.heap.size → k ≠ g → w'.heap[k]? = w.heap[k]?
theorem Only.of_below {g : Nat} {w w' : World} (h : Below w.heap.size w w') : Only g w w' := ⟨h.os, h.tape, h.output, h.size, fun k hk _ => h.block k hk⟩
theorem Only.refl (g : Nat) (w : World) : Only g w w := ⟨rfl, rfl, rfl, Nat.le_refl _, fun _ _ _ => rfl⟩
theorem Only.trans {g : Nat} {a b c : World} (h : Only g a b) (k : Only g b c) : Only g a c :=
  ⟨k.os.trans h.os, k.tape.trans h.tape, k.output.trans h.output, Nat.le_trans h.size k.size, fun i hi hn => (k.block i (Nat.lt_of_lt_of_le hi h.size) hn).trans (h.block i hi hn)⟩
theorem Only.then {g : Nat} {a b c : World} (h : Only g a b) (k : Below a.heap.size b c) : Only g a c :=
  ⟨k.os.trans h.os, k.tape.trans h.tape, k.output.trans h.output, Nat.le_trans h.size k.size, fun i hi hn => (k.block i hi).trans (h.block i hi hn)⟩
theorem Only.setCell {g : Nat} {a w : World} (h : Only g a w) {p : Addr} (hp : p.block = g ∨ a.heap.size ≤ p.block) (u : Value) : Only g a (w.setCell p u) :=
  ⟨h.os, h.tape, h.output, by have := h.size; simpa [World.setCell] using this, fun k hk hn => (Below.heap_setCell _ _ _ _ (by rcases hp with e | e <;> omega)).trans (h.block k hk hn)⟩
theorem Only.below {g B : Nat} {w w' : World} (h : Only g w w') (hg : B ≤ g) (hB : B ≤ w.heap.size) : Below B w w' :=
  ⟨h.os, h.tape, h.output, h.size, fun k hk => h.block k (by omega) (by omega)⟩
theorem Cell.only {w w' : World} {g k i : Nat} {x : Value} (h : Cell w k i x) (hb : Only g w w') (hk : k ≠ g) : Cell w' k i x :=
  ⟨(World.cell?_of_block (w := w) (hb.block k h.lt hk)).trans h.1, (World.frozen?_of_block (w := w) (hb.block k h.lt hk)).trans h.2⟩
theorem cell_only {w w' : World} {g : Nat} {p : Addr} {x : Value} (h : w.cell? p = some x) (hb : Only g w w') (hk : p.block ≠ g) : w'.cell? p = some x :=
  (World.cell?_of_block (w := w) (hb.block p.block (World.block_lt_of_cell? w _ h) hk)).trans h
theorem below_of_drew {w v : World} {B : Nat} (h : Below B w.drew v) : Below B w v := ⟨h.os, h.tape, h.output, h.size, h.block⟩
theorem Only.set1 {g : Nat} {a w : World} (h : Only g a w) (i : Nat) (u : Value) : Only g a (w.setCell ⟨g, i, none⟩ u) := h.setCell (.inl rfl) u
theorem Only.set2 {g : Nat} {a w : World} (h : Only g a w) (i j : Nat) (u v : Value) : Only g a ((w.setCell ⟨g, i, none⟩ u).setCell ⟨g, j, none⟩ v) := (h.set1 i u).set1 j v
theorem below_of_drewN {w v : World} {B n : Nat} (h : Below B (w.drewN n) v) : Below B w v := ⟨h.os, h.tape, h.output, h.size, h.block⟩
theorem below_toN {w v : World} {B : Nat} (h : Below B v w) (n : Nat) : Below B v (w.drewN n) := ⟨h.os, h.tape, h.output, h.size, h.block⟩

/-- in a drawn region: an operation that isn't wanted, taken first -/
theorem skip_in {P : Program} {ops : Array Oper} {Q : Exit → Act → World → Prop} {md : Region.Mode} {S : World → Prop} {i d : Nat} {oi : Oper} {fuel : Nat} {listed : Array Bool} {a : Act} {w : World} (hi : ops[i]? = some oi)
    (hs : Region.noSelect ops = true) (hf : Region.free md ops listed i = true) (hr : (Region.ready md ops listed).contains i = true)
    (hQ : ∀ c a w, Q (.panic c) (a.put oi.dst undef) w → Q (.panic c) a w) (hd : oi.dst = some d) (hw : Region.wanted oi (yielded ops a.tmps) = false) (hS : S w)
    (h : wpAnyH P md ops Q S fuel (listed.setIfInBounds i true) { a with tmps := a.tmps.setIfInBounds d undef } w) : wpAnyH P md ops Q S (fuel + 1) listed a w :=
  wpAnyH_take hi hs hf hr hQ (.inr ⟨hw, rfl⟩) hS (by rw [hd]; exact h)
/-- in a drawn region: an operation that yields v in whatever world, taken first -/
theorem take_in {P : Program} {ops : Array Oper} {Q : Exit → Act → World → Prop} {md : Region.Mode} {S : World → Prop} {i d : Nat} {oi : Oper} (v : Value) {fuel : Nat} {listed : Array Bool} {a : Act} {w : World} (hi : ops[i]? = some oi)
    (hs : Region.noSelect ops = true) (hf : Region.free md ops listed i = true) (hr : (Region.ready md ops listed).contains i = true)
    (hQ : ∀ c a w, Q (.panic c) (a.put oi.dst v) w → Q (.panic c) a w) (hd : oi.dst = some d) (hw : Region.wanted oi (yielded ops a.tmps) = true) (hy : ∀ w, S w → (execOp a.eval oi).run P w = .ok (.value v) w) (hS : S w)
    (h : wpAnyH P md ops Q S fuel (listed.setIfInBounds i true) { a with tmps := a.tmps.setIfInBounds d v } w) : wpAnyH P md ops Q S (fuel + 1) listed a w :=
  wpAnyH_take hi hs hf hr hQ (.inl ⟨hw, hy⟩) hS (by rw [hd]; exact h)
end Go.Proofs.Ytninjoepdchmiaa
