/-
  What was read stays, whatever is made behind it.
-/
import Derived.Test.YtekgmgiokmbliaaDMsg
set_option linter.unusedVariables false
namespace Go.Proofs.Ytekgmgiokmbliaa
open Go.RowKit

theorem RdN.keep {w w' : World} {g : Nat} {A : Option Addr} {l : List UInt8} (h : RdN w g A l) (hb : Below w.heap.size w w') : RdN w' g A l := ⟨(h.rd.below hb).more hb.size, h.ne⟩
theorem Got.keep {w w' : World} {base g : Nat} {v : Value} {es : List EV} (h : Got w base g v es) (hb : Below w.heap.size w w') : Got w' base g v es :=
  ⟨row_block h.own (fun k hk => hb.block k (World.ownsRow.lt h.own k hk).2), fun e he => ⟨(h.rd e he).1.keep hb, (h.rd e he).2⟩, h.ne⟩
theorem MGot.keep {w w' : World} {g lo : Nat} {m : Msg} {a : At} (h : MGot w g lo m a) (hb : Below w.heap.size w w') : MGot w' g lo m a := by
  obtain ⟨es, h1, h2, h3⟩ := h.ge
  exact ⟨⟨es, h1, h2.keep hb, h3⟩, row_block h.gm (fun k hk => hb.block k (h.gm.lt k hk).2), ⟨h.gd.1.keep hb, h.gd.2⟩⟩
theorem MGot.off {w w' : World} {g lo p : Nat} {m : Msg} {a : At} (h : MGot w g lo m a) (ho : Only p w w') (hp : p < lo) : MGot w' g lo m a := by
  obtain ⟨es, h1, h2, h3⟩ := h.ge
  exact ⟨⟨es, h1, h2.off ho hp, h3⟩, h.gm.off ho hp, ⟨h.gd.1.off h.gd.2 ho hp, h.gd.2⟩⟩

/-- the cells of a block, told as a list -/
def Box (w : World) (k : Nat) (vs : List Value) : Prop := ∀ j x, vs[j]? = some x → Cell w k j x
theorem Box.only {w w' : World} {g k : Nat} {vs : List Value} (h : Box w k vs) (ho : Only g w w') (hk : k ≠ g) : Box w' k vs := fun j x hj => (h j x hj).only ho hk
theorem Box.keep {w w' : World} {k : Nat} {vs : List Value} (h : Box w k vs) (hb : Below w.heap.size w w') : Box w' k vs := fun j x hj => (h j x hj).keep hb
theorem Box.grown {w w' : World} {k : Nat} {vs : List Value} {row : Option Nat} (h : Box w k vs) (hg : w.grownBy w' row) (hk : some k ≠ row) : Box w' k vs := fun j x hj => (h j x hj).grown hg hk
theorem Box.set {w : World} {k : Nat} {vs : List Value} (h : Box w k vs) (i : Nat) (u : Value) : Box (w.setCell ⟨k, i, none⟩ u) k (vs.set i u) := fun j x hj => by
  by_cases hij : i = j
  · subst hij
    rw [List.getElem?_set] at hj
    simp only [if_true] at hj
    split at hj
    · rename_i hl
      injection hj with hj
      subst hj
      exact (h i _ (List.getElem?_eq_getElem hl)).set u
    · cases hj
  · rw [List.getElem?_set_ne hij] at hj
    exact (h j x hj).far (fun e => hij (by injection e)) u
theorem Box.new (w : World) (C : Array Value) (t : TypeId) (vs : List Value) (h : C.toList = vs) : Box (w.alloc (.cells C t)) w.heap.size vs := fun j x hj => Cell.new w C t j x (by rw [← Array.getElem?_toList, h]; exact hj)
end Go.Proofs.Ytekgmgiokmbliaa
