/-
  The law of WalTorn: the batches one behind the other, and where each ends.
-/
import Derived.Test.YtfnifpgaieggbaaDoorTornP
import Derived.Test.YtfnifpgaieggbaaDoorShownW
set_option linter.unusedVariables false
namespace Go.Proofs.YtfnifpgaieggbaaDoor
open Go.RowKit

def dat (l : List OpD) : Nat := (l.map fun o => o.key.length + o.val.length).sum
theorem num_le10 (n : Nat) : (num n).length ≤ 10 := numF_len 9 n
theorem opsB_le : ∀ l : List OpD, (opsB l).length ≤ 21 * l.length + dat l
  | [] => by simp [opsB, dat]
  | o :: l => by
    have h := opsB_le l
    have h1 := num_le10 o.key.length
    have h2 := num_le10 o.val.length
    have h3 : (opB o).length ≤ 21 + o.key.length + o.val.length := by
      unfold opB textB
      split <;> simp <;> omega
    have e : opsB (o :: l) = opB o ++ opsB l := by unfold opsB; rw [List.flatMap_cons]
    rw [e, List.length_append]
    simp only [dat, List.map_cons, List.sum_cons, List.length_cons] at h ⊢
    omega
theorem batB_le {q : Nat} {l : List OpD} (h : EncP q l) : (batB q l).length ≤ 6000 + dat l := by
  have h1 := num_le10 (bodyB q l).length
  have h2 := num_le10 q
  have h3 := num_le10 l.length
  have h4 := opsB_le l
  have h5 := h.1.1.2
  have hl : (batB q l).length = 1 + (num (bodyB q l).length).length + 4 + (bodyB q l).length := by
    unfold batB frame head
    simp [four_len]
    omega
  have hb : (bodyB q l).length = (num q).length + (num l.length).length + (opsB l).length := by unfold bodyB; simp; omega
  omega
def endsOf (L : List (Nat × List OpD)) : List Int := (List.range L.length).map fun k => ((catB (L.take (k + 1))).length : Int)
theorem endsOf_len (L : List (Nat × List OpD)) : (endsOf L).length = L.length := by simp [endsOf]
theorem endsOf_at {L : List (Nat × List OpD)} {k : Nat} (h : k < (endsOf L).length) : (endsOf L)[k] = ((catB (L.take (k + 1))).length : Int) := by simp [endsOf]
theorem endsOf_snoc (L : List (Nat × List OpD)) (p : Nat × List OpD) : endsOf (L ++ [p]) = endsOf L ++ [((catB (L ++ [p])).length : Int)] := by
  unfold endsOf
  rw [List.length_append, List.length_singleton, List.range_succ, List.map_append, List.map_singleton]
  congr 1
  · apply List.map_congr_left
    intro k hk
    have hk := List.mem_range.1 hk
    rw [List.take_append_of_le_length (by omega)]
  · rw [List.take_of_length_le (by simp)]
theorem lens_snoc (L : List (Nat × List OpD)) (p : Nat × List OpD) : lens (L ++ [p]) = lens L + p.2.length := by simp [lens]
theorem lens_le : ∀ {L : List (Nat × List OpD)} {s : Nat}, Seqd s L → lens L ≤ 256 * L.length
  | [], _, _ => by simp [lens]
  | p :: L, _, h => by
    have h1 := lens_le h.2.2
    have h2 := h.2.1.1.1.2
    simp only [lens, List.map_cons, List.sum_cons, List.length_cons] at h1 ⊢
    omega
theorem infoN : (Tryd.prog.info? 3).map (fun i => (i.zero, i.size, i.bytes)) = some (some (.int .i64 0), 1, 8) := by kernel_rfl
def iv (x : Int) : Value := .int .i64 x
def OwnI (w : World) (base : Nat) (v : Value) (G : List Int) : Prop := w.ownsRow base 3 1 v G.length (G.map iv)
theorem OwnI.keep {w w' : World} {base : Nat} {v : Value} {G : List Int} (h : OwnI w base v G) (hb : Below w.heap.size w w') : OwnI w' base v G := row_block h (fun k hk => hb.block k (World.ownsRow.lt h k hk).2)
theorem OwnI.grown {w w' : World} {base : Nat} {v : Value} {G : List Int} {row : Option Nat} (h : OwnI w base v G) (hg : w.grownBy w' row) (hne : ∀ q, v.ownBlock = some q → row ≠ some q) : OwnI w' base v G :=
  row_block h (fun k hk => hg.block k (World.ownsRow.lt h k hk).2 (fun e => hne k hk e.symm))
theorem Own.grown {w w' : World} {base : Nat} {v : Value} {l : List UInt8} {row : Option Nat} (h : Own w base v l) (hg : w.grownBy w' row) (hne : ∀ q, v.ownBlock = some q → row ≠ some q) : Own w' base v l :=
  row_block h (fun k hk => hg.block k (World.ownsRow.lt h k hk).2 (fun e => hne k hk e.symm))
theorem growns_below {B : Nat} {w w' : World} {row : Option Nat} (h : w.grownBy w' row) (ho : ∀ q, row = some q → B ≤ q) (hw : B ≤ w.heap.size) : Below B w w' :=
  ⟨h.os, h.tape, h.output, h.size, fun k hk => h.block k (by omega) (fun e => by have := ho k e.symm; omega)⟩
theorem OwnI.at {w : World} {base : Nat} {A : Option Addr} {n c : Nat} {G : List Int} (h : OwnI w base (.slice A n c) G) {k : Nat} (hk : k < G.length) : ∃ q, A = some ⟨q, 0, none⟩ ∧ w.cell? ⟨q, k, none⟩ = some (.int .i64 G[k]) := by
  rcases h.2 with ⟨_, hn⟩ | ⟨q, cap, cur, hv, _⟩
  · omega
  · injection hv with h1 h2 h3
    subst h1
    have := World.ownsRow.cells h (g := q) rfl k (iv G[k]) (by simp [hk])
    rw [add_at, Nat.zero_add] at this
    exact ⟨q, rfl, this⟩
theorem app_int {ops : Array Oper} {rest : List Oper} {o : Oper} {a : Act} {Q : Exit → Act → World → Prop} (w : World) (base : Nat) (v : Value) (n : Nat) (G : List Int) (y : Int) (hgd : o.guard = none) (s x : Operand)
    (ho : o.op = .call { callee := .builtin .append, args := #[s, x], argTypes := #[40, 40] })
    (hs : a.eval s = v) (H : Nat) (hH : w.heap.size = H) (hx : a.eval x = .slice (some ⟨H, 0, none⟩) 1 1) (hown : OwnI w base v G) (hn : n = G.length) (hlen : n < 1000) (hbase : base ≤ w.heap.size)
    (h : ∀ gq cap w', OwnI w' base (.slice (some ⟨gq, 0, none⟩) (n + 1) cap) (G ++ [y]) → (w.alloc (.cells #[.int .i64 y] 3)).grownBy w' v.ownBlock → (v.ownBlock = some gq ∨ w.heap.size < gq) → wpList Tryd.prog ops Q rest (a.put o.dst (.slice (some ⟨gq, 0, none⟩) (n + 1) cap)) w') :
    wpList Tryd.prog ops Q (o :: rest) a (w.alloc (.cells #[.int .i64 y] 3)) := by
  subst hn
  subst hH
  obtain ⟨i0, hi0, hz0, hz1, hz2⟩ := info_parts infoN
  have hown' : (w.alloc (.cells #[.int .i64 y] 3)).ownsRow base 3 1 v G.length (G.map iv) := World.ownsRow.alloc hown _
  refine wpList_append_lies (w.alloc (.cells #[.int .i64 y] 3)) hgd s x 40 ho base 3 i0 _ 1 8 Tryd.underlying40 hi0 hz0 hz1 hz2 rfl (by decide) v G.length (G.map iv) hs hown' ⟨w.heap.size, 0, none⟩ 1 1 [iv y] hx rfl ?_ ?_ (by decide) (by unfold maxLen; omega) (by omega) (by simp; omega) (w.heap.size + 1) (by simp) ?_
  · intro j u hu
    rw [add_at, World.cell?_alloc_at _ _ _ _ rfl, Nat.zero_add, ← Array.getElem?_toList]
    exact hu
  · intro u hu
    rw [List.mem_singleton.1 hu]; rfl
  · intro gq cap w' h1 h2 h3 h4
    refine h gq cap w' ?_ h2 (by rcases h3 with h3 | h3 <;> first | exact .inl h3 | (right; omega))
    unfold OwnI
    rw [List.map_append, List.length_append]
    exact h1
/-- batches, as they come in -/
def BatsRd (w : World) (B : Nat) (A : Option Addr) (Ls : List (List OpD)) : Prop := Ls = [] ∨ ∃ g o, A = some ⟨g, o, none⟩ ∧ g < B ∧ ∀ i (h : i < Ls.length), ∃ K kc, w.cell? ⟨g, o + i, none⟩ = some (.slice K Ls[i].length kc) ∧ OpsRd w B K Ls[i]
/-- what the loop over the batches keeps -/
structure TI (w : World) (base : Nat) (va ve : Value) (Ls : List (List OpD)) (L : List (Nat × List OpD)) (i : Nat) : Prop where
  seqd : Seqd 1 L
  own : Own w base va (catB L)
  ends : OwnI w base ve (endsOf L)
  apart : ∀ q, ve.ownBlock = some q → va.ownBlock ≠ some q
  len : (catB L).length ≤ 6000 * i + ((Ls.take i).map dat).sum
  num : L.length ≤ i
theorem TI.keep {w w' : World} {base : Nat} {va ve : Value} {Ls : List (List OpD)} {L : List (Nat × List OpD)} {i : Nat} (h : TI w base va ve Ls L i) (hb : Below w.heap.size w w') : TI w' base va ve Ls L i :=
  ⟨h.seqd, Own.belowFar h.own hb, h.ends.keep hb, h.apart, h.len, h.num⟩
theorem sum_take {Ls : List (List OpD)} {i : Nat} (hi : i < Ls.length) : ((Ls.take (i + 1)).map dat).sum = ((Ls.take i).map dat).sum + dat Ls[i] := by
  rw [List.take_succ_eq_append_getElem hi, List.map_append, List.sum_append]
  simp
theorem sum_take_le : ∀ (Ls : List (List OpD)) (i : Nat), ((Ls.take i).map dat).sum ≤ (Ls.map dat).sum
  | [], _ => by simp
  | _ :: _, 0 => by simp
  | l :: Ls, i + 1 => by have := sum_take_le Ls i; rw [List.take_succ_cons, List.map_cons, List.map_cons, List.sum_cons, List.sum_cons]; omega
theorem TI.skip {w : World} {base : Nat} {va ve : Value} {Ls : List (List OpD)} {L : List (Nat × List OpD)} {i : Nat} (h : TI w base va ve Ls L i) (hi : i < Ls.length) : TI w base va ve Ls L (i + 1) :=
  ⟨h.seqd, h.own, h.ends, h.apart, by have := h.len; rw [sum_take hi]; omega, by have := h.num; omega⟩
end Go.Proofs.YtfnifpgaieggbaaDoor
