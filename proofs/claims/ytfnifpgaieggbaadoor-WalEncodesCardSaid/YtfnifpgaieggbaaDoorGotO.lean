/-
  Operations that were read: a row of the call's own, their texts apart from it.
-/
import Derived.Test.YtfnifpgaieggbaaDoorTakeOp
set_option linter.unusedVariables false
namespace Go.Proofs.YtfnifpgaieggbaaDoor
open Go.RowKit

theorem row_block {w w' : World} {base : Nat} {e : TypeId} {size : Nat} {v : Value} {n : Nat} {xs : List Value} (h : w.ownsRow base e size v n xs) (hb : ∀ k, v.ownBlock = some k → w'.heap[k]? = w.heap[k]?) : w'.ownsRow base e size v n xs := by
  refine ⟨h.1, ?_⟩
  rcases h.2 with hn | ⟨g, cap, cur, rfl, hg, hh, r⟩
  · exact .inl hn
  · exact .inr ⟨g, cap, cur, rfl, hg, (hb g rfl).trans hh, r⟩
theorem Cell.grown {w w' : World} {k i : Nat} {x : Value} {row : Option Nat} (h : Cell w k i x) (hg : w.grownBy w' row) (hk : some k ≠ row) : Cell w' k i x :=
  ⟨(hg.cell_far _ h.lt hk).trans h.1, (hg.frozen_far _ h.lt hk).trans h.2⟩
theorem grown_alloc {w w' : World} {row : Option Nat} {o : Obj} (h : (w.alloc o).grownBy w' row) : w.grownBy w' row :=
  ⟨h.os, h.tape, h.output, Nat.le_trans (by simp) h.size, fun k hk hne => (h.block k (by simp; omega) hne).trans (((Below.refl w.heap.size w).alloc (Nat.le_refl _) o).block k hk)⟩

theorem infoO : (Tryd.prog.info? 43).map (fun i => (i.zero, i.size, i.bytes)) = some (some (.agg #[.bool false, .slice none 0 0, .slice none 0 0]), 3, 56) := by kernel_rfl
/-- an operation and where its texts lie -/
structure OV where
  d : OpD
  K : Option Addr
  kc : Nat
  V : Option Addr
  vc : Nat
def oc (o : OV) : List Value := [.bool o.d.del, .slice o.K o.d.key.length o.kc, .slice o.V o.d.val.length o.vc]
theorem oc_at : ∀ (l : List OV) (k j : Nat) (h : k < l.length), j < 3 → (l.flatMap oc)[k * 3 + j]? = (oc l[k])[j]?
  | [], _, _, h, _ => by simp at h
  | e :: l, 0, j, _, hj => by
    rw [List.flatMap_cons, Nat.zero_mul, Nat.zero_add, List.getElem?_append_left (by simp [oc]; exact hj)]
    rfl
  | e :: l, k + 1, j, h, hj => by
    rw [List.flatMap_cons, List.getElem?_append_right (by simp [oc]; omega)]
    have : (k + 1) * 3 + j - (oc e).length = k * 3 + j := by simp [oc]; omega
    rw [this, oc_at l k j (by simpa using h) hj]
    rfl
/-- bytes apart from a row, not below base -/
structure Apart (w : World) (base : Nat) (v : Value) (A : Option Addr) (l : List UInt8) : Prop where
  rd : Rd w w.heap.size A l
  ne : l ≠ [] → ∀ q o, A = some ⟨q, o, none⟩ → v.ownBlock ≠ some q ∧ base ≤ q
theorem Apart.keep {w w' : World} {base : Nat} {v : Value} {A : Option Addr} {l : List UInt8} (h : Apart w base v A l) (hb : Below w.heap.size w w') : Apart w' base v A l := ⟨(h.rd.below hb).more hb.size, h.ne⟩
theorem Apart.off {w w' : World} {base p : Nat} {v : Value} {A : Option Addr} {l : List UInt8} (h : Apart w base v A l) (ho : Only p w w') (hp : p < base) : Apart w' base v A l := by
  refine ⟨?_, h.ne⟩
  by_cases h0 : l = []
  · exact .inl h0
  · rcases h.rd with h1 | ⟨q, o, e, hq, hc⟩
    · exact .inl h1
    · exact .inr ⟨q, o, e, Nat.lt_of_lt_of_le hq ho.size, fun i hi => cell_only (hc i hi) ho (show q ≠ p by have := (h.ne h0 q o e).2; omega)⟩
theorem Apart.grown {w w' : World} {base : Nat} {v v' : Value} {A : Option Addr} {l : List UInt8} (h : Apart w base v A l) (hg : w.grownBy w' v.ownBlock) (hv : ∀ r, v'.ownBlock = some r → v.ownBlock = some r ∨ w.heap.size ≤ r) : Apart w' base v' A l := by
  by_cases h0 : l = []
  · exact ⟨.inl h0, fun h1 => absurd h0 h1⟩
  · refine ⟨(rd_grown h.rd (Nat.le_refl _) hg (fun q o e => (h.ne h0 q o e).1)).more hg.size, fun _ q o e => ⟨fun hq => ?_, (h.ne h0 q o e).2⟩⟩
    rcases hv q hq with h1 | h1
    · exact (h.ne h0 q o e).1 h1
    · rcases h.rd with h2 | ⟨q', o', e', hq', _⟩
      · exact h0 h2
      · rw [e] at e'; injection e' with e'; injection e' with e'; omega
structure GotO (w : World) (base : Nat) (v : Value) (l : List OV) : Prop where
  own : w.ownsRow base 43 3 v l.length (l.flatMap oc)
  rd : ∀ o ∈ l, Apart w base v o.K o.d.key ∧ Apart w base v o.V o.d.val
theorem GotO.keep {w w' : World} {base : Nat} {v : Value} {l : List OV} (h : GotO w base v l) (hb : Below w.heap.size w w') : GotO w' base v l :=
  ⟨row_block h.own (fun k hk => hb.block k (World.ownsRow.lt h.own k hk).2), fun o ho => ⟨(h.rd o ho).1.keep hb, (h.rd o ho).2.keep hb⟩⟩
theorem GotO.off {w w' : World} {base p : Nat} {v : Value} {l : List OV} (h : GotO w base v l) (ho : Only p w w') (hp : p < base) : GotO w' base v l :=
  ⟨row_block h.own (fun k hk => ho.block k (World.ownsRow.lt h.own k hk).2 (fun e => by have := (World.ownsRow.lt h.own k hk).1; omega)), fun o hm => ⟨(h.rd o hm).1.off ho hp, (h.rd o hm).2.off ho hp⟩⟩
theorem GotO.ops {w : World} {base : Nat} {A : Option Addr} {n c : Nat} {l : List OV} (h : GotO w base (.slice A n c) l) : OpsRd w w.heap.size A (l.map (·.d)) := by
  by_cases h0 : l = []
  · exact .inl (by rw [h0]; rfl)
  · right
    have hl : 0 < l.length := List.length_pos_iff.2 h0
    have hA : ∃ q, (Value.slice A n c).ownBlock = some q ∧ A = some ⟨q, 0, none⟩ := by
      rcases h.own.2 with ⟨_, hn⟩ | ⟨g, cap, cur, hv, _⟩
      · omega
      · injection hv with h1 h2 h3
        subst h1
        exact ⟨g, rfl, rfl⟩
    obtain ⟨q, hq, hA⟩ := hA
    refine ⟨q, 0, hA, (World.ownsRow.lt h.own q hq).2, fun k hk => ?_⟩
    have hk' : k < l.length := by simpa using hk
    have C := World.ownsRow.cells h.own hq
    have F : ∀ j u, j < 3 → (oc l[k])[j]? = some u → w.cell? ⟨q, 0 + k * 3 + j, none⟩ = some u := fun j u hj hu => by
      have := C (k * 3 + j) u ((oc_at l k j hk' hj).trans hu)
      rw [add_at, ← Nat.add_assoc] at this
      exact this
    rw [List.getElem_map]
    exact ⟨l[k].K, l[k].kc, l[k].V, l[k].vc, F 0 _ (by omega) rfl, F 1 _ (by omega) rfl, F 2 _ (by omega) rfl, (h.rd _ (List.getElem_mem hk')).1.rd, (h.rd _ (List.getElem_mem hk')).2.rd⟩

/-- append(v, o), o in a block of its own -/
theorem app_op {ops : Array Oper} {rest : List Oper} {o : Oper} {a : Act} {Q : Exit → Act → World → Prop} (w : World) (base : Nat) (v : Value) (n : Nat) (l : List OV) (y : OV) (hgd : o.guard = none) (s x : Operand)
    (ho : o.op = .call { callee := .builtin .append, args := #[s, x], argTypes := #[23, 23] })
    (hs : a.eval s = v) (H : Nat) (hH : w.heap.size = H) (hx : a.eval x = .slice (some ⟨H, 0, none⟩) 1 1) (hg : GotO w base v l) (hk : Apart w base v y.K y.d.key) (hv : Apart w base v y.V y.d.val) (hn : n = l.length) (hlen : n < 2513169434844) (hbase : base ≤ w.heap.size)
    (h : ∀ gq cap w', GotO w' base (.slice (some ⟨gq, 0, none⟩) (n + 1) cap) (l ++ [y]) → w.grownBy w' v.ownBlock → wpList Tryd.prog ops Q rest (a.put o.dst (.slice (some ⟨gq, 0, none⟩) (n + 1) cap)) w') :
    wpList Tryd.prog ops Q (o :: rest) a (w.alloc (.cells #[.bool y.d.del, .slice y.K y.d.key.length y.kc, .slice y.V y.d.val.length y.vc] 43)) := by
  subst hn
  subst hH
  obtain ⟨i0, hi0, hz0, hz1, hz2⟩ := info_parts infoO
  have hown' : (w.alloc (.cells #[.bool y.d.del, .slice y.K y.d.key.length y.kc, .slice y.V y.d.val.length y.vc] 43)).ownsRow base 43 3 v l.length (l.flatMap oc) := World.ownsRow.alloc hg.own _
  refine wpList_append_lies (w.alloc (.cells #[.bool y.d.del, .slice y.K y.d.key.length y.kc, .slice y.V y.d.val.length y.vc] 43)) hgd s x 23 ho base 43 i0 _ 3 56 Tryd.underlying23 hi0 hz0 hz1 hz2 rfl (by decide) v l.length (l.flatMap oc) hs hown' ⟨w.heap.size, 0, none⟩ 1 1 (oc y) hx rfl ?_ ?_ (by decide) (by unfold maxLen; omega) (by omega) (by simp; omega) (w.heap.size + 1) (by simp) ?_
  · intro j u hu
    rw [add_at, World.cell?_alloc_at _ _ _ _ rfl, Nat.zero_add, ← Array.getElem?_toList]
    exact hu
  · intro u hu
    simp only [oc, List.mem_cons, List.not_mem_nil, or_false] at hu
    rcases hu with rfl | rfl | rfl <;> rfl
  · intro gq cap w' h1 h2 h3 _
    have hgr := grown_alloc h2
    have hlie : ∀ r, (Value.slice (some ⟨gq, 0, none⟩) (l.length + 1) cap).ownBlock = some r → v.ownBlock = some r ∨ w.heap.size ≤ r := fun r hr => by
      injection hr with hr
      have hr : gq = r := hr
      rcases h3 with h3 | h3
      · exact .inl (hr ▸ h3)
      · exact .inr (by omega)
    refine h gq cap w' ⟨?_, fun f hf => ?_⟩ hgr
    · rw [List.flatMap_append, List.length_append]
      simpa using h1
    · rcases List.mem_append.1 hf with hf | hf
      · exact ⟨(hg.rd f hf).1.grown hgr hlie, (hg.rd f hf).2.grown hgr hlie⟩
      · rw [List.mem_singleton.1 hf]
        exact ⟨hk.grown hgr hlie, hv.grown hgr hlie⟩
end Go.Proofs.YtfnifpgaieggbaaDoor
