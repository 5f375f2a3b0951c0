/-
  A row of the call's own of elements of whatever type, with texts apart from it; laid once for whatever package.
-/
import Derived.Test.YtninjoepdchmiaaCut
import Derived.Test.YtninjoepdchmiaaCell
import Derived.Deep.AppendLies
set_option linter.unusedVariables false
namespace Go.Proofs.Ytninjoepdchmiaa
open Go.RowKit

theorem row_block {w w' : World} {base : Nat} {e : TypeId} {size : Nat} {v : Value} {n : Nat} {xs : List Value} (h : w.ownsRow base e size v n xs) (hb : ∀ k, v.ownBlock = some k → w'.heap[k]? = w.heap[k]?) : w'.ownsRow base e size v n xs := by
  refine ⟨h.1, ?_⟩
  rcases h.2 with hn | ⟨g, cap, cur, rfl, hg, hh, r⟩
  · exact .inl hn
  · exact .inr ⟨g, cap, cur, rfl, hg, (hb g rfl).trans hh, r⟩
theorem Cell.grown {w w' : World} {k i : Nat} {x : Value} {row : Option Nat} (h : Cell w k i x) (hg : w.grownBy w' row) (hk : some k ≠ row) : Cell w' k i x :=
  ⟨(hg.cell_far _ h.lt hk).trans h.1, (hg.frozen_far _ h.lt hk).trans h.2⟩
theorem grown_alloc {w w' : World} {row : Option Nat} {o : Obj} (h : (w.alloc o).grownBy w' row) : w.grownBy w' row :=
  ⟨h.os, h.tape, h.output, Nat.le_trans (by simp) h.size, fun k hk hne => (h.block k (by simp; omega) hne).trans (((Below.refl w.heap.size w).alloc (Nat.le_refl _) o).block k hk)⟩
theorem grown_belowR {B : Nat} {w w' : World} {row : Option Nat} (h : w.grownBy w' row) (hr : ∀ q, row = some q → B ≤ q) (hB : B ≤ w.heap.size) : Below B w w' :=
  ⟨h.os, h.tape, h.output, h.size, fun k hk => h.block k (by omega) (fun e => by have := hr k e.symm; omega)⟩
theorem rd_grown {w w' : World} {B : Nat} {A : Option Addr} {l : List UInt8} {row : Option Nat} (h : Rd w B A l) (hB : B ≤ w.heap.size) (g : w.grownBy w' row) (hA : ∀ q o, A = some ⟨q, o, none⟩ → row ≠ some q) : Rd w' B A l := by
  rcases h with h | ⟨q, o, e, hq, hc⟩
  · exact .inl h
  · exact .inr ⟨q, o, e, hq, fun i hi => (g.cell_far ⟨q, o + i, none⟩ (show q < _ by omega) (fun x => hA q o e x.symm)).trans (hc i hi)⟩
/-- a text that reads as l, and doesn't lie in the blocks M -/
structure TxA (w : World) (M : Nat → Prop) (A : Option Addr) (l : List UInt8) : Prop where
  rd : Rd w w.heap.size A l
  ne : l ≠ [] → ∀ q o, A = some ⟨q, o, none⟩ → ¬ M q
/-- what may be turned: the blocks M alone -/
structure Turn (M : Nat → Prop) (w w' : World) : Prop where
  os : w'.os = w.os
  tape : w'.tape = w.tape
  output : w'.output = w.output
  size : w.heap.size ≤ w'.heap.size
  block : ∀ k, k < w.heap.size → ¬ M k → w'.heap[k]? = w.heap[k]?
theorem Turn.of_below {M : Nat → Prop} {w w' : World} (h : Below w.heap.size w w') : Turn M w w' := ⟨h.os, h.tape, h.output, h.size, fun k hk _ => h.block k hk⟩
theorem Turn.refl (M : Nat → Prop) (w : World) : Turn M w w := ⟨rfl, rfl, rfl, Nat.le_refl _, fun _ _ _ => rfl⟩
theorem Turn.trans {M : Nat → Prop} {a b c : World} (h : Turn M a b) (k : Turn M b c) : Turn M a c :=
  ⟨k.os.trans h.os, k.tape.trans h.tape, k.output.trans h.output, Nat.le_trans h.size k.size, fun i hi hn => (k.block i (Nat.lt_of_lt_of_le hi h.size) hn).trans (h.block i hi hn)⟩
theorem Turn.then {M : Nat → Prop} {a b c : World} (h : Turn M a b) (k : Below a.heap.size b c) : Turn M a c :=
  ⟨k.os.trans h.os, k.tape.trans h.tape, k.output.trans h.output, Nat.le_trans h.size k.size, fun i hi hn => (k.block i hi).trans (h.block i hi hn)⟩
theorem Turn.mono {M M' : Nat → Prop} {w w' : World} (h : Turn M w w') (hm : ∀ k, k < w.heap.size → M k → M' k) : Turn M' w w' := ⟨h.os, h.tape, h.output, h.size, fun k hk hn => h.block k hk (fun hm' => hn (hm k hk hm'))⟩
theorem Turn.set {M : Nat → Prop} {a w : World} (h : Turn M a w) {p : Addr} (hp : p.block < a.heap.size → M p.block) (u : Value) : Turn M a (w.setCell p u) :=
  ⟨h.os, h.tape, h.output, by have := h.size; simpa [World.setCell] using this, fun k hk hn => (Below.heap_setCell _ _ _ _ (fun e => hn (by rw [e]; exact hp (by rw [← e]; exact hk)))).trans (h.block k hk hn)⟩
theorem Turn.below {M : Nat → Prop} {B : Nat} {w w' : World} (h : Turn M w w') (hM : ∀ k, k < w.heap.size → M k → B ≤ k) (hB : B ≤ w.heap.size) : Below B w w' :=
  ⟨h.os, h.tape, h.output, h.size, fun k hk => h.block k (by omega) (fun hm => by have := hM k (by omega) hm; omega)⟩
theorem Turn.grown {M : Nat → Prop} {w w' : World} {row : Option Nat} (h : w.grownBy w' row) (hr : ∀ q, row = some q → q < w.heap.size → M q) : Turn M w w' :=
  ⟨h.os, h.tape, h.output, h.size, fun k hk hn => h.block k hk (fun e => hn (hr k e.symm hk))⟩
theorem Turn.drew {M : Nat → Prop} {w w' : World} (h : Turn M w w') : Turn M w w'.drew := ⟨h.os, h.tape, h.output, h.size, h.block⟩
theorem Turn.drewN {M : Nat → Prop} {w w' : World} (h : Turn M w w') (n : Nat) : Turn M w (w'.drewN n) := ⟨h.os, h.tape, h.output, h.size, h.block⟩
theorem Turn.cell {M : Nat → Prop} {w w' : World} (h : Turn M w w') {p : Addr} {x : Value} (hx : w.cell? p = some x) (hn : ¬ M p.block) : w'.cell? p = some x :=
  (World.cell?_of_block (w := w) (h.block p.block (World.block_lt_of_cell? w _ hx) hn)).trans hx
theorem Turn.keep {M : Nat → Prop} {w w' : World} (h : Turn M w w') {k i : Nat} {x : Value} (hx : Cell w k i x) (hn : ¬ M k) : Cell w' k i x :=
  ⟨h.cell hx.1 hn, (World.frozen?_of_block (w := w) (h.block k hx.lt hn)).trans hx.2⟩
theorem Turn.rd {M : Nat → Prop} {w w' : World} (h : Turn M w w') {A : Option Addr} {l : List UInt8} (hr : Rd w w.heap.size A l) (hn : l ≠ [] → ∀ q o, A = some ⟨q, o, none⟩ → ¬ M q) : Rd w' w'.heap.size A l := by
  by_cases h0 : l = []
  · exact .inl h0
  · rcases hr with hr | ⟨q, o, e, hq, hc⟩
    · exact absurd hr h0
    · exact .inr ⟨q, o, e, Nat.lt_of_lt_of_le hq h.size, fun i hi => h.cell (hc i hi) (hn h0 q o e)⟩
theorem Turn.tx {M M' : Nat → Prop} {w w' : World} (h : Turn M w w') {A : Option Addr} {l : List UInt8} (hr : TxA w M' A l) (hM : ∀ k, k < w.heap.size → M k → M' k) : TxA w' M' A l :=
  ⟨(h.mono hM).rd hr.rd hr.ne, hr.ne⟩
theorem TxA.mono {w : World} {M M' : Nat → Prop} {A : Option Addr} {l : List UInt8} (h : TxA w M A l) (hM : ∀ k, k < w.heap.size → M' k → M k) : TxA w M' A l :=
  ⟨h.rd, fun h0 q o e hm => by
    rcases h.rd with h1 | ⟨q', o', e', hq, _⟩
    · exact h0 h1
    · rw [e] at e'; injection e' with e'; injection e' with e1; subst e1
      exact h.ne h0 q o e (hM q hq hm)⟩
theorem Own.tx {w : World} {b n c : Nat} {A : Option Addr} {l : List UInt8} {M : Nat → Prop} (h : Own w b (.slice A n c) l) (hM : ∀ k, b ≤ k → ¬ M k) : TxA w M A l := by
  obtain ⟨A', c', he, hr⟩ := h.rd
  obtain ⟨e1, e2, e3⟩ := Value.slice.inj he
  subst e1 e2 e3
  refine ⟨hr, fun hl q o e => ?_⟩
  subst e
  obtain ⟨g, c2, he2, hg⟩ := h.shape (fun h0 => hl (List.eq_nil_of_length_eq_zero h0))
  obtain ⟨e1, e2, e3⟩ := Value.slice.inj he2
  injection e1 with e1
  injection e1 with e1
  subst e1
  exact hM _ hg
theorem Own.formN {w : World} {base n : Nat} {v : Value} {l : List UInt8} (h : Own w base v l) (hn : l.length = n) : ∃ A c, v = .slice A n c ∧ n ≤ c ∧ (A = none → c = 0) := by
  subst hn
  rcases h.2 with ⟨rfl, h0⟩ | ⟨g, cap, cur, he, _, _, hnc, _⟩
  · exact ⟨none, 0, by rw [h0], by omega, fun _ => rfl⟩
  · exact ⟨_, cap, he, hnc, fun e => by cases e⟩

/-- a text behind an append to a row that it is apart from -/
def ownB (v : Value) (k : Nat) : Prop := v.ownBlock = some k
theorem TxA.app {w w' : World} {v : Value} {A : Option Addr} {l : List UInt8} {gq n cap : Nat} (h : TxA w (ownB v) A l) (hg : w.grownBy w' v.ownBlock) (hv : v.ownBlock = some gq ∨ w.heap.size ≤ gq) : TxA w' (ownB (.slice (some ⟨gq, 0, none⟩) n cap)) A l := by
  refine ⟨(Turn.grown hg (fun q hq _ => hq)).rd h.rd h.ne, fun h0 q o e hm => ?_⟩
  have hm : (Value.slice (some ⟨gq, 0, none⟩) n cap).ownBlock = some q := hm
  injection hm with hm
  have hm : gq = q := hm
  rcases hv with hv | hv
  · exact h.ne h0 q o e (show v.ownBlock = some q by rw [hv, hm])
  · rcases h.rd with h1 | ⟨q', o', e', hq, _⟩
    · exact h0 h1
    · rw [e] at e'; injection e' with e'; injection e' with e1
      omega
/-- a row of the call's own: rows of s cells each -/
def GRow (e : TypeId) (s : Nat) (w : World) (base : Nat) (v : Value) (rows : List (List Value)) : Prop := w.ownsRow base e s v rows.length rows.flatten ∧ ∀ r ∈ rows, r.length = s
theorem flatten_at {s : Nat} : ∀ (rows : List (List Value)) (k j : Nat) (h : k < rows.length), (∀ r ∈ rows, r.length = s) → j < s → rows.flatten[k * s + j]? = (rows[k])[j]?
  | [], _, _, h, _, _ => by simp at h
  | r :: rows, 0, j, _, hs, hj => by
    rw [List.flatten_cons, Nat.zero_mul, Nat.zero_add, List.getElem?_append_left (by rw [hs r (by simp)]; exact hj)]
    rfl
  | r :: rows, k + 1, j, h, hs, hj => by
    have hr := hs r (by simp)
    rw [List.flatten_cons, List.getElem?_append_right (by rw [hr, Nat.succ_mul]; omega)]
    have : (k + 1) * s + j - r.length = k * s + j := by rw [hr, Nat.succ_mul]; omega
    rw [this, flatten_at rows k j (by simpa using h) (fun r hr => hs r (List.mem_cons_of_mem _ hr)) hj]
    rfl
theorem flatten_len {s : Nat} : ∀ (rows : List (List Value)), (∀ r ∈ rows, r.length = s) → rows.flatten.length = rows.length * s
  | [], _ => by simp
  | r :: rows, h => by
    rw [List.flatten_cons, List.length_append, h r (by simp), flatten_len rows (fun r hr => h r (List.mem_cons_of_mem _ hr)), List.length_cons, Nat.succ_mul]
    omega
theorem GRow.nil_ (e : TypeId) (s : Nat) (w : World) (base : Nat) : GRow e s w base (.slice none 0 0) [] := ⟨World.ownsRow_nil _ _ _ _, fun r h => nomatch h⟩
theorem GRow.turn {e : TypeId} {s base : Nat} {w w' : World} {v : Value} {rows : List (List Value)} {M : Nat → Prop} (h : GRow e s w base v rows) (ht : Turn M w w') (hM : ∀ k, v.ownBlock = some k → ¬ M k) : GRow e s w' base v rows :=
  ⟨row_block h.1 (fun k hk => ht.block k (World.ownsRow.lt h.1 k hk).2 (hM k hk)), h.2⟩
theorem GRow.keep {e : TypeId} {s base : Nat} {w w' : World} {v : Value} {rows : List (List Value)} (h : GRow e s w base v rows) (ht : Below w.heap.size w w') : GRow e s w' base v rows :=
  h.turn (M := fun _ => False) (Turn.of_below ht) (fun _ _ h => h)
theorem GRow.lt {e : TypeId} {s base : Nat} {w : World} {v : Value} {rows : List (List Value)} (h : GRow e s w base v rows) : ∀ k, v.ownBlock = some k → base ≤ k ∧ k < w.heap.size := fun k hk => World.ownsRow.lt h.1 k hk
theorem GRow.lower {e : TypeId} {s b b' : Nat} {w : World} {v : Value} {rows : List (List Value)} (h : GRow e s w b v rows) (hb : b' ≤ b) : GRow e s w b' v rows :=
  ⟨⟨h.1.1, by
    rcases h.1.2 with hn | ⟨g, cap, cur, hv, hg, r⟩
    · exact .inl hn
    · exact .inr ⟨g, cap, cur, hv, Nat.le_trans hb hg, r⟩⟩, h.2⟩
theorem GRow.form {e : TypeId} {s base : Nat} {w : World} {v : Value} {rows : List (List Value)} (h : GRow e s w base v rows) : ∃ A c, v = .slice A rows.length c ∧ rows.length ≤ c ∧ (∀ q o, A = some ⟨q, o, none⟩ → o = 0 ∧ v.ownBlock = some q) ∧ (A = none → c = 0 ∧ rows = []) := by
  rcases h.1.2 with ⟨rfl, h0⟩ | ⟨g, cap, cur, he, _, _, hnc, _⟩
  · exact ⟨none, 0, by rw [h0], by omega, (fun q o e => nomatch e), fun _ => ⟨rfl, List.eq_nil_of_length_eq_zero h0⟩⟩
  · exact ⟨_, cap, he, hnc, fun q o e => by rw [he]; injection e with e; injection e with e1 e2; exact ⟨e2.symm, by rw [e1]; rfl⟩, (fun e => nomatch e)⟩
theorem GRow.cell {e : TypeId} {s base n c : Nat} {w : World} {A : Option Addr} {rows : List (List Value)} (h : GRow e s w base (.slice A n c) rows) {k : Nat} (hk : k < rows.length) : ∃ q, A = some ⟨q, 0, none⟩ ∧ base ≤ q ∧ q < w.heap.size ∧ ∀ j, j < s → ∀ u, (rows[k])[j]? = some u → Cell w q (k * s + j) u := by
  have hA : ∃ q, (Value.slice A n c).ownBlock = some q ∧ A = some ⟨q, 0, none⟩ := by
    rcases h.1.2 with ⟨_, hn⟩ | ⟨g, cap, cur, hv, _⟩
    · omega
    · injection hv with h1 h2 h3
      subst h1
      exact ⟨g, rfl, rfl⟩
  obtain ⟨q, hq, rfl⟩ := hA
  have hlt := World.ownsRow.lt h.1 q hq
  refine ⟨q, rfl, hlt.1, hlt.2, fun j hj u hu => ?_⟩
  have C := World.ownsRow.cells h.1 hq
  have := C (k * s + j) u ((flatten_at rows k j hk h.2 hj).trans hu)
  rw [add_at, Nat.zero_add] at this
  have hn : n = rows.length := by
    rcases h.1.2 with ⟨_, hn⟩ | ⟨g, cap, cur, hv, _⟩
    · omega
    · injection hv
  subst hn
  exact ⟨this, World.ownsRow.frozenAt h.1 _⟩
/-- append(v, x), x in a block of its own -/
theorem app_grow {ops : Array Oper} {rest : List Oper} {o : Oper} {a : Act} {Q : Exit → Act → World → Prop} (w : World) (base : Nat) (v : Value) (n : Nat) (rows : List (List Value)) (row : List Value) (C : Array Value) (hC : C.toList = row) (e t : TypeId) (s bytes : Nat) (z : Value)
    (hin : (Try.prog.info? e).map (fun i => (i.zero, i.size, i.bytes)) = some (some z, s, bytes)) (hut : Try.prog.underlying t = some (.slice e)) (hzs : z.cells.size = s) (hs0 : 0 < s) (hgd : o.guard = none) (sl x : Operand)
    (ho : o.op = .call { callee := .builtin .append, args := #[sl, x], argTypes := #[t, t] })
    (hs : a.eval sl = v) (H : Nat) (hH : w.heap.size = H) (hx : a.eval x = .slice (some ⟨H, 0, none⟩) 1 1) (hg : GRow e s w base v rows) (hrow : row.length = s) (hone : ∀ u ∈ row, u.oneCell' = true) (hn : n = rows.length) (hlen : (n + 1) * bytes ≤ 140737488355328) (hl63 : n + 1 ≤ 9223372036854775807) (hbase : base ≤ w.heap.size)
    (h : ∀ gq cap w', GRow e s w' base (.slice (some ⟨gq, 0, none⟩) (n + 1) cap) (rows ++ [row]) → w.grownBy w' v.ownBlock → (v.ownBlock = some gq ∨ w.heap.size ≤ gq) → wpList Try.prog ops Q rest (a.put o.dst (.slice (some ⟨gq, 0, none⟩) (n + 1) cap)) w') :
    wpList Try.prog ops Q (o :: rest) a (w.alloc (.cells C e)) := by
  subst hn
  subst hH
  obtain ⟨i0, hi0, hz0, hz1, hz2⟩ := info_parts hin
  have hown' : (w.alloc (.cells C e)).ownsRow base e s v rows.length rows.flatten := World.ownsRow.alloc hg.1 _
  refine wpList_append_lies (w.alloc (.cells C e)) hgd sl x t ho base e i0 z s bytes hut hi0 hz0 hz1 hz2 hzs hs0 v rows.length rows.flatten hs hown' ⟨w.heap.size, 0, none⟩ 1 1 row hx (by rw [hrow]; omega) ?_ hone (by decide) (by unfold maxLen; omega) hlen (by simp; omega) (w.heap.size + 1) (by simp) ?_
  · intro j u hu
    rw [add_at, World.cell?_alloc_at _ _ _ _ rfl, Nat.zero_add, ← Array.getElem?_toList, hC]
    exact hu
  · intro gq cap w' h1 h2 h3 _
    refine h gq cap w' ⟨?_, fun r hr => ?_⟩ (grown_alloc h2) (by
      rcases h3 with h3 | h3
      · exact .inl h3
      · exact .inr (by omega))
    · rw [List.flatten_append, List.length_append]
      simpa using h1
    · rcases List.mem_append.1 hr with hr | hr
      · exact hg.2 r hr
      · rw [List.mem_singleton.1 hr]; exact hrow
/-- the same at a step of a drawn region -/
theorem step_app_grow {ops : Array Oper} {o : Oper} {a : Act} {K : Act → World → Prop} {Q : Exit → Act → World → Prop} {E : Prop} (w : World) (base : Nat) (v : Value) (n : Nat) (rows : List (List Value)) (row : List Value) (C : Array Value) (hC : C.toList = row) (e t : TypeId) (s bytes : Nat) (z : Value)
    (hin : (Try.prog.info? e).map (fun i => (i.zero, i.size, i.bytes)) = some (some z, s, bytes)) (hut : Try.prog.underlying t = some (.slice e)) (hzs : z.cells.size = s) (hs0 : 0 < s) (hgd : o.guard = none) (sl x : Operand)
    (ho : o.op = .call { callee := .builtin .append, args := #[sl, x], argTypes := #[t, t] })
    (hs : a.eval sl = v) (H : Nat) (hH : w.heap.size = H) (hx : a.eval x = .slice (some ⟨H, 0, none⟩) 1 1) (hg : GRow e s w base v rows) (hrow : row.length = s) (hone : ∀ u ∈ row, u.oneCell' = true) (hn : n = rows.length) (hlen : (n + 1) * bytes ≤ 140737488355328) (hl63 : n + 1 ≤ 9223372036854775807) (hbase : base ≤ w.heap.size)
    (h : ∀ gq cap w', GRow e s w' base (.slice (some ⟨gq, 0, none⟩) (n + 1) cap) (rows ++ [row]) → w.grownBy w' v.ownBlock → (v.ownBlock = some gq ∨ w.heap.size ≤ gq) → K (a.put o.dst (.slice (some ⟨gq, 0, none⟩) (n + 1) cap)) w') :
    if Region.wanted o (yielded ops a.tmps) = true then Oper.wp Try.prog o a (w.alloc (.cells C e)) K Q else E := by
  subst hn
  subst hH
  obtain ⟨i0, hi0, hz0, hz1, hz2⟩ := info_parts hin
  have hown' : (w.alloc (.cells C e)).ownsRow base e s v rows.length rows.flatten := World.ownsRow.alloc hg.1 _
  refine step_append_lies (w.alloc (.cells C e)) hgd sl x t ho base e i0 z s bytes hut hi0 hz0 hz1 hz2 hzs hs0 v rows.length rows.flatten hs hown' ⟨w.heap.size, 0, none⟩ 1 1 row hx (by rw [hrow]; omega) ?_ hone (by decide) (by unfold maxLen; omega) hlen (by simp; omega) (w.heap.size + 1) (by simp) ?_
  · intro j u hu
    rw [add_at, World.cell?_alloc_at _ _ _ _ rfl, Nat.zero_add, ← Array.getElem?_toList, hC]
    exact hu
  · intro gq cap w' h1 h2 h3 _
    refine h gq cap w' ⟨?_, fun r hr => ?_⟩ (grown_alloc h2) (by
      rcases h3 with h3 | h3
      · exact .inl h3
      · exact .inr (by omega))
    · rw [List.flatten_append, List.length_append]
      simpa using h1
    · rcases List.mem_append.1 hr with hr | hr
      · exact hg.2 r hr
      · rw [List.mem_singleton.1 hr]; exact hrow
end Go.Proofs.Ytninjoepdchmiaa
