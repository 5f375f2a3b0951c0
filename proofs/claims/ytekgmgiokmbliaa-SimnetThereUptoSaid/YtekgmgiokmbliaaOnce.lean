/-
  What SimnetOnce keeps: a line, the envelopes that were sent, the numbers that are gone.
-/
import Derived.Test.YtekgmgiokmbliaaSame
set_option linter.unusedVariables false
namespace Go.Proofs.Ytekgmgiokmbliaa
open Go.RowKit

theorem infoI : (Try.prog.info? 3).map (fun i => (i.zero, i.size, i.bytes)) = some (some (.int .i64 0), 1, 8) := by kernel_rfl
def iv (n : Int) : Value := .int .i64 n
def OwnI (w : World) (base : Nat) (v : Value) (G : List Int) : Prop := w.ownsRow base 3 1 v G.length (G.map iv)
/-- the envelopes that were sent, their bodies in what was handed in -/
def Sent (w : World) (B base : Nat) (sv : Value) (S : List Cn) : Prop :=
  ∃ P : List (Ev × List UInt8), OwnF w base sv (P.map (·.1)) ∧ S = P.map cn ∧ ∀ p ∈ P, ∃ A c, p.1.2.2.2.2 = Value.slice A p.2.length c ∧ Rd w B A p.2

structure Mem (B base : Nat) (w : World) (g : Nat) (row : Option Nat) (last : Int) (C S : List Cn) (G : List Int) (sv gv : Value) : Prop where
  line : ∃ M, Line w M g base row last C ∧ (∀ b, sv.ownBlock = some b → M b) ∧ ∀ b, gv.ownBlock = some b → M b
  sent : Sent w B base sv S
  gone : OwnI w base gv G
  a1 : sv.ownBlock ≠ some g
  a2 : ∀ b, sv.ownBlock = some b → row ≠ some b
  a3 : gv.ownBlock ≠ some g
  a4 : ∀ b, gv.ownBlock = some b → row ≠ some b
  a5 : ∀ b, sv.ownBlock = some b → gv.ownBlock ≠ some b
  hB : B ≤ base
  hw : base ≤ w.heap.size

theorem Sent.lt {w : World} {B base : Nat} {sv : Value} {S : List Cn} (h : Sent w B base sv S) : ∀ b, sv.ownBlock = some b → base ≤ b ∧ b < w.heap.size := by
  obtain ⟨P, hO, _⟩ := h
  exact fun b hb => World.ownsRow.lt hO b hb
theorem Sent.move {w w' : World} {B base : Nat} {sv : Value} {S : List Cn} (h : Sent w B base sv S) (hs : ∀ b, sv.ownBlock = some b → w'.heap[b]? = w.heap[b]?) (hb : Below B w w') : Sent w' B base sv S := by
  obtain ⟨P, hO, hS, hP⟩ := h
  exact ⟨P, row_block hO hs, hS, fun p hp => by obtain ⟨A, c, hv, hr⟩ := hP p hp; exact ⟨A, c, hv, hr.below hb⟩⟩
theorem Sent.form {w : World} {B base : Nat} {sv : Value} {S : List Cn} (h : Sent w B base sv S) : ∃ A c, sv = .slice A S.length c := by
  obtain ⟨P, hO, rfl, _⟩ := h
  obtain ⟨A, c, h⟩ := hO.form
  exact ⟨A, c, by rw [h]; simp⟩
theorem Cell.two {w w' : World} {g k i : Nat} {row : Option Nat} {x : Value} (h : Cell w k i x) (t : Two g row w w') (hg : k ≠ g) (hr : some k ≠ row) : Cell w' k i x := cell_block h (t.block k h.lt hg hr)
theorem OwnI.lt {w : World} {base : Nat} {gv : Value} {G : List Int} (h : OwnI w base gv G) : ∀ b, gv.ownBlock = some b → base ≤ b ∧ b < w.heap.size := fun b hb => World.ownsRow.lt h b hb

theorem Mem.below {B base : Nat} {w w' : World} {g : Nat} {row : Option Nat} {last : Int} {C S : List Cn} {G : List Int} {sv gv : Value} (h : Mem B base w g row last C S G sv gv) (hb : Below w.heap.size w w') : Mem B base w' g row last C S G sv gv := by
  obtain ⟨M, hL, h1, h2⟩ := h.line
  exact ⟨⟨M, hL.below hb, h1, h2⟩, h.sent.move (fun b hv => hb.block b (h.sent.lt b hv).2) (hb.mono (Nat.le_trans h.hB h.hw)), row_block h.gone (fun b hv => hb.block b (h.gone.lt b hv).2), h.a1, h.a2, h.a3, h.a4, h.a5, h.hB, Nat.le_trans h.hw hb.size⟩

/-- the line turned -/
theorem Mem.turn {B base : Nat} {w w' : World} {g : Nat} {row row' : Option Nat} {last last' : Int} {C C' S : List Cn} {G : List Int} {sv gv : Value} {M : Nat → Prop} (h : Mem B base w g row last C S G sv gv)
    (h1 : ∀ b, sv.ownBlock = some b → M b) (h2 : ∀ b, gv.ownBlock = some b → M b) {M' : Nat → Prop} (hM : ∀ b, M b → M' b) (hL : Line w' M' g base row' last' C') (T : Two g row w w') (hr : row' = row ∨ ∀ r, row' = some r → w.heap.size ≤ r) (hg : base ≤ g) (hrow : ∀ r, row = some r → base ≤ r) :
    Mem B base w' g row' last' C' S G sv gv := by
  have hs : ∀ b, sv.ownBlock = some b → w'.heap[b]? = w.heap[b]? := fun b hv => T.block b (h.sent.lt b hv).2 (fun e => h.a1 (by rw [hv, e])) (fun e => h.a2 b hv e.symm)
  have hgv : ∀ b, gv.ownBlock = some b → w'.heap[b]? = w.heap[b]? := fun b hv => T.block b (h.gone.lt b hv).2 (fun e => h.a3 (by rw [hv, e])) (fun e => h.a4 b hv e.symm)
  have hb : Below B w w' := T.below (by have := h.hB; omega) (fun r hr => by have := hrow r hr; have := h.hB; omega) (Nat.le_trans h.hB h.hw)
  refine ⟨⟨M', hL, fun b hv => hM b (h1 b hv), fun b hv => hM b (h2 b hv)⟩, h.sent.move hs hb, row_block h.gone hgv, h.a1, fun b hv => ?_, h.a3, fun b hv => ?_, h.a5, h.hB, Nat.le_trans h.hw T.size⟩
  · rcases hr with rfl | hr
    · exact h.a2 b hv
    · intro e; have := hr b e; have := (h.sent.lt b hv).2; omega
  · rcases hr with rfl | hr
    · exact h.a4 b hv
    · intro e; have := hr b e; have := (h.gone.lt b hv).2; omega

theorem Mem.belowS {B base : Nat} {w w' : World} {g : Nat} {row : Option Nat} {last : Int} {C S : List Cn} {G : List Int} {sv gv : Value} (h : Mem B base w g row last C S G sv gv) (hgr : w.grownBy w' sv.ownBlock) : Below B w w' :=
  ⟨hgr.os, hgr.tape, hgr.output, hgr.size, fun k hk => hgr.block k (by have := h.hB; have := h.hw; omega) (fun e => by have := (h.sent.lt k e.symm).1; have := h.hB; omega)⟩
theorem Mem.belowG {B base : Nat} {w w' : World} {g : Nat} {row : Option Nat} {last : Int} {C S : List Cn} {G : List Int} {sv gv : Value} (h : Mem B base w g row last C S G sv gv) (hgr : w.grownBy w' gv.ownBlock) : Below B w w' :=
  ⟨hgr.os, hgr.tape, hgr.output, hgr.size, fun k hk => hgr.block k (by have := h.hB; have := h.hw; omega) (fun e => by have := (h.gone.lt k e.symm).1; have := h.hB; omega)⟩
/-- one more was sent -/
theorem Mem.appS {B base : Nat} {w w' : World} {g : Nat} {row : Option Nat} {last : Int} {C S : List Cn} {G : List Int} {sv gv sv' : Value} (h : Mem B base w g row last C S G sv gv) (c : Cn) (A : Option Addr) (cc : Nat)
    (P : List (Ev × List UInt8)) (hS : S = P.map cn) (hPb : ∀ p ∈ P, ∃ A c, p.1.2.2.2.2 = Value.slice A p.2.length c ∧ Rd w B A p.2) (hO : OwnF w' base sv' (P.map (·.1) ++ [(c.1, c.2.1, c.2.2.1, c.2.2.2.1, .slice A c.2.2.2.2.length cc)])) (hr : Rd w' B A c.2.2.2.2)
    (hgr : w.grownBy w' sv.ownBlock) (hl : ∀ b, sv'.ownBlock = some b → sv.ownBlock = some b ∨ w.heap.size ≤ b) (hlt : ∀ b, sv'.ownBlock = some b → b < w'.heap.size) :
    Mem B base w' g row last C (S ++ [c]) G sv' gv := by
  obtain ⟨M, hL, h1, h2⟩ := h.line
  have hll := hL.lt
  have hMl : ∀ b, M b → b < w.heap.size := by obtain ⟨_, _, _, _, _, _, _, _, h⟩ := hL; exact h
  have hb : Below B w w' := ⟨hgr.os, hgr.tape, hgr.output, hgr.size, fun k hk => hgr.block k (by have := h.hB; have := h.hw; omega) (fun e => by have := (h.sent.lt k e.symm).1; have := h.hB; omega)⟩
  refine ⟨⟨fun b => M b ∨ sv'.ownBlock = some b, hL.move (Fr.grown hgr h1) (hgr.block g hll.2.1 (fun e => h.a1 e.symm)) (fun r hr => hgr.block r (hll.2.2 r hr).2 (fun e => h.a2 r e.symm hr)) (fun b hb => .inl hb) ?_ ?_, fun b hv => .inr hv, fun b hv => .inl (h2 b hv)⟩,
    ⟨P ++ [((c.1, c.2.1, c.2.2.1, c.2.2.2.1, .slice A c.2.2.2.2.length cc), c.2.2.2.2)], by simpa using hO, by rw [hS]; simp [cn], fun p hp => ?_⟩, row_block h.gone (fun b hv => hgr.block b (h.gone.lt b hv).2 (fun e => h.a5 b e.symm hv)), ?_, ?_, h.a3, h.a4, ?_, h.hB, Nat.le_trans h.hw hgr.size⟩
  · rintro b (h0 | h0)
    · exact .inl h0
    · rcases hl b h0 with h' | h'
      · exact .inl (h1 b h')
      · exact .inr h'
  · rintro b (h0 | h0)
    · exact Nat.lt_of_lt_of_le (hMl b h0) hgr.size
    · exact hlt b h0
  · rcases List.mem_append.1 hp with hp | hp
    · obtain ⟨A, c, hv, hr⟩ := hPb p hp
      exact ⟨A, c, hv, hr.below hb⟩
    · rw [List.mem_singleton.1 hp]
      exact ⟨A, cc, rfl, hr⟩
  · intro e
    rcases hl g e with h' | h'
    · exact h.a1 h'
    · have := hll.2.1; omega
  · intro b hv e
    rcases hl b hv with h' | h'
    · exact h.a2 b h' e
    · have := (hll.2.2 b e).2; omega
  · intro b hv e
    rcases hl b hv with h' | h'
    · exact h.a5 b h' e
    · have := (h.gone.lt b e).2; omega

/-- one more is gone -/
theorem Mem.appG {B base : Nat} {w w' : World} {g : Nat} {row : Option Nat} {last : Int} {C S : List Cn} {G : List Int} {sv gv gv' : Value} (h : Mem B base w g row last C S G sv gv) (x : Int)
    (hO : OwnI w' base gv' (G ++ [x])) (hgr : w.grownBy w' gv.ownBlock) (hl : ∀ b, gv'.ownBlock = some b → gv.ownBlock = some b ∨ w.heap.size ≤ b) :
    Mem B base w' g row last C S (G ++ [x]) sv gv' := by
  obtain ⟨M, hL, h1, h2⟩ := h.line
  have hll := hL.lt
  have hMl : ∀ b, M b → b < w.heap.size := by obtain ⟨_, _, _, _, _, _, _, _, h⟩ := hL; exact h
  have hb : Below B w w' := ⟨hgr.os, hgr.tape, hgr.output, hgr.size, fun k hk => hgr.block k (by have := h.hB; have := h.hw; omega) (fun e => by have := (h.gone.lt k e.symm).1; have := h.hB; omega)⟩
  refine ⟨⟨fun b => M b ∨ gv'.ownBlock = some b, hL.move (Fr.grown hgr h2) (hgr.block g hll.2.1 (fun e => h.a3 e.symm)) (fun r hr => hgr.block r (hll.2.2 r hr).2 (fun e => h.a4 r e.symm hr)) (fun b hb => .inl hb) ?_ ?_, fun b hv => .inl (h1 b hv), fun b hv => .inr hv⟩,
    h.sent.move (fun b hv => hgr.block b (h.sent.lt b hv).2 (fun e => h.a5 b hv e.symm)) hb, hO, h.a1, h.a2, ?_, ?_, ?_, h.hB, Nat.le_trans h.hw hgr.size⟩
  · rintro b (h0 | h0)
    · exact .inl h0
    · rcases hl b h0 with h' | h'
      · exact .inl (h2 b h')
      · exact .inr h'
  · rintro b (h0 | h0)
    · exact Nat.lt_of_lt_of_le (hMl b h0) hgr.size
    · exact (hO.lt b h0).2
  · intro e
    rcases hl g e with h' | h'
    · exact h.a3 h'
    · have := hll.2.1; omega
  · intro b hv e
    rcases hl b hv with h' | h'
    · exact h.a4 b h' e
    · have := (hll.2.2 b e).2; omega
  · intro b hv e
    rcases hl b e with h' | h'
    · exact h.a5 b hv h'
    · have := (h.sent.lt b hv).2; omega

/-- append(v, e), e in a block of its own -/
theorem app_ev {ops : Array Oper} {rest : List Oper} {o : Oper} {a : Act} {Q : Exit → Act → World → Prop} (w : World) (base : Nat) (v : Value) (n : Nat) (es : List Ev) (e : Ev) (hgd : o.guard = none) (s x : Operand)
    (ho : o.op = .call { callee := .builtin .append, args := #[s, x], argTypes := #[27, 27] })
    (hs : a.eval s = v) (H : Nat) (hH : w.heap.size = H) (hx : a.eval x = .slice (some ⟨H, 0, none⟩) 1 1) (hown : OwnF w base v es) (hn : n = es.length) (h1 : e.2.2.2.2.oneCell' = true) (hlen : n < 1000) (hbase : base ≤ w.heap.size)
    (h : ∀ gq cap w', OwnF w' base (.slice (some ⟨gq, 0, none⟩) (n + 1) cap) (es ++ [e]) → (w.alloc (.cells #[.int .i64 e.1, .int .i64 e.2.1, .int .i64 e.2.2.1, .int .i64 e.2.2.2.1, e.2.2.2.2] 32)).grownBy w' v.ownBlock → (v.ownBlock = some gq ∨ gq = w.heap.size + 1) → gq < w'.heap.size → wpList Try.prog ops Q rest (a.put o.dst (.slice (some ⟨gq, 0, none⟩) (n + 1) cap)) w') :
    wpList Try.prog ops Q (o :: rest) a (w.alloc (.cells #[.int .i64 e.1, .int .i64 e.2.1, .int .i64 e.2.2.1, .int .i64 e.2.2.2.1, e.2.2.2.2] 32)) := by
  subst hn
  subst hH
  obtain ⟨i0, hi0, hz0, hz1, hz2⟩ := info_parts infoE
  have hown' : (w.alloc (.cells #[.int .i64 e.1, .int .i64 e.2.1, .int .i64 e.2.2.1, .int .i64 e.2.2.2.1, e.2.2.2.2] 32)).ownsRow base 32 5 v es.length (es.flatMap ec) := World.ownsRow.alloc hown _
  refine wpList_append_lies (w.alloc (.cells #[.int .i64 e.1, .int .i64 e.2.1, .int .i64 e.2.2.1, .int .i64 e.2.2.2.1, e.2.2.2.2] 32)) hgd s x 27 ho base 32 i0 _ 5 56 Try.underlying27 hi0 hz0 hz1 hz2 rfl (by decide) v es.length (es.flatMap ec) hs hown' ⟨w.heap.size, 0, none⟩ 1 1 (ec e) hx rfl ?_ ?_ (by decide) (by unfold maxLen; omega) (by omega) (by simp; omega) (w.heap.size + 1) (by simp) ?_
  · intro j u hu
    rw [add_at, World.cell?_alloc_at _ _ _ _ rfl, Nat.zero_add, ← Array.getElem?_toList]
    exact hu
  · intro u hu
    simp only [ec, List.mem_cons, List.not_mem_nil, or_false] at hu
    rcases hu with rfl | rfl | rfl | rfl | rfl <;> first | rfl | exact h1
  · intro gq cap w' h1 h2 h3 h4
    refine h gq cap w' ?_ h2 h3 h4
    unfold OwnF
    rw [flat_snoc, List.length_append]
    exact h1
/-- append(v, x), x a number in a block of its own -/
theorem app_int {ops : Array Oper} {rest : List Oper} {o : Oper} {a : Act} {Q : Exit → Act → World → Prop} (w : World) (base : Nat) (v : Value) (n : Nat) (G : List Int) (y : Int) (hgd : o.guard = none) (s x : Operand)
    (ho : o.op = .call { callee := .builtin .append, args := #[s, x], argTypes := #[43, 43] })
    (hs : a.eval s = v) (H : Nat) (hH : w.heap.size = H) (hx : a.eval x = .slice (some ⟨H, 0, none⟩) 1 1) (hown : OwnI w base v G) (hn : n = G.length) (hlen : n < 1000) (hbase : base ≤ w.heap.size)
    (h : ∀ gq cap w', OwnI w' base (.slice (some ⟨gq, 0, none⟩) (n + 1) cap) (G ++ [y]) → (w.alloc (.cells #[.int .i64 y] 3)).grownBy w' v.ownBlock → (v.ownBlock = some gq ∨ gq = w.heap.size + 1) → wpList Try.prog ops Q rest (a.put o.dst (.slice (some ⟨gq, 0, none⟩) (n + 1) cap)) w') :
    wpList Try.prog ops Q (o :: rest) a (w.alloc (.cells #[.int .i64 y] 3)) := by
  subst hn
  subst hH
  obtain ⟨i0, hi0, hz0, hz1, hz2⟩ := info_parts infoI
  have hown' : (w.alloc (.cells #[.int .i64 y] 3)).ownsRow base 3 1 v G.length (G.map iv) := World.ownsRow.alloc hown _
  refine wpList_append_lies (w.alloc (.cells #[.int .i64 y] 3)) hgd s x 43 ho base 3 i0 _ 1 8 Try.underlying43 hi0 hz0 hz1 hz2 rfl (by decide) v G.length (G.map iv) hs hown' ⟨w.heap.size, 0, none⟩ 1 1 [iv y] hx rfl ?_ ?_ (by decide) (by unfold maxLen; omega) (by omega) (by simp; omega) (w.heap.size + 1) (by simp) ?_
  · intro j u hu
    rw [add_at, World.cell?_alloc_at _ _ _ _ rfl, Nat.zero_add, ← Array.getElem?_toList]
    exact hu
  · intro u hu
    rw [List.mem_singleton.1 hu]; rfl
  · intro gq cap w' h1 h2 h3 h4
    refine h gq cap w' ?_ h2 h3
    unfold OwnI
    rw [List.map_append, List.length_append]
    exact h1
theorem OwnI.form {w : World} {base : Nat} {v : Value} {G : List Int} (h : OwnI w base v G) : ∃ A c, v = .slice A G.length c := by
  rcases h.2 with ⟨rfl, hn⟩ | ⟨g, cap, cur, rfl, _⟩
  · exact ⟨none, 0, by rw [hn]⟩
  · exact ⟨_, _, rfl⟩
theorem OwnI.at {w : World} {base : Nat} {A : Option Addr} {n c : Nat} {G : List Int} (h : OwnI w base (.slice A n c) G) {k : Nat} (hk : k < G.length) : ∃ q, A = some ⟨q, 0, none⟩ ∧ w.cell? ⟨q, k, none⟩ = some (.int .i64 G[k]) := by
  rcases h.2 with ⟨_, hn⟩ | ⟨q, cap, cur, hv, _⟩
  · omega
  · injection hv with h1 h2 h3
    subst h1
    have := World.ownsRow.cells h (g := q) rfl k (iv G[k]) (by simp [hk])
    rw [add_at, Nat.zero_add] at this
    exact ⟨q, rfl, this⟩
theorem Rd.grownOut {w w' : World} {A : Option Addr} {l : List UInt8} {row : Option Nat} (h : Rd w w.heap.size A l) (hg : w.grownBy w' row) (hA : ∀ q o, A = some ⟨q, o, none⟩ → l ≠ [] → row ≠ some q) : Rd w' w'.heap.size A l := by
  rcases h with h | ⟨q, o, rfl, hlt, hc⟩
  · exact .inl h
  · by_cases h0 : l = []
    · exact .inl h0
    · exact .inr ⟨q, o, rfl, Nat.lt_of_lt_of_le hlt hg.size, fun i hi => (hg.cell_far _ hlt (fun e => hA q o rfl h0 e.symm)).trans (hc i hi)⟩
end Go.Proofs.Ytekgmgiokmbliaa
