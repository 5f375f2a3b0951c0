/-
  A line by what it holds: Send, Deliver, Drop, Double by contents.
-/
import Derived.Test.YtekgmgiokmbliaaDrop
set_option linter.unusedVariables false
namespace Go.Proofs.Ytekgmgiokmbliaa
open Go.RowKit

/-- an envelope's contents -/
abbrev Cn := Int × Int × Int × Int × List UInt8
/-- bytes that lie apart from the blocks that may turn -/
def Bod (w : World) (M : Nat → Prop) (v : Value) (l : List UInt8) : Prop :=
  ∃ A c, v = .slice A l.length c ∧ l.length ≤ 1048576 ∧ Rd w w.heap.size A l ∧ (A = none → c = 0) ∧ ∀ q o, A = some ⟨q, o, none⟩ → l ≠ [] → ¬ M q
/-- what may turn between two worlds: the blocks of M -/
structure Fr (M : Nat → Prop) (w w' : World) : Prop where
  size : w.heap.size ≤ w'.heap.size
  block : ∀ k, k < w.heap.size → ¬ M k → w'.heap[k]? = w.heap[k]?
theorem Two.fr {M : Nat → Prop} {g : Nat} {row : Option Nat} {w w' : World} (t : Two g row w w') (hg : M g) (hr : ∀ r, row = some r → M r) : Fr M w w' :=
  ⟨t.size, fun k hk hM => t.block k hk (fun e => hM (e ▸ hg)) (fun e => hM (hr k e.symm))⟩
theorem Below.fr {M : Nat → Prop} {w w' : World} (t : Below w.heap.size w w') : Fr M w w' := ⟨t.size, fun k hk _ => t.block k hk⟩
theorem Fr.grown {M : Nat → Prop} {row : Option Nat} {w w' : World} (t : w.grownBy w' row) (hr : ∀ r, row = some r → M r) : Fr M w w' :=
  ⟨t.size, fun k hk hM => t.block k hk (fun e => hM (hr k e.symm))⟩
def cn (p : Ev × List UInt8) : Cn := (p.1.1, p.1.2.1, p.1.2.2.1, p.1.2.2.2.1, p.2)
/-- contents that rise, up to last, each of which Send takes -/
def GoodC (C : List Cn) (last : Int) : Prop := C.Pairwise (fun a b => a.1 < b.1) ∧ ∀ c ∈ C, (1 ≤ c.1 ∧ c.1 ≤ last) ∧ isNodeB c.2.1 = true ∧ isNodeB c.2.2.1 = true ∧ (1 ≤ c.2.2.2.1 ∧ c.2.2.2.1 ≤ 255) ∧ c.2.2.2.2.length ≤ 1048576
def Line (w : World) (M : Nat → Prop) (g base : Nat) (row : Option Nat) (last : Int) (C : List Cn) : Prop :=
  ∃ (fv : Value) (P : List (Ev × List UInt8)), Net w g base last fv (P.map (·.1)) ∧ fv.ownBlock = row ∧ C = P.map cn ∧ (∀ p ∈ P, Bod w M p.1.2.2.2.2 p.2) ∧ M g ∧ (∀ r, row = some r → M r) ∧ ∀ b, M b → b < w.heap.size
/-- one block more that may turn -/
def plus (M : Nat → Prop) (row : Option Nat) : Nat → Prop := fun b => M b ∨ row = some b

theorem Bod.move {w w' : World} {M M' : Nat → Prop} {v : Value} {l : List UInt8} (h : Bod w M v l) (t : Fr M w w') (hM : ∀ b, M' b → M b ∨ w.heap.size ≤ b) : Bod w' M' v l := by
  obtain ⟨A, c, hv, hl, hrd, hA, hq⟩ := h
  refine ⟨A, c, hv, hl, ?_, hA, ?_⟩
  · rcases hrd with h | ⟨q, o, rfl, hlt, hc⟩
    · exact .inl h
    · by_cases h0 : l = []
      · exact .inl h0
      · exact .inr ⟨q, o, rfl, Nat.lt_of_lt_of_le hlt t.size, fun i hi => (World.cell?_of_block (w := w) (t.block q hlt (hq q o rfl h0))).trans (hc i hi)⟩
  · rintro q o rfl h0 hm
    rcases hM q hm with h | h
    · exact hq q o rfl h0 h
    · rcases hrd with h1 | ⟨q', o', e, hlt, _⟩
      · exact h0 h1
      · injection e with e; injection e with e; omega
theorem Bod.slice {w : World} {M : Nat → Prop} {v : Value} {l : List UInt8} (h : Bod w M v l) : ∃ A n c, v = Value.slice A n c ∧ n ≤ 1048576 := by
  obtain ⟨A, c, hv, hl, _⟩ := h
  exact ⟨A, _, c, hv, hl⟩

theorem GoodC.rise {P : List (Ev × List UInt8)} {last : Int} (h : GoodC (P.map cn) last) (hl : last < 4611686018427387904) : Rise (P.map (·.1)) := by
  refine ⟨fun i j hij hj => ?_, fun e he => ?_⟩
  · have hj' : j < P.length := by simpa using hj
    have := List.pairwise_iff_getElem.1 h.1 i j (by simp; omega) (by simpa using hj') hij
    simp only [List.getElem_map, cn] at this
    unfold evAt
    rw [List.getD_eq_getElem?_getD, List.getD_eq_getElem?_getD, List.getElem?_eq_getElem (by simp; omega), List.getElem?_eq_getElem (by simpa using hj')]
    simpa using this
  · obtain ⟨p, hp, rfl⟩ := List.mem_map.1 he
    have := (h.2 (cn p) (List.mem_map.2 ⟨p, hp, rfl⟩)).1
    exact ⟨this.1, by have h2 := this.2; exact Int.lt_of_le_of_lt h2 hl⟩
theorem fine_of {P : List (Ev × List UInt8)} {last : Int} {w : World} {M : Nat → Prop} (h : GoodC (P.map cn) last) (hB : ∀ p ∈ P, Bod w M p.1.2.2.2.2 p.2) : Fine (P.map (·.1)) := fun e he => by
  obtain ⟨p, hp, rfl⟩ := List.mem_map.1 he
  obtain ⟨_, h1, h2, h3, _⟩ := h.2 (cn p) (List.mem_map.2 ⟨p, hp, rfl⟩)
  exact ⟨h1, h2, h3, (hB p hp).slice⟩
theorem Line.lt {w : World} {M : Nat → Prop} {g base : Nat} {row : Option Nat} {last : Int} {C : List Cn} (h : Line w M g base row last C) : base ≤ g ∧ g < w.heap.size ∧ ∀ r, row = some r → base ≤ r ∧ r < w.heap.size := by
  obtain ⟨fv, P, hN, rfl, hC, hB, _⟩ := h
  exact ⟨hN.gb, hN.c0.lt, fun r hr => World.ownsRow.lt hN.own r hr⟩
/-- a row of one's own stays where its block does -/
theorem row_block {w w' : World} {base : Nat} {e : TypeId} {size : Nat} {v : Value} {n : Nat} {xs : List Value} (h : w.ownsRow base e size v n xs) (hb : ∀ k, v.ownBlock = some k → w'.heap[k]? = w.heap[k]?) : w'.ownsRow base e size v n xs := by
  refine ⟨h.1, ?_⟩
  rcases h.2 with hn | ⟨g, cap, cur, rfl, hg, hh, r⟩
  · exact .inl hn
  · exact .inr ⟨g, cap, cur, rfl, hg, (hb g rfl).trans hh, r⟩
theorem cell_block {w w' : World} {k i : Nat} {x : Value} (h : Cell w k i x) (hb : w'.heap[k]? = w.heap[k]?) : Cell w' k i x :=
  ⟨(World.cell?_of_block (w := w) hb).trans h.1, by have := h.2; simp only [World.frozen?, hb] at this ⊢; exact this⟩
/-- a line stays while others turn -/
theorem Line.move {w w' : World} {M M' : Nat → Prop} {g base : Nat} {row : Option Nat} {last : Int} {C : List Cn} (h : Line w M g base row last C) (t : Fr M w w') (hg : w'.heap[g]? = w.heap[g]?) (hr : ∀ r, row = some r → w'.heap[r]? = w.heap[r]?)
    (h1 : ∀ b, M b → M' b) (h2 : ∀ b, M' b → M b ∨ w.heap.size ≤ b) (h3 : ∀ b, M' b → b < w'.heap.size) : Line w' M' g base row last C := by
  obtain ⟨fv, P, hN, rfl, hC, hB, hMg, hMr, _⟩ := h
  exact ⟨fv, P, ⟨cell_block hN.c0 hg, cell_block hN.c1 hg, row_block hN.own hr, hN.gb, hN.apart⟩, rfl, hC, fun p hp => (hB p hp).move t h2, h1 _ hMg, fun r hr => h1 _ (hMr r hr), h3⟩
theorem Line.below {w w' : World} {M : Nat → Prop} {g base : Nat} {row : Option Nat} {last : Int} {C : List Cn} (h : Line w M g base row last C) (hb : Below w.heap.size w w') : Line w' M g base row last C := by
  have hl := h.lt
  have hM : ∀ b, M b → b < w.heap.size := by obtain ⟨_, _, _, _, _, _, _, _, h⟩ := h; exact h
  exact h.move (Below.fr hb) (hb.block g hl.2.1) (fun r hr => hb.block r (hl.2.2 r hr).2) (fun _ h => h) (fun _ h => .inl h) (fun b h => Nat.lt_of_lt_of_le (hM b h) hb.size)
theorem Line.below2 {w w' : World} {M : Nat → Prop} {g base B : Nat} {row : Option Nat} {last : Int} {C : List Cn} (h : Line w M g base row last C) (t : Two g row w w') (hB : B ≤ base) (hw : B ≤ w.heap.size) : Below B w w' := by
  obtain ⟨h1, h2, h3⟩ := h.lt
  exact t.below (by omega) (by intro r hr; have := (h3 r hr).1; omega) hw
theorem Line.new {w : World} {g : Nat} {M : Nat → Prop} (h : Net w g g 0 (.slice none 0 0) []) (hg : M g) (hM : ∀ b, M b → b < w.heap.size) : Line w M g g none 0 [] := ⟨_, [], h, rfl, rfl, fun p hp => (by cases hp), hg, fun r hr => (by cases hr), hM⟩

/-- what Send takes -/
def okB (f t k : Int) (n : Nat) : Bool := isNodeB f && isNodeB t && decide (1 ≤ k ∧ k ≤ 255) && decide (n ≤ 1048576)

set_option maxHeartbeats 1600000 in
set_option maxRecDepth 100000 in
theorem send_bad (M : Nat → Prop) (g base : Nat) (row : Option Nat) (last : Int) (C : List Cn) (i f t k : Int) (A : Option Addr) (n c : Nat) (w : World) (hL : Line w M g base row last C) (hn : n ≤ 9223372036854775807) (hbad : okB f t k n = false) :
    Calls Try.prog 11 #[.pointer (some ⟨g, 0, none⟩), .agg #[.int .i64 i, .int .i64 f, .int .i64 t, .int .i64 k, .slice A n c]] w fun e w' => e = .returned (.tuple #[.int .i64 0, .int .i64 1]) ∧ Below w.heap.size w w' := by
  have hb := below1' w (.cells #[.int .i64 i, .int .i64 f, .int .i64 t, .int .i64 k, .slice A n c] 32)
  have NF := Lib.hid (node_any f)
  have NT := Lib.hid (node_any t)
  by_cases h1 : isNodeB f = true
  · by_cases h2 : isNodeB t = true
    · rw [h1] at NF
      rw [h2] at NT
      simp only [okB, h1, h2, Bool.true_and] at hbad
      by_cases h3 : k < 1
      · clear hbad h1 h2 hL
        go_enter Try.func11, Try.ntmps11
        go_wp2_with fail
        refine (NF.out _).mono ?_
        rintro e w1 ⟨rfl, rfl⟩
        go_wp2_with fail
        refine (NT.out _).mono ?_
        rintro e w1 ⟨rfl, rfl⟩
        go_wp2
        go_ret2
        exact ⟨rfl, hb⟩
      · by_cases h4 : 255 < k
        · clear hbad h1 h2 hL
          go_enter Try.func11, Try.ntmps11
          go_wp2_with fail
          refine (NF.out _).mono ?_
          rintro e w1 ⟨rfl, rfl⟩
          go_wp2_with fail
          refine (NT.out _).mono ?_
          rintro e w1 ⟨rfl, rfl⟩
          go_wp2
          go_ret2
          exact ⟨rfl, hb⟩
        · have h5 : 1048576 < n := by
            rw [decide_eq_true (show 1 ≤ k ∧ k ≤ 255 by omega), Bool.true_and, decide_eq_false_iff_not] at hbad
            omega
          clear hbad h1 h2 hL
          go_enter Try.func11, Try.ntmps11
          go_wp2_with fail
          refine (NF.out _).mono ?_
          rintro e w1 ⟨rfl, rfl⟩
          go_wp2_with fail
          refine (NT.out _).mono ?_
          rintro e w1 ⟨rfl, rfl⟩
          go_wp2
          go_ret2
          exact ⟨rfl, hb⟩
    · have h2 : isNodeB t = false := by simpa using h2
      rw [h1] at NF
      rw [h2] at NT
      clear hbad h1 h2 hL
      go_enter Try.func11, Try.ntmps11
      go_wp2_with fail
      refine (NF.out _).mono ?_
      rintro e w1 ⟨rfl, rfl⟩
      go_wp2_with fail
      refine (NT.out _).mono ?_
      rintro e w1 ⟨rfl, rfl⟩
      go_wp2
      go_ret2
      exact ⟨rfl, hb⟩
  · have h1 : isNodeB f = false := by simpa using h1
    rw [h1] at NF
    clear hbad h1 hL
    go_enter Try.func11, Try.ntmps11
    go_wp2_with fail
    refine (NF.out _).mono ?_
    rintro e w1 ⟨rfl, rfl⟩
    go_wp2
    go_ret2
    exact ⟨rfl, hb⟩

theorem Own.bod {w : World} {base : Nat} {M : Nat → Prop} {v : Value} {l : List UInt8} (h : Own w base v l) (hl : l.length ≤ 1048576) (hM : ∀ b, base ≤ b → v.ownBlock = some b → ¬ M b) : Bod w M v l := by
  obtain ⟨A, c, hv, hrd⟩ := h.rd
  refine ⟨A, c, hv, hl, hrd, ?_, ?_⟩
  · rintro rfl
    rcases h.2 with ⟨he, _⟩ | ⟨q, cap, cur, he, _⟩
    · rw [hv] at he; injection he
    · rw [hv] at he; injection he with he; cases he
  · rintro q o rfl h0
    have hq : v.ownBlock = some q := by rw [hv]; rfl
    exact hM q (World.ownsRow.lt h q hq).1 hq

theorem send_line (M : Nat → Prop) (g base : Nat) (row : Option Nat) (last : Int) (C : List Cn) (i f t k : Int) (A : Option Addr) (n c : Nat) (l : List UInt8) (w : World) (hL : Line w M g base row last C) (hok : okB f t k n = true) (hn : n = l.length) (hr : Rd w w.heap.size A l) (hA : A = none → c = 0) (hAg : ∀ q o, A = some ⟨q, o, none⟩ → l ≠ [] → q ≠ g ∧ some q ≠ row) (hC : C.length < 1000) (hl1 : 0 ≤ last) (hl2 : last < 4611686018427387904) :
    Calls Try.prog 11 #[.pointer (some ⟨g, 0, none⟩), .agg #[.int .i64 i, .int .i64 f, .int .i64 t, .int .i64 k, .slice A n c]] w fun e w' => ∃ row', e = .returned (.tuple #[.int .i64 (last + 1), .int .i64 0]) ∧ Line w' (plus M row') g base row' (last + 1) (C ++ [(last + 1, f, t, k, l)]) ∧ Two g row w w' ∧ (row' = row ∨ ∀ r, row' = some r → w.heap.size ≤ r) := by
  obtain ⟨fv, P, hN, rfl, rfl, hB, hMg, hMr, hM⟩ := hL
  simp only [okB, Bool.and_eq_true, decide_eq_true_eq] at hok
  obtain ⟨⟨⟨h1, h2⟩, h3⟩, h4⟩ := hok
  refine (send_ok g base last fv (P.map (·.1)) i f t k A n c l w hN h1 h2 h3.1 h3.2 hn h4 hr hA hAg (by simpa using hC) hl1 hl2).mono ?_
  rintro e w' ⟨v, fv', rfl, N', O', hva, T, hlies⟩
  have hpl : ∀ b, plus M fv'.ownBlock b → M b ∨ w.heap.size ≤ b := by
    rintro b (h | h)
    · exact .inl h
    · rcases hlies with h' | h'
      · exact .inl (hMr b (h'.symm.trans h))
      · exact .inr (h' b h)
  refine ⟨fv'.ownBlock, rfl, ⟨fv', P ++ [((last + 1, f, t, k, v), l)], by simpa using N', rfl, by simp [cn], fun p hp => ?_, .inl hMg, fun r hr => .inr hr, ?_⟩, T, hlies⟩
  · rcases List.mem_append.1 hp with hp | hp
    · exact (hB p hp).move (T.fr hMg hMr) hpl
    · rw [List.mem_singleton.1 hp]
      refine O'.bod (by omega) (fun b hb hv hm => ?_)
      rcases hm with hm | hm
      · have := hM b hm; omega
      · exact hva b hv hm
  · rintro b (h | h)
    · exact Nat.lt_of_lt_of_le (hM b h) T.size
    · exact (World.ownsRow.lt N'.own b h).2
theorem GoodC.snoc {C : List Cn} {last : Int} (h : GoodC C last) {f t k : Int} {l : List UInt8} (hok : okB f t k l.length = true) (hl : 0 ≤ last) : GoodC (C ++ [(last + 1, f, t, k, l)]) (last + 1) := by
  simp only [okB, Bool.and_eq_true, decide_eq_true_eq] at hok
  obtain ⟨⟨⟨h1, h2⟩, h3⟩, h4⟩ := hok
  refine ⟨List.pairwise_append.2 ⟨h.1, List.pairwise_singleton _ _, fun a ha b hb => ?_⟩, fun c hc => ?_⟩
  · rw [List.mem_singleton.1 hb]
    have := (h.2 a ha).1.2
    simp only; omega
  · rcases List.mem_append.1 hc with hc | hc
    · obtain ⟨⟨g1, g2⟩, g3⟩ := h.2 c hc
      exact ⟨⟨g1, by omega⟩, g3⟩
    · rw [List.mem_singleton.1 hc]
      exact ⟨⟨by simp only; omega, by simp only; omega⟩, h1, h2, h3, h4⟩
theorem GoodC.erase {C : List Cn} {last : Int} (h : GoodC C last) (k : Nat) : GoodC (C.eraseIdx k) last :=
  ⟨h.1.sublist (List.eraseIdx_sublist C k), fun c hc => h.2 c ((List.eraseIdx_sublist C k).subset hc)⟩
end Go.Proofs.Ytekgmgiokmbliaa
