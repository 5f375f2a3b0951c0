/-
  The two lines as one thing that a script turns.
-/
import Derived.Test.YtekgmgiokmbliaaLawSame
set_option linter.unusedVariables false
namespace Go.Proofs.Ytekgmgiokmbliaa
open Go.RowKit

/-- two lines apart, and bodies that stay -/
structure J (w : World) (g gr base : Nat) (row rr : Option Nat) (l1 : Int) (C1 : List Cn) (l2 : Int) (C2 : List Cn) (X : List (Value × List UInt8)) : Prop where
  lines : ∃ M, Line w M g base row l1 C1 ∧ RLine w M gr base rr l2 C2 ∧ ∀ p ∈ X, Bod w M p.1 p.2
  n1 : g ≠ gr
  n2 : row ≠ some gr
  n3 : rr ≠ some g
  n4 : ∀ b, row = some b → rr ≠ some b

theorem J.lt {w : World} {g gr base : Nat} {row rr : Option Nat} {l1 l2 : Int} {C1 C2 : List Cn} {X : List (Value × List UInt8)} (h : J w g gr base row rr l1 C1 l2 C2 X) : base ≤ g ∧ g < w.heap.size ∧ base ≤ gr ∧ gr < w.heap.size ∧ (∀ r, row = some r → base ≤ r ∧ r < w.heap.size) ∧ ∀ r, rr = some r → base ≤ r ∧ r < w.heap.size := by
  obtain ⟨M, h1, h2, _⟩ := h.lines
  exact ⟨h1.lt.1, h1.lt.2.1, h2.lt.1, h2.lt.2.1, h1.lt.2.2, h2.lt.2.2⟩
theorem J.below {w w' : World} {g gr base : Nat} {row rr : Option Nat} {l1 l2 : Int} {C1 C2 : List Cn} {X : List (Value × List UInt8)} (h : J w g gr base row rr l1 C1 l2 C2 X) (hb : Below w.heap.size w w') : J w' g gr base row rr l1 C1 l2 C2 X := by
  obtain ⟨M, h1, h2, h3⟩ := h.lines
  exact ⟨⟨M, h1.below hb, h2.below hb, fun p hp => (h3 p hp).move (Below.fr hb) (fun _ h => .inl h)⟩, h.n1, h.n2, h.n3, h.n4⟩
theorem J.drop {w : World} {g gr base : Nat} {row rr : Option Nat} {l1 l2 : Int} {C1 C2 : List Cn} {X : List (Value × List UInt8)} (h : J w g gr base row rr l1 C1 l2 C2 X) : J w g gr base row rr l1 C1 l2 C2 [] := by
  obtain ⟨M, h1, h2, h3⟩ := h.lines
  exact ⟨⟨M, h1, h2, fun p hp => by cases hp⟩, h.n1, h.n2, h.n3, h.n4⟩
theorem J.body {w : World} {g gr base : Nat} {row rr : Option Nat} {l1 l2 : Int} {C1 C2 : List Cn} {X : List (Value × List UInt8)} (h : J w g gr base row rr l1 C1 l2 C2 X) {v : Value} {l : List UInt8} (hv : (v, l) ∈ X) : ∃ A c, v = .slice A l.length c ∧ Rd w w.heap.size A l := by
  obtain ⟨M, h1, h2, h3⟩ := h.lines
  obtain ⟨A, c, hv, _, hr, _⟩ := (h3 _ hv).parts
  exact ⟨A, c, hv, hr⟩

theorem J.left {w w' : World} {M M' : Nat → Prop} {g gr base : Nat} {row rr row' : Option Nat} {l1 l2 l1' : Int} {C1 C2 C1' : List Cn} {X Y : List (Value × List UInt8)} (h1 : Line w M g base row l1 C1) (h2 : RLine w M gr base rr l2 C2) (hX : ∀ p ∈ X, Bod w M p.1 p.2)
    (h : J w g gr base row rr l1 C1 l2 C2 X) (L' : Line w' M' g base row' l1' C1') (T : Two g row w w') (hM1 : ∀ b, M b → M' b) (hM2 : ∀ b, M' b → M b ∨ w.heap.size ≤ b) (hr : row' = row ∨ ∀ r, row' = some r → w.heap.size ≤ r) (hY : ∀ p ∈ Y, Bod w' M' p.1 p.2) :
    J w' g gr base row' rr l1' C1' l2 C2 (X ++ Y) := by
  have hM3 : ∀ b, M' b → b < w'.heap.size := by obtain ⟨_, _, _, _, _, _, _, _, h⟩ := L'; exact h
  obtain ⟨hMg, hMr⟩ : M g ∧ ∀ r, row = some r → M r := by obtain ⟨_, _, _, _, _, _, a, b, _⟩ := h1; exact ⟨a, b⟩
  have hf := T.fr hMg hMr
  have e := h.lt
  refine ⟨⟨M', L', h2.move hf (T.block gr e.2.2.2.1 (Ne.symm h.n1) (fun x => h.n2 x.symm)) (fun r hr => T.block r (e.2.2.2.2.2 r hr).2 (fun x => h.n3 (x ▸ hr)) (fun x => h.n4 r x.symm hr)) hM1 hM2 hM3, fun p hp => ?_⟩, h.n1, ?_, h.n3, ?_⟩
  · rcases List.mem_append.1 hp with hp | hp
    · exact (hX p hp).move hf hM2
    · exact hY p hp
  · rcases hr with rfl | hr
    · exact h.n2
    · intro x; have := hr _ x; omega
  · rcases hr with rfl | hr
    · exact h.n4
    · intro b hb x; have := hr b hb; have := (e.2.2.2.2.2 b x).2; omega
theorem J.right {w w' : World} {M M' : Nat → Prop} {g gr base : Nat} {row rr rr' : Option Nat} {l1 l2 l2' : Int} {C1 C2 C2' : List Cn} {X Y : List (Value × List UInt8)} (h1 : Line w M g base row l1 C1) (h2 : RLine w M gr base rr l2 C2) (hX : ∀ p ∈ X, Bod w M p.1 p.2)
    (h : J w g gr base row rr l1 C1 l2 C2 X) (L' : RLine w' M' gr base rr' l2' C2') (T : Two gr rr w w') (hM1 : ∀ b, M b → M' b) (hM2 : ∀ b, M' b → M b ∨ w.heap.size ≤ b) (hr : rr' = rr ∨ ∀ r, rr' = some r → w.heap.size ≤ r) (hY : ∀ p ∈ Y, Bod w' M' p.1 p.2) :
    J w' g gr base row rr' l1 C1 l2' C2' (X ++ Y) := by
  have hM3 : ∀ b, M' b → b < w'.heap.size := by obtain ⟨_, _, _, _, _, _, _, _, h⟩ := L'; exact h
  obtain ⟨hMg, hMr⟩ : M gr ∧ ∀ r, rr = some r → M r := by obtain ⟨_, _, _, _, _, _, a, b, _⟩ := h2; exact ⟨a, b⟩
  have hf := T.fr hMg hMr
  have e := h.lt
  refine ⟨⟨M', h1.move hf (T.block g e.2.1 h.n1 (fun x => h.n3 x.symm)) (fun r hr => T.block r (e.2.2.2.2.1 r hr).2 (fun x => h.n2 (x ▸ hr)) (fun x => h.n4 r hr x.symm)) hM1 hM2 hM3, L', fun p hp => ?_⟩, h.n1, h.n2, ?_, ?_⟩
  · rcases List.mem_append.1 hp with hp | hp
    · exact (hX p hp).move hf hM2
    · exact hY p hp
  · rcases hr with rfl | hr
    · exact h.n3
    · intro x; have := hr _ x; omega
  · rcases hr with rfl | hr
    · exact h.n4
    · intro b hb x; have := hr b x; have := (e.2.2.2.2.1 b hb).2; omega

theorem J.belowL {w w' : World} {g gr base : Nat} {row rr : Option Nat} {l1 l2 : Int} {C1 C2 : List Cn} {X : List (Value × List UInt8)} (h : J w g gr base row rr l1 C1 l2 C2 X) (T : Two g row w w') : Below base w w' :=
  T.below h.lt.1 (fun r hr => (h.lt.2.2.2.2.1 r hr).1) (by have := h.lt; omega)
theorem J.belowR {w w' : World} {g gr base : Nat} {row rr : Option Nat} {l1 l2 : Int} {C1 C2 : List Cn} {X : List (Value × List UInt8)} (h : J w g gr base row rr l1 C1 l2 C2 X) (T : Two gr rr w w') : Below base w w' :=
  T.below h.lt.2.2.1 (fun r hr => (h.lt.2.2.2.2.2 r hr).1) (by have := h.lt; omega)
theorem lineMr {w : World} {M : Nat → Prop} {g base : Nat} {row : Option Nat} {last : Int} {C : List Cn} (h : Line w M g base row last C) : ∀ r, row = some r → M r := by obtain ⟨_, _, _, _, _, _, a, b, _⟩ := h; exact b
theorem rlineMr {w : World} {M : Nat → Prop} {g base : Nat} {row : Option Nat} {last : Int} {C : List Cn} (h : RLine w M g base row last C) : ∀ r, row = some r → M r := by obtain ⟨_, _, _, _, _, _, a, b, _⟩ := h; exact b

theorem sendJ {w : World} {g gr base : Nat} {row rr : Option Nat} {l1 l2 : Int} {C1 C2 : List Cn} {X : List (Value × List UInt8)} (h : J w g gr base row rr l1 C1 l2 C2 X) (i f t k : Int) (A : Option Addr) (n c : Nat) (l : List UInt8) (hok : okB f t k n = true) (hn : n = l.length) (hr : Rd w base A l) (hA : A = none → c = 0) (hC : C1.length < 1000) (hl1 : 0 ≤ l1) (hl2 : l1 < 4611686018427387904) :
    Calls Try.prog 11 #[.pointer (some ⟨g, 0, none⟩), .agg #[.int .i64 i, .int .i64 f, .int .i64 t, .int .i64 k, .slice A n c]] w fun e w' => ∃ row', e = .returned (.tuple #[.int .i64 (l1 + 1), .int .i64 0]) ∧ J w' g gr base row' rr (l1 + 1) (C1 ++ [(l1 + 1, f, t, k, l)]) l2 C2 X ∧ Two g row w w' := by
  obtain ⟨M, h1, h2, h3⟩ := h.lines
  have e := h.lt
  refine (send_line M g base row l1 C1 i f t k A n c l w h1 hok hn (hr.more (by omega)) hA (fun q o hq h0 => ?_) hC hl1 hl2).mono ?_
  · have hqb : q < base := by
      rcases hr with h | ⟨q', o', e', hq', _⟩
      · exact absurd h h0
      · rw [hq] at e'; injection e' with e'; injection e' with e'; omega
    exact ⟨by omega, fun x => by have := (e.2.2.2.2.1 q x.symm).1; omega⟩
  · rintro e w' ⟨row', rfl, L', T, hr'⟩
    have := J.left (Y := []) h1 h2 h3 h L' T (fun _ h => .inl h) (plus_new (lineMr h1) hr') hr' (fun p hp => by cases hp)
    exact ⟨row', rfl, by simpa using this, T⟩
theorem rsendJ {w : World} {g gr base : Nat} {row rr : Option Nat} {l1 l2 : Int} {C1 C2 : List Cn} {X : List (Value × List UInt8)} (h : J w g gr base row rr l1 C1 l2 C2 X) (i f t k : Int) (A : Option Addr) (n c : Nat) (l : List UInt8) (hok : okB f t k n = true) (hn : n = l.length) (hr : Rd w base A l) (hC : C2.length < 1000) (hl1 : 0 ≤ l2) (hl2 : l2 < 4611686018427387904) :
    Calls Try.prog 12 #[.pointer (some ⟨gr, 0, none⟩), .agg #[.int .i64 i, .int .i64 f, .int .i64 t, .int .i64 k, .slice A n c]] w fun e w' => ∃ rr', e = .returned (.tuple #[.int .i64 (l2 + 1), .int .i64 0]) ∧ J w' g gr base row rr' l1 C1 (l2 + 1) (C2 ++ [(l2 + 1, f, t, k, l)]) X ∧ Two gr rr w w' := by
  obtain ⟨M, h1, h2, h3⟩ := h.lines
  have e := h.lt
  refine (rsend_line M gr base rr l2 C2 i f t k A n c l w h2 hok hn (hr.more (by omega)) (fun q o hq h0 => ?_) hC hl1 hl2).mono ?_
  · have hqb : q < base := by
      rcases hr with h | ⟨q', o', e', hq', _⟩
      · exact absurd h h0
      · rw [hq] at e'; injection e' with e'; injection e' with e'; omega
    exact ⟨by omega, fun x => by have := (e.2.2.2.2.2 q x.symm).1; omega⟩
  · rintro e w' ⟨row', rfl, L', T, hr'⟩
    have := J.right (Y := []) h1 h2 h3 h L' T (fun _ h => .inl h) (plus_new (rlineMr h2) hr') hr' (fun p hp => by cases hp)
    exact ⟨row', rfl, by simpa using this, T⟩
theorem deliverJ {w : World} {g gr base : Nat} {row rr : Option Nat} {l1 l2 : Int} {C1 C2 : List Cn} {X : List (Value × List UInt8)} (h : J w g gr base row rr l1 C1 l2 C2 X) (x : Int) (hG : GoodC C1 l1) (hl : l1 < 4611686018427387904) (hlen : C1.length ≤ 1000) (hx : -9223372036854775808 ≤ x ∧ x ≤ 9223372036854775807) (h0 : ∃ c ∈ C1, c.1 = x) :
    Calls Try.prog 13 #[.pointer (some ⟨g, 0, none⟩), .int .i64 x] w fun e w' => ∃ (k : Nat) (c : Cn) (v : Value), C1[k]? = some c ∧ c.1 = x ∧ e = .returned (.tuple #[cnV c v, .int .i64 0]) ∧ J w' g gr base row rr l1 (C1.eraseIdx k) l2 C2 (X ++ [(v, c.2.2.2.2)]) ∧ Two g row w w' := by
  obtain ⟨M, h1, h2, h3⟩ := h.lines
  refine (deliver_line M g base row l1 C1 x w h1 hG hl hlen hx h0).mono ?_
  rintro e w' ⟨k, c, v, hk, hc, rfl, L', T, hB⟩
  exact ⟨k, c, v, hk, hc, rfl, J.left h1 h2 h3 h L' T (fun _ h => h) (fun _ h => .inl h) (.inl rfl) (fun p hp => by rw [List.mem_singleton.1 hp]; exact hB), T⟩
theorem rdeliverJ {w : World} {g gr base : Nat} {row rr : Option Nat} {l1 l2 : Int} {C1 C2 : List Cn} {X : List (Value × List UInt8)} (h : J w g gr base row rr l1 C1 l2 C2 X) (x : Int) (hG : GoodC C2 l2) (hlen : C2.length ≤ 1000) (h0 : ∃ c ∈ C2, c.1 = x) :
    Calls Try.prog 14 #[.pointer (some ⟨gr, 0, none⟩), .int .i64 x] w fun e w' => ∃ (k : Nat) (c : Cn) (v : Value) (rr' : Option Nat), C2[k]? = some c ∧ c.1 = x ∧ e = .returned (.tuple #[cnV c v, .int .i64 0]) ∧ J w' g gr base row rr' l1 C1 l2 (C2.eraseIdx k) (X ++ [(v, c.2.2.2.2)]) ∧ Two gr rr w w' := by
  obtain ⟨M, h1, h2, h3⟩ := h.lines
  refine (rdeliver_line M gr base rr l2 C2 x w h2 hG hlen h0).mono ?_
  rintro e w' ⟨k, c, v, rr', hk, hc, rfl, L', T, hB, hr'⟩
  exact ⟨k, c, v, rr', hk, hc, rfl, J.right h1 h2 h3 h L' T (fun _ h => .inl h) (plus_new (rlineMr h2) (.inr hr')) (.inr hr') (fun p hp => by rw [List.mem_singleton.1 hp]; exact hB), T⟩
theorem dropJ {w : World} {g gr base : Nat} {row rr : Option Nat} {l1 l2 : Int} {C1 C2 : List Cn} {X : List (Value × List UInt8)} (h : J w g gr base row rr l1 C1 l2 C2 X) (x : Int) (hG : GoodC C1 l1) (hl : l1 < 4611686018427387904) (hlen : C1.length ≤ 1000) (hx : -9223372036854775808 ≤ x ∧ x ≤ 9223372036854775807) (h0 : ∃ c ∈ C1, c.1 = x) :
    Calls Try.prog 16 #[.pointer (some ⟨g, 0, none⟩), .int .i64 x] w fun e w' => ∃ (k : Nat) (c : Cn), C1[k]? = some c ∧ c.1 = x ∧ e = .returned (.int .i64 0) ∧ J w' g gr base row rr l1 (C1.eraseIdx k) l2 C2 X ∧ Two g row w w' := by
  obtain ⟨M, h1, h2, h3⟩ := h.lines
  refine (drop_line M g base row l1 C1 x w h1 hG hl hlen hx h0).mono ?_
  rintro e w' ⟨k, c, hk, hc, rfl, L', T⟩
  have := J.left (Y := []) h1 h2 h3 h L' T (fun _ h => h) (fun _ h => .inl h) (.inl rfl) (fun p hp => by cases hp)
  exact ⟨k, c, hk, hc, rfl, by simpa using this, T⟩
theorem rdropJ {w : World} {g gr base : Nat} {row rr : Option Nat} {l1 l2 : Int} {C1 C2 : List Cn} {X : List (Value × List UInt8)} (h : J w g gr base row rr l1 C1 l2 C2 X) (x : Int) (hG : GoodC C2 l2) (hlen : C2.length ≤ 1000) (h0 : ∃ c ∈ C2, c.1 = x) :
    Calls Try.prog 17 #[.pointer (some ⟨gr, 0, none⟩), .int .i64 x] w fun e w' => ∃ (k : Nat) (c : Cn) (rr' : Option Nat), C2[k]? = some c ∧ c.1 = x ∧ e = .returned (.int .i64 0) ∧ J w' g gr base row rr' l1 C1 l2 (C2.eraseIdx k) X ∧ Two gr rr w w' := by
  obtain ⟨M, h1, h2, h3⟩ := h.lines
  refine (rdrop_line M gr base rr l2 C2 x w h2 hG hlen h0).mono ?_
  rintro e w' ⟨k, c, rr', hk, hc, rfl, L', T, hr'⟩
  have := J.right (Y := []) h1 h2 h3 h L' T (fun _ h => .inl h) (plus_new (rlineMr h2) (.inr hr')) (.inr hr') (fun p hp => by cases hp)
  exact ⟨k, c, rr', hk, hc, rfl, by simpa using this, T⟩
theorem doubleJ {w : World} {g gr base : Nat} {row rr : Option Nat} {l1 l2 : Int} {C1 C2 : List Cn} {X : List (Value × List UInt8)} (h : J w g gr base row rr l1 C1 l2 C2 X) (x : Int) (hG : GoodC C1 l1) (hl0 : 0 ≤ l1) (hl : l1 < 4611686018427387904) (hlen : C1.length < 1000) (hx : -9223372036854775808 ≤ x ∧ x ≤ 9223372036854775807) (h0 : ∃ c ∈ C1, c.1 = x) :
    Calls Try.prog 18 #[.pointer (some ⟨g, 0, none⟩), .int .i64 x] w fun e w' => ∃ (c : Cn) (row' : Option Nat), c ∈ C1 ∧ c.1 = x ∧ e = .returned (.tuple #[.int .i64 (l1 + 1), .int .i64 0]) ∧ J w' g gr base row' rr (l1 + 1) (C1 ++ [(l1 + 1, c.2)]) l2 C2 X ∧ Two g row w w' := by
  obtain ⟨M, h1, h2, h3⟩ := h.lines
  refine (double_line M g base row l1 C1 x w h1 hG hl0 hl hlen hx h0).mono ?_
  rintro e w' ⟨c, row', hm, hc, rfl, L', T, hr'⟩
  have := J.left (Y := []) h1 h2 h3 h L' T (fun _ h => .inl h) (plus_new (lineMr h1) hr') hr' (fun p hp => by cases hp)
  exact ⟨c, row', hm, hc, rfl, by simpa using this, T⟩
theorem rdoubleJ {w : World} {g gr base : Nat} {row rr : Option Nat} {l1 l2 : Int} {C1 C2 : List Cn} {X : List (Value × List UInt8)} (h : J w g gr base row rr l1 C1 l2 C2 X) (x : Int) (hG : GoodC C2 l2) (hl0 : 0 ≤ l2) (hl : l2 < 4611686018427387904) (hlen : C2.length < 1000) (h0 : ∃ c ∈ C2, c.1 = x) :
    Calls Try.prog 19 #[.pointer (some ⟨gr, 0, none⟩), .int .i64 x] w fun e w' => ∃ (c : Cn) (rr' : Option Nat), c ∈ C2 ∧ c.1 = x ∧ e = .returned (.tuple #[.int .i64 (l2 + 1), .int .i64 0]) ∧ J w' g gr base row rr' l1 C1 (l2 + 1) (C2 ++ [(l2 + 1, c.2)]) X ∧ Two gr rr w w' := by
  obtain ⟨M, h1, h2, h3⟩ := h.lines
  refine (rdouble_line M gr base rr l2 C2 x w h2 hG hl0 hl hlen h0).mono ?_
  rintro e w' ⟨c, rr', hm, hc, rfl, L', T, hr'⟩
  have := J.right (Y := []) h1 h2 h3 h L' T (fun _ h => .inl h) (plus_new (rlineMr h2) hr') hr' (fun p hp => by cases hp)
  exact ⟨c, rr', hm, hc, rfl, by simpa using this, T⟩
/-- numbers tell the places -/
theorem GoodC.one {C : List Cn} {last : Int} (h : GoodC C last) {i j : Nat} {a b : Cn} (hi : C[i]? = some a) (hj : C[j]? = some b) (e : a.1 = b.1) : i = j ∧ a = b := by
  obtain ⟨hi', rfl⟩ := List.getElem?_eq_some_iff.1 hi
  obtain ⟨hj', rfl⟩ := List.getElem?_eq_some_iff.1 hj
  have hp := List.pairwise_iff_getElem.1 h.1
  have hij : i = j := by
    rcases Nat.lt_trichotomy i j with h | h | h
    · have := hp i j hi' hj' h; omega
    · exact h
    · have := hp j i hj' hi' h; omega
  subst hij
  exact ⟨rfl, rfl⟩
theorem GoodC.oneM {C : List Cn} {last : Int} (h : GoodC C last) {a b : Cn} (hi : a ∈ C) (hj : b ∈ C) (e : a.1 = b.1) : a = b := by
  obtain ⟨i, hi', rfl⟩ := List.getElem_of_mem hi
  obtain ⟨j, hj', rfl⟩ := List.getElem_of_mem hj
  exact (h.one (List.getElem?_eq_getElem hi') (List.getElem?_eq_getElem hj') e).2
end Go.Proofs.Ytekgmgiokmbliaa
