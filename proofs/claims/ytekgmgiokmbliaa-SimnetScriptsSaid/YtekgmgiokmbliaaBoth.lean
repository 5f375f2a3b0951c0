/-
  Two lines side by side, the program's and the reference's, by what they hold.
-/
import Derived.Test.YtekgmgiokmbliaaRefE
import Derived.Test.YtekgmgiokmbliaaSame
set_option linter.unusedVariables false
namespace Go.Proofs.Ytekgmgiokmbliaa
open Go.RowKit

theorem plus_new {w : World} {M : Nat → Prop} {row row' : Option Nat} (hMr : ∀ r, row = some r → M r) (hr : row' = row ∨ ∀ r, row' = some r → w.heap.size ≤ r) : ∀ b, plus M row' b → M b ∨ w.heap.size ≤ b := by
  rintro b (h | h)
  · exact .inl h
  · rcases hr with h' | h'
    · exact .inl (hMr b (h'.symm.trans h))
    · exact .inr (h' b h)

theorem rdeliver_line (M : Nat → Prop) (g base : Nat) (row : Option Nat) (last : Int) (C : List Cn) (x : Int) (w : World) (hL : RLine w M g base row last C) (hG : GoodC C last) (hlen : C.length ≤ 1000) (h0 : ∃ c ∈ C, c.1 = x) :
    Calls Try.prog 14 #[.pointer (some ⟨g, 0, none⟩), .int .i64 x] w fun e w' => ∃ (k : Nat) (c : Cn) (v : Value) (row' : Option Nat), C[k]? = some c ∧ c.1 = x ∧ e = .returned (.tuple #[cnV c v, .int .i64 0]) ∧ RLine w' (plus M row') g base row' last (C.eraseIdx k) ∧ Two g row w w' ∧ Bod w' (plus M row') v c.2.2.2.2 ∧ ∀ r, row' = some r → w.heap.size ≤ r := by
  obtain ⟨fv, P, hN, rfl, rfl, hB, hMg, hMr, hM⟩ := hL
  refine (rdeliver_ok g base last fv _ x w hN (by simpa using hlen) (some_of h0) (fine_of hG hB).slices).mono ?_
  rintro e w' ⟨k, fv', hk, hkx, rfl, N', hrow, T⟩
  have hk : k < P.length := by simpa using hk
  rw [evAt_map hk] at hkx
  rw [evAt_map hk]
  have hp := plus_new (M := M) (row := fv.ownBlock) hMr (.inr hrow)
  refine ⟨k, cn P[k], P[k].1.2.2.2.2, fv'.ownBlock, by rw [List.getElem?_map, List.getElem?_eq_getElem hk]; rfl, hkx, rfl, ⟨fv', P.eraseIdx k, by rw [← erase_map]; exact N', rfl, by rw [erase_map], fun p hp' => (hB p ((List.eraseIdx_sublist P k).subset hp')).move (T.fr hMg hMr) hp, .inl hMg, fun r hr => .inr hr, ?_⟩, T, (hB _ (List.getElem_mem hk)).move (T.fr hMg hMr) hp, hrow⟩
  rintro b (h | h)
  · exact Nat.lt_of_lt_of_le (hM b h) T.size
  · exact (World.ownsRow.lt N'.own b h).2
theorem rdeliver_line_none (M : Nat → Prop) (g base : Nat) (row : Option Nat) (last : Int) (C : List Cn) (x : Int) (w : World) (hL : RLine w M g base row last C) (hlen : C.length ≤ 1000) (h0 : ∀ c ∈ C, c.1 ≠ x) :
    Calls Try.prog 14 #[.pointer (some ⟨g, 0, none⟩), .int .i64 x] w fun e w' => e = .returned (.tuple #[.agg #[.int .i64 0, .int .i64 0, .int .i64 0, .int .i64 0, .slice none 0 0], .int .i64 91]) ∧ Below w.heap.size w w' := by
  obtain ⟨fv, P, hN, rfl, rfl, hB, hMg, hMr, hM⟩ := hL
  exact rdeliver_none g base last fv _ x w hN (by simpa using hlen) (none_of h0)
theorem rdrop_line_none (M : Nat → Prop) (g base : Nat) (row : Option Nat) (last : Int) (C : List Cn) (x : Int) (w : World) (hL : RLine w M g base row last C) (hlen : C.length ≤ 1000) (h0 : ∀ c ∈ C, c.1 ≠ x) :
    Calls Try.prog 17 #[.pointer (some ⟨g, 0, none⟩), .int .i64 x] w fun e w' => e = .returned (.int .i64 91) ∧ Below w.heap.size w w' := by
  obtain ⟨fv, P, hN, rfl, rfl, hB, hMg, hMr, hM⟩ := hL
  exact rdrop_none g base last fv _ x w hN (by simpa using hlen) (none_of h0)
theorem rdrop_line (M : Nat → Prop) (g base : Nat) (row : Option Nat) (last : Int) (C : List Cn) (x : Int) (w : World) (hL : RLine w M g base row last C) (hG : GoodC C last) (hlen : C.length ≤ 1000) (h0 : ∃ c ∈ C, c.1 = x) :
    Calls Try.prog 17 #[.pointer (some ⟨g, 0, none⟩), .int .i64 x] w fun e w' => ∃ (k : Nat) (c : Cn) (row' : Option Nat), C[k]? = some c ∧ c.1 = x ∧ e = .returned (.int .i64 0) ∧ RLine w' (plus M row') g base row' last (C.eraseIdx k) ∧ Two g row w w' ∧ ∀ r, row' = some r → w.heap.size ≤ r := by
  obtain ⟨fv, P, hN, rfl, rfl, hB, hMg, hMr, hM⟩ := hL
  refine (rdrop_ok g base last fv _ x w hN (by simpa using hlen) (some_of h0) (fine_of hG hB).slices).mono ?_
  rintro e w' ⟨k, fv', hk, hkx, rfl, N', hrow, T⟩
  have hk : k < P.length := by simpa using hk
  rw [evAt_map hk] at hkx
  have hp := plus_new (M := M) (row := fv.ownBlock) hMr (.inr hrow)
  refine ⟨k, cn P[k], fv'.ownBlock, by rw [List.getElem?_map, List.getElem?_eq_getElem hk]; rfl, hkx, rfl, ⟨fv', P.eraseIdx k, by rw [← erase_map]; exact N', rfl, by rw [erase_map], fun p hp' => (hB p ((List.eraseIdx_sublist P k).subset hp')).move (T.fr hMg hMr) hp, .inl hMg, fun r hr => .inr hr, ?_⟩, T, hrow⟩
  rintro b (h | h)
  · exact Nat.lt_of_lt_of_le (hM b h) T.size
  · exact (World.ownsRow.lt N'.own b h).2
theorem rdouble_line_none (M : Nat → Prop) (g base : Nat) (row : Option Nat) (last : Int) (C : List Cn) (x : Int) (w : World) (hL : RLine w M g base row last C) (hlen : C.length ≤ 1000) (h0 : ∀ c ∈ C, c.1 ≠ x) :
    Calls Try.prog 19 #[.pointer (some ⟨g, 0, none⟩), .int .i64 x] w fun e w' => e = .returned (.tuple #[.int .i64 0, .int .i64 91]) ∧ Below w.heap.size w w' := by
  obtain ⟨fv, P, hN, rfl, rfl, hB, hMg, hMr, hM⟩ := hL
  exact rdouble_none g base last fv _ x w hN (by simpa using hlen) (none_of h0)
theorem rsend_line_full (M : Nat → Prop) (g base : Nat) (row : Option Nat) (last : Int) (C : List Cn) (i f t k : Int) (A : Option Addr) (n c : Nat) (w : World) (hL : RLine w M g base row last C) (hok : okB f t k n = true) (hC : 1000 ≤ C.length) :
    Calls Try.prog 12 #[.pointer (some ⟨g, 0, none⟩), .agg #[.int .i64 i, .int .i64 f, .int .i64 t, .int .i64 k, .slice A n c]] w fun e w' => e = .returned (.tuple #[.int .i64 0, .int .i64 90]) ∧ Below w.heap.size w w' := by
  obtain ⟨fv, P, hN, rfl, rfl, hB, hMg, hMr, hM⟩ := hL
  simp only [okB, Bool.and_eq_true, decide_eq_true_eq] at hok
  obtain ⟨⟨⟨h1, h2⟩, h3⟩, h4⟩ := hok
  exact rsend_full g base last fv _ i f t k A n c w hN h1 h2 h3.1 h3.2 h4 (by simpa using hC)
theorem send_line_full (M : Nat → Prop) (g base : Nat) (row : Option Nat) (last : Int) (C : List Cn) (i f t k : Int) (A : Option Addr) (n c : Nat) (w : World) (hL : Line w M g base row last C) (hok : okB f t k n = true) (hC : 1000 ≤ C.length) :
    Calls Try.prog 11 #[.pointer (some ⟨g, 0, none⟩), .agg #[.int .i64 i, .int .i64 f, .int .i64 t, .int .i64 k, .slice A n c]] w fun e w' => e = .returned (.tuple #[.int .i64 0, .int .i64 90]) ∧ Below w.heap.size w w' := by
  obtain ⟨fv, P, hN, rfl, rfl, hB, hMg, hMr, hM⟩ := hL
  simp only [okB, Bool.and_eq_true, decide_eq_true_eq] at hok
  obtain ⟨⟨⟨h1, h2⟩, h3⟩, h4⟩ := hok
  exact send_full g base last fv _ i f t k A n c w hN h1 h2 h3.1 h3.2 h4 (by simpa using hC)
theorem Bod.parts {w : World} {M : Nat → Prop} {v : Value} {l : List UInt8} (h : Bod w M v l) : ∃ A c, v = .slice A l.length c ∧ l.length ≤ 1048576 ∧ Rd w w.heap.size A l ∧ (A = none → c = 0) ∧ ∀ q o, A = some ⟨q, o, none⟩ → l ≠ [] → ¬ M q := h
theorem GoodC.okB {C : List Cn} {last : Int} (h : GoodC C last) {c : Cn} (hc : c ∈ C) : okB c.2.1 c.2.2.1 c.2.2.2.1 c.2.2.2.2.length = true := by
  obtain ⟨_, g1, g2, g3, g4⟩ := h.2 c hc
  simp only [Go.Proofs.Ytekgmgiokmbliaa.okB, g1, g2, Bool.true_and, Bool.and_eq_true, decide_eq_true_eq]
  exact ⟨g3, g4⟩

theorem rdouble_line_full (M : Nat → Prop) (g base : Nat) (row : Option Nat) (last : Int) (C : List Cn) (x : Int) (w : World) (hL : RLine w M g base row last C) (hG : GoodC C last) (hlen : C.length = 1000) (h0 : ∃ c ∈ C, c.1 = x) :
    Calls Try.prog 19 #[.pointer (some ⟨g, 0, none⟩), .int .i64 x] w fun e w' => e = .returned (.tuple #[.int .i64 0, .int .i64 90]) ∧ Below w.heap.size w w' := by
  have hL' := hL
  obtain ⟨fv, P, hN, rfl, rfl, hB, hMg, hMr, hM⟩ := hL
  refine rdouble_as g base last fv _ x w hN (by simp at hlen ⊢; omega) (some_of h0) (fine_of hG hB).slices (fun k hk hkx => ?_)
  have hk : k < P.length := by simpa using hk
  rw [evAt_map hk]
  obtain ⟨sA, sc, hv, hl, hrd, hA, hAq⟩ := (hB _ (List.getElem_mem hk)).parts
  have hok := hG.okB (c := cn P[k]) (List.mem_map.2 ⟨_, List.getElem_mem hk, rfl⟩)
  rw [evV, hv]
  refine (rsend_line_full M g base _ last _ _ _ _ _ sA _ sc w hL' hok (by omega)).mono ?_
  rintro e w' ⟨rfl, h⟩
  exact ⟨⟨0, 90, rfl⟩, rfl, h⟩
theorem rdouble_line (M : Nat → Prop) (g base : Nat) (row : Option Nat) (last : Int) (C : List Cn) (x : Int) (w : World) (hL : RLine w M g base row last C) (hG : GoodC C last) (hl0 : 0 ≤ last) (hl : last < 4611686018427387904) (hlen : C.length < 1000) (h0 : ∃ c ∈ C, c.1 = x) :
    Calls Try.prog 19 #[.pointer (some ⟨g, 0, none⟩), .int .i64 x] w fun e w' => ∃ (c : Cn) (row' : Option Nat), c ∈ C ∧ c.1 = x ∧ e = .returned (.tuple #[.int .i64 (last + 1), .int .i64 0]) ∧ RLine w' (plus M row') g base row' (last + 1) (C ++ [(last + 1, c.2)]) ∧ Two g row w w' ∧ (row' = row ∨ ∀ r, row' = some r → w.heap.size ≤ r) := by
  have hL' := hL
  obtain ⟨fv, P, hN, rfl, rfl, hB, hMg, hMr, hM⟩ := hL
  refine rdouble_as g base last fv _ x w hN (by simp at hlen ⊢; omega) (some_of h0) (fine_of hG hB).slices (fun k hk hkx => ?_)
  have hk : k < P.length := by simpa using hk
  rw [evAt_map hk] at hkx
  rw [evAt_map hk]
  obtain ⟨sA, sc, hv, hln, hrd, hA, hAq⟩ := (hB _ (List.getElem_mem hk)).parts
  have hm : cn P[k] ∈ P.map cn := List.mem_map.2 ⟨_, List.getElem_mem hk, rfl⟩
  have hok := hG.okB hm
  rw [evV, hv]
  refine (rsend_line M g base _ last _ _ _ _ _ sA _ sc _ w hL' hok rfl hrd (fun q o h1 h2 => ⟨fun e => hAq q o h1 h2 (e ▸ hMg), fun e => hAq q o h1 h2 (hMr q e.symm)⟩) hlen hl0 hl).mono ?_
  rintro e w' ⟨row', rfl, L', T', hr⟩
  exact ⟨⟨_, _, rfl⟩, cn P[k], row', hm, hkx, rfl, L', T', hr⟩
end Go.Proofs.Ytekgmgiokmbliaa
