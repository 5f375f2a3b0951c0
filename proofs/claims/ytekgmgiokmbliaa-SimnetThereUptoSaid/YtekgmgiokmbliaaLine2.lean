/-
  Deliver, Drop, Double by contents.
-/
import Derived.Test.YtekgmgiokmbliaaLine
set_option linter.unusedVariables false
namespace Go.Proofs.Ytekgmgiokmbliaa
open Go.RowKit

/-- an envelope with this body -/
def cnV (c : Cn) (v : Value) : Value := .agg #[.int .i64 c.1, .int .i64 c.2.1, .int .i64 c.2.2.1, .int .i64 c.2.2.2.1, v]
theorem erase_map {α β : Type} (f : α → β) (l : List α) (k : Nat) : (l.map f).eraseIdx k = (l.eraseIdx k).map f := by
  simp only [List.eraseIdx_eq_take_drop_succ, List.map_append, List.map_take, List.map_drop]
theorem none_of {P : List (Ev × List UInt8)} {x : Int} (h : ∀ c ∈ P.map cn, c.1 ≠ x) : ∀ e ∈ P.map (·.1), e.1 ≠ x := fun e he => by
  obtain ⟨p, hp, rfl⟩ := List.mem_map.1 he
  exact h (cn p) (List.mem_map.2 ⟨p, hp, rfl⟩)
theorem some_of {P : List (Ev × List UInt8)} {x : Int} (h : ∃ c ∈ P.map cn, c.1 = x) : ∃ e ∈ P.map (·.1), e.1 = x := by
  obtain ⟨c, hc, rfl⟩ := h
  obtain ⟨p, hp, rfl⟩ := List.mem_map.1 hc
  exact ⟨p.1, List.mem_map.2 ⟨p, hp, rfl⟩, rfl⟩
theorem evAt_map {P : List (Ev × List UInt8)} {k : Nat} (hk : k < P.length) : evAt (P.map (·.1)) k = P[k].1 := by
  unfold evAt
  rw [List.getD_eq_getElem?_getD, List.getElem?_eq_getElem (by simpa using hk)]
  simp

theorem deliver_line_none (M : Nat → Prop) (g base : Nat) (row : Option Nat) (last : Int) (C : List Cn) (x : Int) (w : World) (hL : Line w M g base row last C) (hG : GoodC C last) (hl : last < 4611686018427387904) (hlen : C.length ≤ 1000) (hx : -9223372036854775808 ≤ x ∧ x ≤ 9223372036854775807) (h0 : ∀ c ∈ C, c.1 ≠ x) :
    Calls Try.prog 13 #[.pointer (some ⟨g, 0, none⟩), .int .i64 x] w fun e w' => e = .returned (.tuple #[.agg #[.int .i64 0, .int .i64 0, .int .i64 0, .int .i64 0, .slice none 0 0], .int .i64 91]) ∧ Below w.heap.size w w' := by
  obtain ⟨fv, P, hN, rfl, rfl, hB, hMg, hMr, hM⟩ := hL
  exact deliver_none g base last fv _ x w hN (hG.rise hl) (by simpa using hlen) hx (none_of h0)

theorem deliver_line (M : Nat → Prop) (g base : Nat) (row : Option Nat) (last : Int) (C : List Cn) (x : Int) (w : World) (hL : Line w M g base row last C) (hG : GoodC C last) (hl : last < 4611686018427387904) (hlen : C.length ≤ 1000) (hx : -9223372036854775808 ≤ x ∧ x ≤ 9223372036854775807) (h0 : ∃ c ∈ C, c.1 = x) :
    Calls Try.prog 13 #[.pointer (some ⟨g, 0, none⟩), .int .i64 x] w fun e w' => ∃ (k : Nat) (c : Cn) (v : Value), C[k]? = some c ∧ c.1 = x ∧ e = .returned (.tuple #[cnV c v, .int .i64 0]) ∧ Line w' M g base row last (C.eraseIdx k) ∧ Two g row w w' ∧ Bod w' M v c.2.2.2.2 := by
  obtain ⟨fv, P, hN, rfl, rfl, hB, hMg, hMr, hM⟩ := hL
  refine (deliver_ok g base last fv _ x w hN (hG.rise hl) (by simpa using hlen) hx (some_of h0) (fine_of hG hB).slices).mono ?_
  rintro e w' ⟨k, fv', hk, hkx, rfl, N', hrow, T⟩
  have hk : k < P.length := by simpa using hk
  rw [evAt_map hk] at hkx
  rw [evAt_map hk]
  refine ⟨k, cn P[k], P[k].1.2.2.2.2, by rw [List.getElem?_map, List.getElem?_eq_getElem hk]; rfl, hkx, rfl, ⟨fv', P.eraseIdx k, by rw [← erase_map]; exact N', hrow, by rw [erase_map], fun p hp => (hB p ((List.eraseIdx_sublist P k).subset hp)).move (T.fr hMg hMr) (fun _ h => .inl h), hMg, hMr, fun b h => Nat.lt_of_lt_of_le (hM b h) T.size⟩, T, (hB _ (List.getElem_mem hk)).move (T.fr hMg hMr) (fun _ h => .inl h)⟩

theorem drop_line_none (M : Nat → Prop) (g base : Nat) (row : Option Nat) (last : Int) (C : List Cn) (x : Int) (w : World) (hL : Line w M g base row last C) (hG : GoodC C last) (hl : last < 4611686018427387904) (hlen : C.length ≤ 1000) (hx : -9223372036854775808 ≤ x ∧ x ≤ 9223372036854775807) (h0 : ∀ c ∈ C, c.1 ≠ x) :
    Calls Try.prog 16 #[.pointer (some ⟨g, 0, none⟩), .int .i64 x] w fun e w' => e = .returned (.int .i64 91) ∧ Below w.heap.size w w' := by
  obtain ⟨fv, P, hN, rfl, rfl, hB, hMg, hMr, hM⟩ := hL
  exact drop_none g base last fv _ x w hN (hG.rise hl) (by simpa using hlen) hx (none_of h0)

theorem drop_line (M : Nat → Prop) (g base : Nat) (row : Option Nat) (last : Int) (C : List Cn) (x : Int) (w : World) (hL : Line w M g base row last C) (hG : GoodC C last) (hl : last < 4611686018427387904) (hlen : C.length ≤ 1000) (hx : -9223372036854775808 ≤ x ∧ x ≤ 9223372036854775807) (h0 : ∃ c ∈ C, c.1 = x) :
    Calls Try.prog 16 #[.pointer (some ⟨g, 0, none⟩), .int .i64 x] w fun e w' => ∃ (k : Nat) (c : Cn), C[k]? = some c ∧ c.1 = x ∧ e = .returned (.int .i64 0) ∧ Line w' M g base row last (C.eraseIdx k) ∧ Two g row w w' := by
  obtain ⟨fv, P, hN, rfl, rfl, hB, hMg, hMr, hM⟩ := hL
  refine (drop_ok g base last fv _ x w hN (hG.rise hl) (by simpa using hlen) hx (some_of h0) (fine_of hG hB).slices).mono ?_
  rintro e w' ⟨k, fv', hk, hkx, rfl, N', hrow, T⟩
  have hk : k < P.length := by simpa using hk
  rw [evAt_map hk] at hkx
  refine ⟨k, cn P[k], by rw [List.getElem?_map, List.getElem?_eq_getElem hk]; rfl, hkx, rfl, ⟨fv', P.eraseIdx k, by rw [← erase_map]; exact N', hrow, by rw [erase_map], fun p hp => (hB p ((List.eraseIdx_sublist P k).subset hp)).move (T.fr hMg hMr) (fun _ h => .inl h), hMg, hMr, fun b h => Nat.lt_of_lt_of_le (hM b h) T.size⟩, T⟩

theorem double_line_none (M : Nat → Prop) (g base : Nat) (row : Option Nat) (last : Int) (C : List Cn) (x : Int) (w : World) (hL : Line w M g base row last C) (hG : GoodC C last) (hl : last < 4611686018427387904) (hlen : C.length ≤ 1000) (hx : -9223372036854775808 ≤ x ∧ x ≤ 9223372036854775807) (h0 : ∀ c ∈ C, c.1 ≠ x) :
    Calls Try.prog 18 #[.pointer (some ⟨g, 0, none⟩), .int .i64 x] w fun e w' => e = .returned (.tuple #[.int .i64 0, .int .i64 91]) ∧ Below w.heap.size w w' := by
  obtain ⟨fv, P, hN, rfl, rfl, hB, hMg, hMr, hM⟩ := hL
  exact double_none g base last fv _ x w hN (hG.rise hl) (by simpa using hlen) hx (none_of h0)

theorem double_line_full (M : Nat → Prop) (g base : Nat) (row : Option Nat) (last : Int) (C : List Cn) (x : Int) (w : World) (hL : Line w M g base row last C) (hG : GoodC C last) (hl : last < 4611686018427387904) (hlen : C.length = 1000) (hx : -9223372036854775808 ≤ x ∧ x ≤ 9223372036854775807) (h0 : ∃ c ∈ C, c.1 = x) :
    Calls Try.prog 18 #[.pointer (some ⟨g, 0, none⟩), .int .i64 x] w fun e w' => e = .returned (.tuple #[.int .i64 0, .int .i64 90]) ∧ Below w.heap.size w w' := by
  obtain ⟨fv, P, hN, rfl, rfl, hB, hMg, hMr, hM⟩ := hL
  exact double_full g base last fv _ x w hN (hG.rise hl) (by simpa using hlen) hx (some_of h0) (fine_of hG hB)

theorem Two.trans {g : Nat} {row : Option Nat} {a b c : World} (h : Two g row a b) (k : Two g row b c) : Two g row a c :=
  ⟨k.os.trans h.os, k.tape.trans h.tape, k.output.trans h.output, Nat.le_trans h.size k.size, fun i hi h1 h2 => (k.block i (Nat.lt_of_lt_of_le hi h.size) h1 h2).trans (h.block i hi h1 h2)⟩

set_option maxHeartbeats 1600000 in
set_option maxRecDepth 100000 in
theorem double_line (M : Nat → Prop) (g base : Nat) (row : Option Nat) (last : Int) (C : List Cn) (x : Int) (w : World) (hL : Line w M g base row last C) (hG : GoodC C last) (hl0 : 0 ≤ last) (hl : last < 4611686018427387904) (hlen : C.length < 1000) (hx : -9223372036854775808 ≤ x ∧ x ≤ 9223372036854775807) (h0 : ∃ c ∈ C, c.1 = x) :
    Calls Try.prog 18 #[.pointer (some ⟨g, 0, none⟩), .int .i64 x] w fun e w' => ∃ (c : Cn) (row' : Option Nat), c ∈ C ∧ c.1 = x ∧ e = .returned (.tuple #[.int .i64 (last + 1), .int .i64 0]) ∧ Line w' (plus M row') g base row' (last + 1) (C ++ [(last + 1, c.2)]) ∧ Two g row w w' ∧ (row' = row ∨ ∀ r, row' = some r → w.heap.size ≤ r) := by
  have hL' := hL
  obtain ⟨fv, P, hN, rfl, rfl, hB, hMg, hMr, hM⟩ := hL
  have FA := Lib.hid (find_any g base last fv _ x w hN (hG.rise hl) (by simp at hlen ⊢; omega) hx)
  have H0 := Lib.hid (some_of h0)
  have HG := Lib.hid hG
  have HB := Lib.hid hB
  have HLen := Lib.hid hlen
  have HL := Lib.hid hL'
  have SL := Lib.hid (fun i f t k A n c l w' hL => send_line M g base fv.ownBlock last (P.map cn) i f t k A n c l w' hL)
  obtain ⟨fA, fc, rfl⟩ := hN.own.form
  obtain ⟨n, hn⟩ : ∃ n, n = (P.map (·.1)).length := ⟨_, rfl⟩
  have NW := hN
  have HX0 := Lib.hid hl0
  have HMg := Lib.hid hMg
  have HMr := Lib.hid hMr
  clear hMg hMr hM
  have HX1 := Lib.hid hl
  clear hN hx h0 hG hB hlen hL' hl0 hl
  go_enter Try.func18, Try.ntmps18
  go_wp2_with fail
  refine FA.out.mono ?_
  rintro e w2 ⟨k, ok, rfl, hF, h2⟩
  cases ok with
  | false =>
    obtain ⟨e, he, hx⟩ := H0.out
    exact absurd hx (hF.2 rfl e he)
  | true =>
    obtain ⟨hk, hkx⟩ := hF.1 rfl
    have N2 := NW.below h2
    have hk1 := N2.c1.1
    rcases N2.own.evs with h0 | ⟨q, rfl, hq, hc⟩
    · rw [h0] at hk; simp at hk
    obtain ⟨c0, c1, c2, c3, c4⟩ := hc k hk
    have hkP : k < P.length := by simpa using hk
    rw [evAt_map hkP] at c0 c1 c2 c3 c4 hkx
    have HP := Lib.hid (List.getElem_mem hkP)
    obtain ⟨p, hp⟩ : ∃ p, p = P[k] := ⟨_, rfl⟩
    rw [← hp] at c0 c1 c2 c3 c4 hkx HP
    have hBp := (HB.out p HP.out).move (Below.fr h2) (fun _ h => .inl h)
    have hGp := HG.out.2 (cn p) (List.mem_map.2 ⟨p, HP.out, rfl⟩)
    obtain ⟨⟨qi, qf, qt, qn, qv⟩, l⟩ := p
    simp only [cn] at c0 c1 c2 c3 c4 hkx hBp hGp
    obtain ⟨sA, sc, rfl, hl, hrd, hA, hAq⟩ := hBp
    have hok : okB qf qt qn l.length = true := by
      obtain ⟨_, g1, g2, g3, g4⟩ := hGp
      simp only [okB, g1, g2, Bool.true_and, Bool.and_eq_true, decide_eq_true_eq]
      exact ⟨g3, g4⟩
    have hAq : ∀ q o, sA = some ⟨q, o, none⟩ → l ≠ [] → q ≠ g ∧ some q ≠ (Value.slice (some ⟨_, 0, none⟩) (P.map (·.1)).length fc).ownBlock := fun q' o h0 h1 => ⟨fun e => hAq q' o h0 h1 (e ▸ HMg.out), fun e => hAq q' o h0 h1 (HMr.out q' e.symm)⟩
    have SF := Lib.hid (SL.out qi qf qt qn sA l.length sc l w2 (HL.out.below h2) hok rfl hrd hA hAq HLen.out HX0.out HX1.out)
    rw [← hn] at hk1 hk
    have HBl := Lib.hid h2
    subst hkx
    clear hF h2 hc NW hn FA H0 hp hl hrd hA hAq hok SL N2 HB hGp
    go_wp2_with fail
    refine SF.out.mono ?_
    rintro e w3 ⟨row', rfl, L3, T3, h3⟩
    have HR := Lib.hid (And.intro L3 (And.intro T3 h3))
    clear L3 T3 h3
    go_wp2
    go_ret2
    obtain ⟨L3, T3, h3⟩ := HR.out
    refine ⟨(qi, qf, qt, qn, l), row', List.mem_map.2 ⟨_, HP.out, rfl⟩, rfl, rfl, L3, (Two.of_below HBl.out).trans T3, ?_⟩
    rcases h3 with h | h
    · exact .inl h
    · exact .inr (fun r hr => Nat.le_trans HBl.out.size (h r hr))
end Go.Proofs.Ytekgmgiokmbliaa
