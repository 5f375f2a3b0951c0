/-
  The contracts of Drop and of Double without a send.
-/
import Derived.Test.YtekgmgiokmbliaaDeliver
set_option linter.unusedVariables false
namespace Go.Proofs.Ytekgmgiokmbliaa
open Go.RowKit

/-- envelopes that Send takes -/
def Fine (es : List Ev) : Prop := ∀ e ∈ es, isNodeB e.2.1 = true ∧ isNodeB e.2.2.1 = true ∧ (1 ≤ e.2.2.2.1 ∧ e.2.2.2.1 ≤ 255) ∧ ∃ A n c, e.2.2.2.2 = Value.slice A n c ∧ n ≤ 1048576
theorem Fine.slices {es : List Ev} (h : Fine es) : ∀ e ∈ es, ∃ A n c, e.2.2.2.2 = Value.slice A n c := fun e he => by
  obtain ⟨_, _, _, A, n, c, h, _⟩ := h e he
  exact ⟨A, n, c, h⟩

set_option maxHeartbeats 1600000 in
set_option maxRecDepth 100000 in
theorem drop_none (g base : Nat) (last : Int) (fv : Value) (es : List Ev) (x : Int) (w : World) (hN : Net w g base last fv es) (hR : Rise es) (hlen : es.length ≤ 1000) (hx : -9223372036854775808 ≤ x ∧ x ≤ 9223372036854775807) (h0 : ∀ e ∈ es, e.1 ≠ x) :
    Calls Try.prog 16 #[.pointer (some ⟨g, 0, none⟩), .int .i64 x] w fun e w' => e = .returned (.int .i64 91) ∧ Below w.heap.size w w' := by
  have FA := Lib.hid (deliver_none g base last fv es x w hN hR hlen hx h0)
  clear hN hR hlen hx h0
  go_enter Try.func16, Try.ntmps16
  go_wp2_with fail
  refine FA.out.mono ?_
  rintro e w2 ⟨rfl, h2⟩
  have hb := h2.alloc h2.size (.cells #[.int .i64 0, .int .i64 0, .int .i64 0, .int .i64 0, .slice none 0 0] 32)
  go_wp2
  go_ret
  exact ⟨rfl, hb⟩

set_option maxHeartbeats 1600000 in
set_option maxRecDepth 100000 in
theorem drop_ok (g base : Nat) (last : Int) (fv : Value) (es : List Ev) (x : Int) (w : World) (hN : Net w g base last fv es) (hR : Rise es) (hlen : es.length ≤ 1000) (hx : -9223372036854775808 ≤ x ∧ x ≤ 9223372036854775807) (h0 : ∃ e ∈ es, e.1 = x) (hne : ∀ e ∈ es, ∃ A n c, e.2.2.2.2 = Value.slice A n c) :
    Calls Try.prog 16 #[.pointer (some ⟨g, 0, none⟩), .int .i64 x] w fun e w' => ∃ k fv', k < es.length ∧ (evAt es k).1 = x ∧ e = .returned (.int .i64 0) ∧ Net w' g base last fv' (es.eraseIdx k) ∧ fv'.ownBlock = fv.ownBlock ∧ Two g fv.ownBlock w w' := by
  have FA := Lib.hid (deliver_ok g base last fv es x w hN hR hlen hx h0 hne)
  have HNE := Lib.hid hne
  clear hN hR hlen hx h0 hne
  go_enter Try.func16, Try.ntmps16
  go_wp2_with fail
  refine FA.out.mono ?_
  rintro e w2 ⟨k, fv', hk, hkx, rfl, N2, ho, T2⟩
  obtain ⟨sA, sn, sc, hsl⟩ := HNE.out _ (evAt_mem hk)
  rw [evV, hsl]
  obtain ⟨qk, hqk⟩ : ∃ E, E = evAt es k := ⟨_, rfl⟩
  rw [← hqk]
  obtain ⟨qi, qf, qt, qn, qv⟩ := qk
  simp only
  have hb := below1' w2 (.cells #[.int .i64 qi, .int .i64 qf, .int .i64 qt, .int .i64 qn, .slice sA sn sc] 32)
  have N3 := N2.below hb
  have T3 := T2.then (hb.mono T2.size)
  have HF := Lib.hid (And.intro hk (And.intro hkx (And.intro N3 (And.intro ho T3))))
  clear hb N2 N3 T2 T3 hk hkx ho hsl hqk
  go_wp2
  go_ret
  obtain ⟨hk, hkx, N3, ho, T3⟩ := HF.out
  exact ⟨k, fv', hk, hkx, rfl, N3, ho, T3⟩

set_option maxHeartbeats 1600000 in
set_option maxRecDepth 100000 in
theorem double_none (g base : Nat) (last : Int) (fv : Value) (es : List Ev) (x : Int) (w : World) (hN : Net w g base last fv es) (hR : Rise es) (hlen : es.length ≤ 1000) (hx : -9223372036854775808 ≤ x ∧ x ≤ 9223372036854775807) (h0 : ∀ e ∈ es, e.1 ≠ x) :
    Calls Try.prog 18 #[.pointer (some ⟨g, 0, none⟩), .int .i64 x] w fun e w' => e = .returned (.tuple #[.int .i64 0, .int .i64 91]) ∧ Below w.heap.size w w' := by
  have FA := Lib.hid (find_any g base last fv es x w hN hR hlen hx)
  have H0 := Lib.hid h0
  clear hN hR hlen hx h0
  go_enter Try.func18, Try.ntmps18
  go_wp2_with fail
  refine FA.out.mono ?_
  rintro e w2 ⟨k, ok, rfl, hF, h2⟩
  cases ok with
  | true => exact absurd (hF.1 rfl).2 (H0.out _ (evAt_mem (hF.1 rfl).1))
  | false =>
    clear hF
    go_wp2
    go_ret2
    exact ⟨rfl, h2⟩

set_option maxHeartbeats 1600000 in
set_option maxRecDepth 100000 in
theorem double_full (g base : Nat) (last : Int) (fv : Value) (es : List Ev) (x : Int) (w : World) (hN : Net w g base last fv es) (hR : Rise es) (hlen : es.length = 1000) (hx : -9223372036854775808 ≤ x ∧ x ≤ 9223372036854775807) (h0 : ∃ e ∈ es, e.1 = x) (hne : Fine es) :
    Calls Try.prog 18 #[.pointer (some ⟨g, 0, none⟩), .int .i64 x] w fun e w' => e = .returned (.tuple #[.int .i64 0, .int .i64 90]) ∧ Below w.heap.size w w' := by
  have FA := Lib.hid (find_any g base last fv es x w hN hR (by omega) hx)
  have H0 := Lib.hid h0
  have HNE := Lib.hid hne
  have HL := Lib.hid hlen
  obtain ⟨fA, fc, rfl⟩ := hN.own.form
  obtain ⟨n, hn⟩ : ∃ n, n = es.length := ⟨_, rfl⟩
  have NW := hN
  clear hN hR hlen hx h0 hne
  go_enter Try.func18, Try.ntmps18
  go_wp2_with fail
  refine FA.out.mono ?_
  rintro e w2 ⟨k, ok, rfl, hF, h2⟩
  cases ok with
  | false =>
    obtain ⟨e, he, hx⟩ := H0.out
    exact absurd hx (hF.2 rfl e he)
  | true =>
    obtain ⟨hk, hkx⟩ := hF.1 rfl
    have N2 := NW.below h2
    have hk1 := N2.c1.1
    rcases N2.own.evs with h0 | ⟨q, rfl, hq, hc⟩
    · rw [h0] at hk; simp at hk
    obtain ⟨c0, c1, c2, c3, c4⟩ := hc k hk
    obtain ⟨g1, g2, g3, sA, sn, sc, hsl, g4⟩ := HNE.out _ (evAt_mem hk)
    obtain ⟨qk, hqk⟩ : ∃ E, E = evAt es k := ⟨_, rfl⟩
    rw [← hqk] at c0 c1 c2 c3 c4 hkx hsl g1 g2 g3
    obtain ⟨qi, qf, qt, qn, qv⟩ := qk
    simp only at c0 c1 c2 c3 c4 hkx hsl g1 g2 g3
    subst hsl
    subst hkx
    have SF := Lib.hid (send_full g base last (.slice (some ⟨q, 0, none⟩) es.length fc) es qi qf qt qn sA sn sc w2 N2 g1 g2 g3.1 g3.2 g4 (by have := HL.out; omega))
    rw [← hn] at hk1 hk
    have HB := Lib.hid h2
    clear hF h2 hc hqk NW hn FA H0 g1 g2 g3 g4
    go_wp2_with fail
    refine SF.out.mono ?_
    rintro e w3 ⟨rfl, h3⟩
    go_wp2
    go_ret2
    exact ⟨rfl, HB.out.trans (h3.mono HB.out.size)⟩
end Go.Proofs.Ytekgmgiokmbliaa
