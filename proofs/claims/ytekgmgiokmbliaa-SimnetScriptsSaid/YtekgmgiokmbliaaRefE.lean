/-
  The reference's Drop, Double; its line by contents.
-/
import Derived.Test.YtekgmgiokmbliaaRefD
set_option linter.unusedVariables false
namespace Go.Proofs.Ytekgmgiokmbliaa
open Go.RowKit

set_option maxHeartbeats 1600000 in
set_option maxRecDepth 100000 in
theorem rdrop_none (g base : Nat) (last : Int) (fv : Value) (es : List Ev) (x : Int) (w : World) (hN : RNet w g base last fv es) (hlen : es.length ≤ 1000) (h0 : ∀ e ∈ es, e.1 ≠ x) :
    Calls Try.prog 17 #[.pointer (some ⟨g, 0, none⟩), .int .i64 x] w fun e w' => e = .returned (.int .i64 91) ∧ Below w.heap.size w w' := by
  have FA := Lib.hid (rdeliver_none g base last fv es x w hN hlen h0)
  clear hN hlen h0
  go_enter Try.func17, Try.ntmps17
  go_wp2_with fail
  refine FA.out.mono ?_
  rintro e w2 ⟨rfl, h2⟩
  have hb := h2.alloc h2.size (.cells #[.int .i64 0, .int .i64 0, .int .i64 0, .int .i64 0, .slice none 0 0] 32)
  go_wp2
  go_ret
  exact ⟨rfl, hb⟩

set_option maxHeartbeats 1600000 in
set_option maxRecDepth 100000 in
theorem rdrop_ok (g base : Nat) (last : Int) (fv : Value) (es : List Ev) (x : Int) (w : World) (hN : RNet w g base last fv es) (hlen : es.length ≤ 1000) (h0 : ∃ e ∈ es, e.1 = x) (hne : ∀ e ∈ es, ∃ A n c, e.2.2.2.2 = Value.slice A n c) :
    Calls Try.prog 17 #[.pointer (some ⟨g, 0, none⟩), .int .i64 x] w fun e w' => ∃ k fv', k < es.length ∧ (evAt es k).1 = x ∧ e = .returned (.int .i64 0) ∧ RNet w' g base last fv' (es.eraseIdx k) ∧ (∀ r, fv'.ownBlock = some r → w.heap.size ≤ r) ∧ Two g fv.ownBlock w w' := by
  have FA := Lib.hid (rdeliver_ok g base last fv es x w hN hlen h0 hne)
  have HNE := Lib.hid hne
  clear hN hlen h0 hne
  go_enter Try.func17, Try.ntmps17
  go_wp2_with fail
  refine FA.out.mono ?_
  rintro e w2 ⟨k, fv', hk, hkx, rfl, N2, ho, T2⟩
  obtain ⟨sA, sn, sc, hsl⟩ := HNE.out _ (evAt_mem hk)
  rw [evV, hsl]
  obtain ⟨qk, hqk⟩ : ∃ E, E = evAt es k := ⟨_, rfl⟩
  rw [← hqk]
  obtain ⟨qi, qf, qt, qn, qv⟩ := qk
  simp only
  have hb := below1' w2 (.cells #[.int .i64 qi, .int .i64 qf, .int .i64 qt, .int .i64 qn, .slice sA sn sc] 32)
  have N3 := N2.below hb
  have T3 := T2.then (hb.mono T2.size)
  have HF := Lib.hid (And.intro hk (And.intro hkx (And.intro N3 (And.intro ho T3))))
  clear hb N2 N3 T2 T3 hk hkx ho hsl hqk
  go_wp2
  go_ret
  obtain ⟨hk, hkx, N3, ho, T3⟩ := HF.out
  exact ⟨k, fv', hk, hkx, rfl, N3, ho, T3⟩

set_option maxHeartbeats 1600000 in
set_option maxRecDepth 100000 in
theorem rdouble_none (g base : Nat) (last : Int) (fv : Value) (es : List Ev) (x : Int) (w : World) (hN : RNet w g base last fv es) (hlen : es.length ≤ 1000) (h0 : ∀ e ∈ es, e.1 ≠ x) :
    Calls Try.prog 19 #[.pointer (some ⟨g, 0, none⟩), .int .i64 x] w fun e w' => e = .returned (.tuple #[.int .i64 0, .int .i64 91]) ∧ Below w.heap.size w w' := by
  have FA := Lib.hid (rplace_any g base last fv es x w hN hlen)
  have H0 := Lib.hid h0
  clear hN hlen h0
  go_enter Try.func19, Try.ntmps19
  go_wp2_with fail
  refine FA.out.mono ?_
  rintro e w2 ⟨p, rfl, hF, rfl⟩
  rcases hF with ⟨rfl, _⟩ | ⟨k, rfl, hk, hkx⟩
  rotate_left
  · exact absurd hkx (H0.out _ (evAt_mem hk))
  go_wp2
  go_ret2
  exact ⟨rfl, Below.refl _ _⟩

/-- Double of what is there is a send of it -/
theorem rdouble_as {Q : Ending → World → Prop} (g base : Nat) (last : Int) (fv : Value) (es : List Ev) (x : Int) (w : World) (hN : RNet w g base last fv es) (hlen : es.length ≤ 1000) (h0 : ∃ e ∈ es, e.1 = x) (hne : ∀ e ∈ es, ∃ A n c, e.2.2.2.2 = Value.slice A n c)
    (hQ : ∀ k, k < es.length → (evAt es k).1 = x → Calls Try.prog 12 #[.pointer (some ⟨g, 0, none⟩), evV (evAt es k)] w fun e w' => (∃ a b : Int, e = .returned (.tuple #[.int .i64 a, .int .i64 b])) ∧ Q e w') :
    Calls Try.prog 19 #[.pointer (some ⟨g, 0, none⟩), .int .i64 x] w fun e w' => Q e w' := by
  have FA := Lib.hid (rplace_any g base last fv es x w hN hlen)
  have H0 := Lib.hid h0
  have HNE := Lib.hid hne
  have HL := Lib.hid hlen
  have HQ := Lib.hid hQ
  obtain ⟨fA, fc, rfl⟩ := hN.own.form
  obtain ⟨n, hn⟩ : ∃ n, n = es.length := ⟨_, rfl⟩
  have NW := hN
  clear hN hlen h0 hne hQ
  go_enter Try.func19, Try.ntmps19
  go_wp2_with fail
  refine FA.out.mono ?_
  rintro e w2 ⟨p, rfl, hF, rfl⟩
  rcases hF with ⟨_, hF⟩ | ⟨k, rfl, hk, hkx⟩
  · obtain ⟨e, he, hx⟩ := H0.out
    exact absurd hx (hF e he)
  have hk1 := NW.c1.1
  rcases NW.own.evs with h0 | ⟨q, rfl, hq, hc⟩
  · rw [h0] at hk; simp at hk
  obtain ⟨c0, c1, c2, c3, c4⟩ := hc k hk
  obtain ⟨sA, sn, sc, hsl⟩ := HNE.out _ (evAt_mem hk)
  have SF := Lib.hid (HQ.out k hk hkx)
  obtain ⟨qk, hqk⟩ : ∃ E, E = evAt es k := ⟨_, rfl⟩
  rw [← hqk] at c0 c1 c2 c3 c4 hkx hsl
  replace SF := SF.out
  rw [← hqk, evV] at SF
  obtain ⟨qi, qf, qt, qn, qv⟩ := qk
  simp only at c0 c1 c2 c3 c4 hkx hsl SF
  subst hsl
  subst hkx
  replace SF := Lib.hid SF
  rw [← hn] at hk1 hk
  have hkl : k ≤ 1000 := by have := HL.out; omega
  clear hc hqk NW hn FA H0 HQ
  go_wp2_with fail
  refine SF.out.mono ?_
  rintro e w3 ⟨⟨a, b, rfl⟩, h3⟩
  have H3 := Lib.hid h3
  clear h3
  go_wp2
  exact H3.out
end Go.Proofs.Ytekgmgiokmbliaa
