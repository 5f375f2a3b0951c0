/-
  The reference's Deliver, Drop, Double.
-/
import Derived.Test.YtekgmgiokmbliaaRefC
set_option linter.unusedVariables false
namespace Go.Proofs.Ytekgmgiokmbliaa
open Go.RowKit

set_option maxHeartbeats 1600000 in
set_option maxRecDepth 100000 in
theorem rdeliver_none (g base : Nat) (last : Int) (fv : Value) (es : List Ev) (x : Int) (w : World) (hN : RNet w g base last fv es) (hlen : es.length ≤ 1000) (h0 : ∀ e ∈ es, e.1 ≠ x) :
    Calls Try.prog 14 #[.pointer (some ⟨g, 0, none⟩), .int .i64 x] w fun e w' => e = .returned (.tuple #[.agg #[.int .i64 0, .int .i64 0, .int .i64 0, .int .i64 0, .slice none 0 0], .int .i64 91]) ∧ Below w.heap.size w w' := by
  have hb := below1' w (.cells #[.int .i64 0, .int .i64 0, .int .i64 0, .int .i64 0, .slice none 0 0] 32)
  have FA := Lib.hid (rplace_any g base last fv es x _ (hN.below hb) hlen)
  have H0 := Lib.hid h0
  have B := fun (j : Nat) (x : Value) (h : (#[.int .i64 0, .int .i64 0, .int .i64 0, .int .i64 0, .slice none 0 0] : Array Value)[j]? = some x) => Cell.new w #[.int .i64 0, .int .i64 0, .int .i64 0, .int .i64 0, .slice none 0 0] 32 j x h
  have B0 := B 0 _ rfl
  have B1 := B 1 _ rfl
  have B2 := B 2 _ rfl
  have B3 := B 3 _ rfl
  have B4 := B 4 _ rfl
  clear hN hlen h0 B
  go_enter Try.func14, Try.ntmps14
  go_wp2_with fail
  refine FA.out.mono ?_
  rintro e w2 ⟨p, rfl, hF, rfl⟩
  rcases hF with ⟨rfl, _⟩ | ⟨k, rfl, hk, hkx⟩
  rotate_left
  · exact absurd hkx (H0.out _ (evAt_mem hk))
  obtain ⟨W, hW⟩ : ∃ W, W = w.alloc (.cells #[.int .i64 0, .int .i64 0, .int .i64 0, .int .i64 0, .slice none 0 0] 32) := ⟨_, rfl⟩
  rw [← hW] at hb B0 B1 B2 B3 B4
  rw [← hW]
  clear hW
  obtain ⟨r, hr⟩ : ∃ r, r = w.heap.size := ⟨_, rfl⟩
  rw [← hr] at B0 B1 B2 B3 B4
  rw [← hr]
  replace hr := Lib.hid hr
  obtain ⟨b0, f0⟩ := B0
  obtain ⟨b1, f1⟩ := B1
  obtain ⟨b2, f2⟩ := B2
  obtain ⟨b3, f3⟩ := B3
  obtain ⟨b4, f4⟩ := B4
  go_wp2
  refine bodyPost_ret (by rw [results_cell_tmp rfl]; go_simp) rfl ⟨rfl, below5 hb (by have := hr.out; omega) _ _ _ _ _⟩

theorem RNet.two5 {g base r : Nat} {last : Int} {fv : Value} {es : List Ev} {w : World} (h : RNet w g base last fv es) (hg : r ≠ g) (hk : fv.ownBlock ≠ some r) (a b c d e : Value) : RNet (put5 w r a b c d e) g base last fv es :=
  ⟨cell5 h.c0 hg _ _ _ _ _, cell5 h.c1 hg _ _ _ _ _, own5 h.own hk _ _ _ _ _, h.gb, h.apart⟩

set_option maxHeartbeats 3200000 in
set_option maxRecDepth 100000 in
theorem rdeliver_ok (g base : Nat) (last : Int) (fv : Value) (es : List Ev) (x : Int) (w : World) (hN : RNet w g base last fv es) (hlen : es.length ≤ 1000) (h0 : ∃ e ∈ es, e.1 = x) (hne : ∀ e ∈ es, ∃ A n c, e.2.2.2.2 = Value.slice A n c) :
    Calls Try.prog 14 #[.pointer (some ⟨g, 0, none⟩), .int .i64 x] w fun e w' => ∃ k fv', k < es.length ∧ (evAt es k).1 = x ∧ e = .returned (.tuple #[evV (evAt es k), .int .i64 0]) ∧ RNet w' g base last fv' (es.eraseIdx k) ∧ (∀ r, fv'.ownBlock = some r → w.heap.size ≤ r) ∧ Two g fv.ownBlock w w' := by
  have hb := below1' w (.cells #[.int .i64 0, .int .i64 0, .int .i64 0, .int .i64 0, .slice none 0 0] 32)
  have N1 := hN.below hb
  have FA := Lib.hid (rplace_any g base last fv es x _ N1 hlen)
  have H0 := Lib.hid h0
  have B := fun (j : Nat) (x : Value) (h : (#[.int .i64 0, .int .i64 0, .int .i64 0, .int .i64 0, .slice none 0 0] : Array Value)[j]? = some x) => Cell.new w #[.int .i64 0, .int .i64 0, .int .i64 0, .int .i64 0, .slice none 0 0] 32 j x h
  have B0 := B 0 _ rfl
  have B1 := B 1 _ rfl
  have B2 := B 2 _ rfl
  have B3 := B 3 _ rfl
  have B4 := B 4 _ rfl
  have hrow : ∀ r, fv.ownBlock = some r → base ≤ r ∧ r < w.heap.size := fun r hr => World.ownsRow.lt hN.own r hr
  have hgw := hN.c0.lt
  have HNE := Lib.hid hne
  have HLEN := Lib.hid hlen
  obtain ⟨fA, fc, rfl⟩ := hN.own.form
  obtain ⟨n, hn⟩ : ∃ n, n = es.length := ⟨_, rfl⟩
  clear hN hlen h0 B hne
  go_enter Try.func14, Try.ntmps14
  go_wp2_with fail
  refine FA.out.mono ?_
  rintro e w2 ⟨p, rfl, hF, rfl⟩
  rcases hF with ⟨_, hF⟩ | ⟨k, rfl, hk, hkx⟩
  · obtain ⟨e, he, hx⟩ := H0.out
    exact absurd hx (hF e he)
  have hs1 : (w.alloc (.cells #[.int .i64 0, .int .i64 0, .int .i64 0, .int .i64 0, .slice none 0 0] 32)).heap.size = w.heap.size + 1 := by simp
  obtain ⟨W, hW⟩ : ∃ W, W = w.alloc (.cells #[.int .i64 0, .int .i64 0, .int .i64 0, .int .i64 0, .slice none 0 0] 32) := ⟨_, rfl⟩
  rw [← hW] at hb B0 B1 B2 B3 B4 N1 hs1
  rw [← hW]
  clear hW FA
  replace hs1 := Lib.hid hs1
  obtain ⟨r, hr⟩ : ∃ r, r = w.heap.size := ⟨_, rfl⟩
  rw [← hr] at B0 B1 B2 B3 B4
  rw [← hr]
  replace hr := Lib.hid hr
  rcases N1.own.evs with h0 | ⟨q, rfl, hq, hc⟩
  · rw [h0] at hk; simp at hk
  obtain ⟨c0, c1, c2, c3, c4⟩ := hc k hk
  obtain ⟨sA, sn, sc, hsl⟩ := HNE.out _ (evAt_mem hk)
  obtain ⟨qk, hqk⟩ : ∃ E, E = evAt es k := ⟨_, rfl⟩
  have HQ := Lib.hid hqk
  rw [← hqk] at c0 c1 c2 c3 c4 hkx hsl
  obtain ⟨qi, qf, qt, qn, qv⟩ := qk
  simp only at c0 c1 c2 c3 c4 hkx hsl
  subst hsl
  subst hkx
  have hV' := below1' W (.cells #[.int .i64 qi, .int .i64 qf, .int .i64 qt, .int .i64 qn, .slice sA sn sc] 32)
  have V := fun (j : Nat) (x : Value) (h : (#[.int .i64 qi, .int .i64 qf, .int .i64 qt, .int .i64 qn, .slice sA sn sc] : Array Value)[j]? = some x) => Cell.new W #[.int .i64 qi, .int .i64 qf, .int .i64 qt, .int .i64 qn, .slice sA sn sc] 32 j x h
  have V0 := V 0 _ rfl
  have V1 := V 1 _ rfl
  have V2 := V 2 _ rfl
  have V3 := V 3 _ rfl
  have V4 := V 4 _ rfl
  have N3 := N1.below hV'
  have TK := Lib.hid (rtake_ok g base last _ es k _ N3 hk HLEN.out (fun e he => by obtain ⟨A, n, c, h⟩ := HNE.out e he; rw [h]; rfl))
  have B0 := B0.keep hV'
  have B1 := B1.keep hV'
  have B2 := B2.keep hV'
  have B3 := B3.keep hV'
  have B4 := B4.keep hV'
  have hb := hb.trans (hV'.mono hb.size)
  have hkl : k ≤ 1000 := by have := HLEN.out; omega
  have hk1 := N1.c1.1
  rw [← hn] at hk1 hk
  have HNn := Lib.hid hn
  have hqw := (hrow q rfl).2
  have hap := N1.apart
  clear hc hqk N1 N3 V hV' hn
  go_wp2_with fail
  obtain ⟨V, hV⟩ : ∃ V, V = W.alloc (.cells #[.int .i64 qi, .int .i64 qf, .int .i64 qt, .int .i64 qn, .slice sA sn sc] 32) := ⟨_, rfl⟩
  have hVs : V.heap.size = W.heap.size + 1 := by rw [hV]; simp
  obtain ⟨u, hu⟩ : ∃ u, u = W.heap.size := ⟨_, rfl⟩
  rw [← hu] at V0 V1 V2 V3 V4
  rw [← hV] at V0 V1 V2 V3 V4 B0 B1 B2 B3 B4 hb TK
  rw [← hV, ← hu]
  have HU := Lib.hid hu
  clear hV hu c0 c1 c2 c3 c4 hk1
  refine TK.out.mono ?_
  rintro e w4 ⟨fv', rfl, N4, T4, h4⟩
  have hgq : g ≠ q := fun h => hap (by rw [h]; rfl)
  have hgr : r ≠ g := by have := hr.out; omega
  have hgu : u ≠ g := by have := HU.out; have := hs1.out; omega
  have hrq : some r ≠ (Value.slice (some ⟨q, 0, none⟩) es.length fc).ownBlock := fun e => by have := (hrow r e.symm).2; have := hr.out; omega
  have huq : some u ≠ (Value.slice (some ⟨q, 0, none⟩) es.length fc).ownBlock := fun e => by have := (hrow u e.symm).2; have := HU.out; have := hs1.out; omega
  replace B0 := B0.two T4 hgr hrq
  replace B1 := B1.two T4 hgr hrq
  replace B2 := B2.two T4 hgr hrq
  replace B3 := B3.two T4 hgr hrq
  replace B4 := B4.two T4 hgr hrq
  replace V0 := V0.two T4 hgu huq
  replace V1 := V1.two T4 hgu huq
  replace V2 := V2.two T4 hgu huq
  replace V3 := V3.two T4 hgu huq
  replace V4 := V4.two T4 hgu huq
  obtain ⟨b0, f0⟩ := B0
  obtain ⟨b1, f1⟩ := B1
  obtain ⟨b2, f2⟩ := B2
  obtain ⟨b3, f3⟩ := B3
  obtain ⟨b4, f4⟩ := B4
  obtain ⟨v0, _⟩ := V0
  obtain ⟨v1, _⟩ := V1
  obtain ⟨v2, _⟩ := V2
  obtain ⟨v3, _⟩ := V3
  obtain ⟨v4, _⟩ := V4
  have TF := Lib.hid (two5 ((Two.of_below (g := g) hb).trans T4) (r := r) (by have := hr.out; omega))
  have NF := Lib.hid (N4.two5 hgr (r := r) (fun e => by have := h4 r e; have := hr.out; have := hs1.out; omega))
  have H4 := Lib.hid h4
  have HK := Lib.hid hk
  have hru : r ≠ u := by have := HU.out; have := hr.out; have := hs1.out; omega
  have HVS : Hid (w.heap.size ≤ V.heap.size) := by have := hs1.out; show _ ≤ _; omega
  clear TK T4 N4 h4 hb hVs hs1 hqw hq hgw hap hk hrow
  go_wp2
  refine bodyPost_ret (v := .tuple #[.agg #[.int .i64 qi, .int .i64 qf, .int .i64 qt, .int .i64 qn, .slice sA sn sc], .int .i64 0]) (by rw [results_cell_tmp rfl]; go_simp) rfl ⟨k, fv', by have := HK.out; have := HNn.out; omega, by rw [← HQ.out], by rw [← HQ.out, evV], NF.out _ _ _ _ _, fun r hr => Nat.le_trans HVS.out (H4.out r hr), TF.out _ _ _ _ _⟩
end Go.Proofs.Ytekgmgiokmbliaa
