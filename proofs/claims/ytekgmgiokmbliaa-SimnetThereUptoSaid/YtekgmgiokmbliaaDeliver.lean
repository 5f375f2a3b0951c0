/-
  The contracts of find, New, Deliver, Drop, Double.
-/
import Derived.Test.YtekgmgiokmbliaaDelete
import Derived.Laws.ResultCell
set_option linter.unusedVariables false
namespace Go.Proofs.Ytekgmgiokmbliaa
open Go.RowKit

set_option maxRecDepth 100000 in
theorem find_any (g base : Nat) (last : Int) (fv : Value) (es : List Ev) (x : Int) (w : World) (hN : Net w g base last fv es) (hR : Rise es) (hlen : es.length ≤ 1000) (hx : -9223372036854775808 ≤ x ∧ x ≤ 9223372036854775807) :
    Calls Try.prog 34 #[.pointer (some ⟨g, 0, none⟩), .int .i64 x] w fun e w' => ∃ (k : Nat) (ok : Bool), e = .returned (.tuple #[.int .i64 k, .bool ok]) ∧ Found es x k ok ∧ Below w.heap.size w w' := by
  obtain ⟨fA, fc, rfl⟩ := hN.own.form
  have k1 := hN.c1.1
  have HE := hN.own.evs
  obtain ⟨m, hm⟩ : ∃ m, m = es.length := ⟨_, rfl⟩
  have SA := Lib.hid (fun w hE => search_any fA m fc es x w hm hE hR hlen hx)
  have SA := Lib.hid (SA.out w HE)
  rw [← hm] at k1
  clear hN hR hlen hx hm HE
  go_enter Try.func34, Try.ntmps34
  go_wp2_with fail
  refine SA.out.mono ?_
  rintro e w2 ⟨k, ok, rfl, hF, h2⟩
  go_wp2
  go_ret2
  exact ⟨k, ok, rfl, hF, h2⟩

theorem new_any (w : World) : Calls Try.prog 10 #[] w fun e w' => e = .returned (.pointer (some ⟨w.heap.size, 0, none⟩)) ∧ Net w' w.heap.size w.heap.size 0 (.slice none 0 0) [] ∧ Below w.heap.size w w' := by
  have B0 := Cell.new w #[.int .i64 0, .slice none 0 0] 61 0 _ rfl
  have B1 := Cell.new w #[.int .i64 0, .slice none 0 0] 61 1 _ rfl
  have hb := below1' w (.cells #[.int .i64 0, .slice none 0 0] 61)
  have hN : Net (w.alloc (.cells #[.int .i64 0, .slice none 0 0] 61)) w.heap.size w.heap.size 0 (.slice none 0 0) [] := ⟨B0, B1, World.ownsRow_nil _ _ _ _, Nat.le_refl _, by simp [Value.ownBlock]⟩
  clear B0 B1
  go_enter Try.func10, Try.ntmps10
  go_wp2
  go_ret
  exact ⟨rfl, hN, hb⟩

theorem Net.below {w w' : World} {g base : Nat} {last : Int} {fv : Value} {es : List Ev} (h : Net w g base last fv es) (hb : Below w.heap.size w w') : Net w' g base last fv es :=
  ⟨h.c0.keep hb, h.c1.keep hb, h.own.below hb, h.gb, h.apart⟩
theorem OwnF.only {w w' : World} {base q : Nat} {v : Value} {l : List Ev} (h : OwnF w base v l) (ho : Only q w w') (hq : v.ownBlock ≠ some q) : OwnF w' base v l := by
  unfold OwnF at h ⊢
  refine ⟨h.1, ?_⟩
  rcases h.2 with hn | ⟨g, cap, cur, rfl, hg, hh, r⟩
  · exact .inl hn
  · exact .inr ⟨g, cap, cur, rfl, hg, (ho.block g (Array.getElem?_eq_some_iff.1 hh).1 (fun e => hq (by simp [Value.ownBlock, e]))).trans hh, r⟩
theorem Two.only {g q : Nat} {row : Option Nat} {a b c : World} (h : Two g row a b) (hq : row = some q) (k : Only q b c) : Two g row a c :=
  ⟨k.os.trans h.os, k.tape.trans h.tape, k.output.trans h.output, Nat.le_trans h.size k.size, fun i hi h1 h2 => (k.block i (Nat.lt_of_lt_of_le hi h.size) (fun e => h2 (by rw [hq, e]))).trans (h.block i hi h1 h2)⟩
/-- five stores into one block -/
abbrev put5 (w : World) (r : Nat) (a b c d e : Value) : World := ((((w.setCell ⟨r, 0, none⟩ a).setCell ⟨r, 1, none⟩ b).setCell ⟨r, 2, none⟩ c).setCell ⟨r, 3, none⟩ d).setCell ⟨r, 4, none⟩ e
theorem below5 {B r : Nat} {w v : World} (h : Below B w v) (hr : B ≤ r) (a b c d e : Value) : Below B w (put5 v r a b c d e) :=
  ((((h.setCell (by exact hr) a).setCell (by exact hr) b).setCell (by exact hr) c).setCell (by exact hr) d).setCell (by exact hr) e
theorem two5 {g r : Nat} {row : Option Nat} {w v : World} (h : Two g row w v) (hr : w.heap.size ≤ r) (a b c d e : Value) : Two g row w (put5 v r a b c d e) :=
  ((((h.setn r 0 hr a).setn r 1 hr b).setn r 2 hr c).setn r 3 hr d).setn r 4 hr e
theorem cell5 {k i r : Nat} {x : Value} {w : World} (h : Cell w k i x) (hk : r ≠ k) (a b c d e : Value) : Cell (put5 w r a b c d e) k i x :=
  ((((h.far (by intro h; injection h with h; exact hk h) a).far (by intro h; injection h with h; exact hk h) b).far (by intro h; injection h with h; exact hk h) c).far (by intro h; injection h with h; exact hk h) d).far (by intro h; injection h with h; exact hk h) e
theorem own5 {base r : Nat} {fv : Value} {es : List Ev} {w : World} (h : OwnF w base fv es) (hk : fv.ownBlock ≠ some r) (a b c d e : Value) : OwnF (put5 w r a b c d e) base fv es :=
  ((((h.far hk a).far hk b).far hk c).far hk d).far hk e
theorem net5 {g base r : Nat} {last : Int} {fv : Value} {es : List Ev} {w : World} (h : Net w g base last fv es) (hg : r ≠ g) (hk : fv.ownBlock ≠ some r) (a b c d e : Value) : Net (put5 w r a b c d e) g base last fv es :=
  ⟨cell5 h.c0 hg _ _ _ _ _, cell5 h.c1 hg _ _ _ _ _, own5 h.own hk _ _ _ _ _, h.gb, h.apart⟩
/-- an envelope as one value -/
def evV (e : Ev) : Value := .agg #[.int .i64 e.1, .int .i64 e.2.1, .int .i64 e.2.2.1, .int .i64 e.2.2.2.1, e.2.2.2.2]

set_option maxHeartbeats 1600000 in
set_option maxRecDepth 100000 in
theorem deliver_none (g base : Nat) (last : Int) (fv : Value) (es : List Ev) (x : Int) (w : World) (hN : Net w g base last fv es) (hR : Rise es) (hlen : es.length ≤ 1000) (hx : -9223372036854775808 ≤ x ∧ x ≤ 9223372036854775807) (h0 : ∀ e ∈ es, e.1 ≠ x) :
    Calls Try.prog 13 #[.pointer (some ⟨g, 0, none⟩), .int .i64 x] w fun e w' => e = .returned (.tuple #[.agg #[.int .i64 0, .int .i64 0, .int .i64 0, .int .i64 0, .slice none 0 0], .int .i64 91]) ∧ Below w.heap.size w w' := by
  have hb := below1' w (.cells #[.int .i64 0, .int .i64 0, .int .i64 0, .int .i64 0, .slice none 0 0] 32)
  have FA := Lib.hid (fun w hN => find_any g base last fv es x w hN hR hlen hx)
  have FA := Lib.hid (FA.out _ (hN.below hb))
  have H0 := Lib.hid h0
  have B := fun (j : Nat) (x : Value) (h : (#[.int .i64 0, .int .i64 0, .int .i64 0, .int .i64 0, .slice none 0 0] : Array Value)[j]? = some x) => Cell.new w #[.int .i64 0, .int .i64 0, .int .i64 0, .int .i64 0, .slice none 0 0] 32 j x h
  have B0 := B 0 _ rfl
  have B1 := B 1 _ rfl
  have B2 := B 2 _ rfl
  have B3 := B 3 _ rfl
  have B4 := B 4 _ rfl
  clear hN hR hlen hx h0 B
  go_enter Try.func13, Try.ntmps13
  go_wp2_with fail
  refine FA.out.mono ?_
  rintro e w2 ⟨k, ok, rfl, hF, h2⟩
  cases ok with
  | true => exact absurd (hF.1 rfl).2 (H0.out _ (evAt_mem (hF.1 rfl).1))
  | false =>
    have B0 := B0.keep h2
    have B1 := B1.keep h2
    have B2 := B2.keep h2
    have B3 := B3.keep h2
    have B4 := B4.keep h2
    have hb := hb.trans (h2.mono hb.size)
    obtain ⟨r, hr⟩ : ∃ r, r = w.heap.size := ⟨_, rfl⟩
    rw [← hr] at B0 B1 B2 B3 B4
    rw [← hr]
    replace hr := Lib.hid hr
    clear hF h2
    obtain ⟨b0, f0⟩ := B0
    obtain ⟨b1, f1⟩ := B1
    obtain ⟨b2, f2⟩ := B2
    obtain ⟨b3, f3⟩ := B3
    obtain ⟨b4, f4⟩ := B4
    go_wp2
    refine bodyPost_ret (by rw [results_cell_tmp rfl]; go_simp) rfl ⟨rfl, below5 hb (by have := hr.out; omega) _ _ _ _ _⟩

set_option maxHeartbeats 3200000 in
set_option maxRecDepth 100000 in
theorem deliver_ok (g base : Nat) (last : Int) (fv : Value) (es : List Ev) (x : Int) (w : World) (hN : Net w g base last fv es) (hR : Rise es) (hlen : es.length ≤ 1000) (hx : -9223372036854775808 ≤ x ∧ x ≤ 9223372036854775807) (h0 : ∃ e ∈ es, e.1 = x) (hne : ∀ e ∈ es, ∃ A n c, e.2.2.2.2 = Value.slice A n c) :
    Calls Try.prog 13 #[.pointer (some ⟨g, 0, none⟩), .int .i64 x] w fun e w' => ∃ k fv', k < es.length ∧ (evAt es k).1 = x ∧ e = .returned (.tuple #[evV (evAt es k), .int .i64 0]) ∧ Net w' g base last fv' (es.eraseIdx k) ∧ fv'.ownBlock = fv.ownBlock ∧ Two g fv.ownBlock w w' := by
  have hb := below1' w (.cells #[.int .i64 0, .int .i64 0, .int .i64 0, .int .i64 0, .slice none 0 0] 32)
  have FA := Lib.hid (fun w hN => find_any g base last fv es x w hN hR hlen hx)
  have NW := hN.below hb
  have FB := Lib.hid (FA.out _ NW)
  have H0 := Lib.hid h0
  have HNE := Lib.hid hne
  have hgw := hN.c0.lt
  have B := fun (j : Nat) (x : Value) (h : (#[.int .i64 0, .int .i64 0, .int .i64 0, .int .i64 0, .slice none 0 0] : Array Value)[j]? = some x) => Cell.new w #[.int .i64 0, .int .i64 0, .int .i64 0, .int .i64 0, .slice none 0 0] 32 j x h
  have B0 := B 0 _ rfl
  have B1 := B 1 _ rfl
  have B2 := B 2 _ rfl
  have B3 := B 3 _ rfl
  have B4 := B 4 _ rfl
  have hrow : ∀ r, fv.ownBlock = some r → base ≤ r ∧ r < w.heap.size := fun r hr => World.ownsRow.lt hN.own r hr
  obtain ⟨fA, fc, rfl⟩ := hN.own.form
  obtain ⟨n, hn⟩ : ∃ n, n = es.length := ⟨_, rfl⟩
  have HLEN := Lib.hid hlen
  clear hN hR hlen hx h0 B hne FA
  go_enter Try.func13, Try.ntmps13
  go_wp2_with fail
  refine FB.out.mono ?_
  rintro e w2 ⟨k, ok, rfl, hF, h2⟩
  cases ok with
  | false =>
    obtain ⟨e, he, hx⟩ := H0.out
    exact absurd hx (hF.2 rfl e he)
  | true =>
    obtain ⟨hk, hkx⟩ := hF.1 rfl
    have N2 := NW.below h2
    have B0 := B0.keep h2
    have B1 := B1.keep h2
    have B2 := B2.keep h2
    have B3 := B3.keep h2
    have B4 := B4.keep h2
    have hb := hb.trans (h2.mono hb.size)
    have hs2 := h2.size
    have hs1 : (w.alloc (.cells #[.int .i64 0, .int .i64 0, .int .i64 0, .int .i64 0, .slice none 0 0] 32)).heap.size = w.heap.size + 1 := by simp
    rw [hs1] at hs2
    obtain ⟨r, hr⟩ : ∃ r, r = w.heap.size := ⟨_, rfl⟩
    rw [← hr] at B0 B1 B2 B3 B4
    rw [← hr]
    replace hr := Lib.hid hr
    rcases N2.own.evs with h0 | ⟨q, rfl, hq, hc⟩
    · rw [h0] at hk; simp at hk
    obtain ⟨c0, c1, c2, c3, c4⟩ := hc k hk
    obtain ⟨sA, sn, sc, hsl⟩ := HNE.out _ (evAt_mem hk)
    obtain ⟨qk, hqk⟩ : ∃ E, E = evAt es k := ⟨_, rfl⟩
    have HQ := Lib.hid hqk
    rw [← hqk] at c0 c1 c2 c3 c4 hkx hsl
    obtain ⟨qi, qf, qt, qn, qv⟩ := qk
    simp only at c0 c1 c2 c3 c4 hkx hsl
    subst hsl
    subst hkx
    have D0 := fun w hO => delete_any base (some ⟨q, 0, none⟩) es.length fc es k (k + 1) rfl w hO hk (fun e he => by obtain ⟨A, n, c, h⟩ := HNE.out e he; rw [h]; rfl)
    rw [show ((k + 1 : Nat) : Int) = (k : Int) + 1 by omega] at D0
    have D := Lib.hid D0
    have hkl : k ≤ 1000 := by have := HLEN.out; omega
    have hqw := (hrow q rfl).2
    have hk1 := N2.c1.1
    have hV' := below1' w2 (.cells #[.int .i64 qi, .int .i64 qf, .int .i64 qt, .int .i64 qn, .slice sA sn sc] 32)
    have V := fun (j : Nat) (x : Value) (h : (#[.int .i64 qi, .int .i64 qf, .int .i64 qt, .int .i64 qn, .slice sA sn sc] : Array Value)[j]? = some x) => Cell.new w2 #[.int .i64 qi, .int .i64 qf, .int .i64 qt, .int .i64 qn, .slice sA sn sc] 32 j x h
    have V0 := V 0 _ rfl
    have V1 := V 1 _ rfl
    have V2 := V 2 _ rfl
    have V3 := V 3 _ rfl
    have V4 := V 4 _ rfl
    have N3 := N2.below hV'
    have B0 := B0.keep hV'
    have B1 := B1.keep hV'
    have B2 := B2.keep hV'
    have B3 := B3.keep hV'
    have B4 := B4.keep hV'
    have hk3 := N3.c1.1
    have hg2 := N2.c0.lt
    have hap := N2.apart
    have hb := hb.trans (hV'.mono hb.size)
    have O3 := N3.own
    rw [← hn] at hk1 hk3 D hk O3
    have HNn := Lib.hid hn
    clear hF h2 hc hqk hs1 NW hn FB H0 D0 V hV' hrow
    go_wp2_with fail
    obtain ⟨V, hV⟩ : ∃ V, V = w2.alloc (.cells #[.int .i64 qi, .int .i64 qf, .int .i64 qt, .int .i64 qn, .slice sA sn sc] 32) := ⟨_, rfl⟩
    have hVs : V.heap.size = w2.heap.size + 1 := by rw [hV]; simp
    obtain ⟨u, hu⟩ : ∃ u, u = w2.heap.size := ⟨_, rfl⟩
    rw [← hV, ← hu] at V0 V1 V2 V3 V4
    rw [← hV] at N3 O3 B0 B1 B2 B3 B4 hb
    rw [← hV, ← hu]
    have HU := Lib.hid hu
    clear hV hk3 hu
    refine (D.out _ O3).mono ?_
    rintro e w4 ⟨q2, hq2, rfl, O4, h4⟩
    obtain rfl : q = q2 := by injection hq2 with h; injection h
    have hgq : g ≠ q := fun h => hap (by rw [h]; rfl)
    have hgqu : q ≠ u := by have := HU.out; omega
    have hrq : r ≠ q := by have := hr.out; omega
    have C0 := N3.c0.only h4 hgq
    have C1 := N3.c1.only h4 hgq
    have B0 := B0.only h4 hrq
    have B1 := B1.only h4 hrq
    have B2 := B2.only h4 hrq
    have B3 := B3.only h4 hrq
    have B4 := B4.only h4 hrq
    have V0 := V0.only h4 (Ne.symm hgqu)
    have V1 := V1.only h4 (Ne.symm hgqu)
    have V2 := V2.only h4 (Ne.symm hgqu)
    have V3 := V3.only h4 (Ne.symm hgqu)
    have V4 := V4.only h4 (Ne.symm hgqu)
    obtain ⟨b0, f0⟩ := B0
    obtain ⟨b1, f1⟩ := B1
    obtain ⟨b2, f2⟩ := B2
    obtain ⟨b3, f3⟩ := B3
    obtain ⟨b4, f4⟩ := B4
    obtain ⟨v0, _⟩ := V0
    obtain ⟨v1, _⟩ := V1
    obtain ⟨v2, _⟩ := V2
    obtain ⟨v3, _⟩ := V3
    obtain ⟨v4, _⟩ := V4
    have hgu : g ≠ u := by have := HU.out; omega
    have hru : r ≠ u := by have := HU.out; have := hr.out; omega
    have hgr : g ≠ r := by have := hr.out; omega
    have h4s := h4.size
    replace HQ := Lib.hid HQ.out
    have T4 := (Two.of_below (g := g) (row := some q) hb).only rfl h4
    have T5 := T4.setg 1 (.slice (some ⟨q, 0, none⟩) (es.eraseIdx k).length fc)
    have N5 : Net (w4.setCell ⟨g, 1, none⟩ (.slice (some ⟨q, 0, none⟩) (es.eraseIdx k).length fc)) g base last (.slice (some ⟨q, 0, none⟩) (es.eraseIdx k).length fc) (es.eraseIdx k) :=
      ⟨C0.far (by simp) _, C1.set _, O4.far (by intro h; injection h with h; exact hgq h.symm) _, N3.gb, by intro h; injection h with h; exact hgq h.symm⟩
    have NF := Lib.hid (net5 N5 (Ne.symm hgr) (r := r) (by intro h; injection h with h; exact hrq h.symm))
    have TF := Lib.hid (two5 T5 (r := r) (by have := hr.out; omega))
    have HK := Lib.hid hk
    obtain ⟨k1, g1⟩ := C1
    clear hk1 hb T4 T5 N5 N3 N2 O3 O4 C0 h4
    go_wp2
    refine bodyPost_ret (v := .tuple #[.agg #[.int .i64 qi, .int .i64 qf, .int .i64 qt, .int .i64 qn, .slice sA sn sc], .int .i64 0]) (by rw [results_cell_tmp rfl]; go_simp) rfl ⟨k, .slice (some ⟨q, 0, none⟩) (es.eraseIdx k).length fc, by have := HK.out; have := HNn.out; omega, by rw [← HQ.out], by rw [← HQ.out, evV], NF.out _ _ _ _ _, rfl, TF.out _ _ _ _ _⟩
end Go.Proofs.Ytekgmgiokmbliaa
