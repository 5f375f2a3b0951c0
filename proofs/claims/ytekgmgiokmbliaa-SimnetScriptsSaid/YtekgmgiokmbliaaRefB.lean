/-
  The reference's line by what it holds: Send, place.
-/
import Derived.Test.YtekgmgiokmbliaaRef
set_option linter.unusedVariables false
namespace Go.Proofs.Ytekgmgiokmbliaa
open Go.RowKit

def RLine (w : World) (M : Nat → Prop) (g base : Nat) (row : Option Nat) (last : Int) (C : List Cn) : Prop :=
  ∃ (fv : Value) (P : List (Ev × List UInt8)), RNet w g base last fv (P.map (·.1)) ∧ fv.ownBlock = row ∧ C = P.map cn ∧ (∀ p ∈ P, Bod w M p.1.2.2.2.2 p.2) ∧ M g ∧ (∀ r, row = some r → M r) ∧ ∀ b, M b → b < w.heap.size
theorem RLine.lt {w : World} {M : Nat → Prop} {g base : Nat} {row : Option Nat} {last : Int} {C : List Cn} (h : RLine w M g base row last C) : base ≤ g ∧ g < w.heap.size ∧ ∀ r, row = some r → base ≤ r ∧ r < w.heap.size := by
  obtain ⟨fv, P, hN, rfl, hC, hB, _⟩ := h
  exact ⟨hN.gb, hN.c0.lt, fun r hr => World.ownsRow.lt hN.own r hr⟩
/-- a line stays while others turn -/
theorem RLine.move {w w' : World} {M M' : Nat → Prop} {g base : Nat} {row : Option Nat} {last : Int} {C : List Cn} (h : RLine w M g base row last C) (t : Fr M w w') (hg : w'.heap[g]? = w.heap[g]?) (hr : ∀ r, row = some r → w'.heap[r]? = w.heap[r]?)
    (h1 : ∀ b, M b → M' b) (h2 : ∀ b, M' b → M b ∨ w.heap.size ≤ b) (h3 : ∀ b, M' b → b < w'.heap.size) : RLine w' M' g base row last C := by
  obtain ⟨fv, P, hN, rfl, hC, hB, hMg, hMr, _⟩ := h
  exact ⟨fv, P, ⟨cell_block hN.c0 hg, cell_block hN.c1 hg, row_block hN.own hr, hN.gb, hN.apart⟩, rfl, hC, fun p hp => (hB p hp).move t h2, h1 _ hMg, fun r hr => h1 _ (hMr r hr), h3⟩
theorem RLine.below {w w' : World} {M : Nat → Prop} {g base : Nat} {row : Option Nat} {last : Int} {C : List Cn} (h : RLine w M g base row last C) (hb : Below w.heap.size w w') : RLine w' M g base row last C := by
  have hl := h.lt
  have hM : ∀ b, M b → b < w.heap.size := by obtain ⟨_, _, _, _, _, _, _, _, h⟩ := h; exact h
  exact h.move (Below.fr hb) (hb.block g hl.2.1) (fun r hr => hb.block r (hl.2.2 r hr).2) (fun _ h => h) (fun _ h => .inl h) (fun b h => Nat.lt_of_lt_of_le (hM b h) hb.size)
theorem RLine.below2 {w w' : World} {M : Nat → Prop} {g base B : Nat} {row : Option Nat} {last : Int} {C : List Cn} (h : RLine w M g base row last C) (t : Two g row w w') (hB : B ≤ base) (hw : B ≤ w.heap.size) : Below B w w' := by
  obtain ⟨h1, h2, h3⟩ := h.lt
  exact t.below (by omega) (by intro r hr; have := (h3 r hr).1; omega) hw
theorem rsend_line (M : Nat → Prop) (g base : Nat) (row : Option Nat) (last : Int) (C : List Cn) (i f t k : Int) (A : Option Addr) (n c : Nat) (l : List UInt8) (w : World) (hL : RLine w M g base row last C) (hok : okB f t k n = true) (hn : n = l.length) (hr : Rd w w.heap.size A l) (hAg : ∀ q o, A = some ⟨q, o, none⟩ → l ≠ [] → q ≠ g ∧ some q ≠ row) (hC : C.length < 1000) (hl1 : 0 ≤ last) (hl2 : last < 4611686018427387904) :
    Calls Try.prog 12 #[.pointer (some ⟨g, 0, none⟩), .agg #[.int .i64 i, .int .i64 f, .int .i64 t, .int .i64 k, .slice A n c]] w fun e w' => ∃ row', e = .returned (.tuple #[.int .i64 (last + 1), .int .i64 0]) ∧ RLine w' (plus M row') g base row' (last + 1) (C ++ [(last + 1, f, t, k, l)]) ∧ Two g row w w' ∧ (row' = row ∨ ∀ r, row' = some r → w.heap.size ≤ r) := by
  obtain ⟨fv, P, hN, rfl, rfl, hB, hMg, hMr, hM⟩ := hL
  simp only [okB, Bool.and_eq_true, decide_eq_true_eq] at hok
  obtain ⟨⟨⟨h1, h2⟩, h3⟩, h4⟩ := hok
  refine (rsend_ok g base last fv (P.map (·.1)) i f t k A n c l w hN h1 h2 h3.1 h3.2 hn h4 hr hAg (by simpa using hC) hl1 hl2).mono ?_
  rintro e w' ⟨v, fv', rfl, N', O', hva, T, hlies⟩
  have hpl : ∀ b, plus M fv'.ownBlock b → M b ∨ w.heap.size ≤ b := by
    rintro b (h | h)
    · exact .inl h
    · rcases hlies with h' | h'
      · exact .inl (hMr b (h'.symm.trans h))
      · exact .inr (h' b h)
  refine ⟨fv'.ownBlock, rfl, ⟨fv', P ++ [((last + 1, f, t, k, v), l)], by simpa using N', rfl, by simp [cn], fun p hp => ?_, .inl hMg, fun r hr => .inr hr, ?_⟩, T, hlies⟩
  · rcases List.mem_append.1 hp with hp | hp
    · exact (hB p hp).move (T.fr hMg hMr) hpl
    · rw [List.mem_singleton.1 hp]
      refine O'.bod (by omega) (fun b hb hv hm => ?_)
      rcases hm with hm | hm
      · have := hM b hm; omega
      · exact hva b hv hm
  · rintro b (h | h)
    · exact Nat.lt_of_lt_of_le (hM b h) T.size
    · exact (World.ownsRow.lt N'.own b h).2

set_option maxHeartbeats 1600000 in
set_option maxRecDepth 100000 in
theorem rsend_bad (g : Nat) (i f t k : Int) (A : Option Addr) (n c : Nat) (w : World) (hn : n ≤ 9223372036854775807) (hbad : okB f t k n = false) :
    Calls Try.prog 12 #[.pointer (some ⟨g, 0, none⟩), .agg #[.int .i64 i, .int .i64 f, .int .i64 t, .int .i64 k, .slice A n c]] w fun e w' => e = .returned (.tuple #[.int .i64 0, .int .i64 1]) ∧ Below w.heap.size w w' := by
  have hb := below1' w (.cells #[.int .i64 i, .int .i64 f, .int .i64 t, .int .i64 k, .slice A n c] 32)
  have NF := Lib.hid (rnode_any f)
  have NT := Lib.hid (rnode_any t)
  by_cases h1 : isNodeB f = true
  · by_cases h2 : isNodeB t = true
    · rw [h1] at NF
      rw [h2] at NT
      simp only [okB, h1, h2, Bool.true_and] at hbad
      by_cases h3 : k < 1
      · clear hbad h1 h2
        go_enter Try.func12, Try.ntmps12
        go_wp2_with fail
        refine (NF.out _).mono ?_
        rintro e w1 ⟨rfl, rfl⟩
        go_wp2_with fail
        refine (NT.out _).mono ?_
        rintro e w1 ⟨rfl, rfl⟩
        go_wp2
        go_ret2
        exact ⟨rfl, hb⟩
      · by_cases h4 : 255 < k
        · clear hbad h1 h2
          go_enter Try.func12, Try.ntmps12
          go_wp2_with fail
          refine (NF.out _).mono ?_
          rintro e w1 ⟨rfl, rfl⟩
          go_wp2_with fail
          refine (NT.out _).mono ?_
          rintro e w1 ⟨rfl, rfl⟩
          go_wp2
          go_ret2
          exact ⟨rfl, hb⟩
        · have h5 : 1048576 < n := by
            rw [decide_eq_true (show 1 ≤ k ∧ k ≤ 255 by omega), Bool.true_and, decide_eq_false_iff_not] at hbad
            omega
          clear hbad h1 h2
          go_enter Try.func12, Try.ntmps12
          go_wp2_with fail
          refine (NF.out _).mono ?_
          rintro e w1 ⟨rfl, rfl⟩
          go_wp2_with fail
          refine (NT.out _).mono ?_
          rintro e w1 ⟨rfl, rfl⟩
          go_wp2
          go_ret2
          exact ⟨rfl, hb⟩
    · have h2 : isNodeB t = false := by simpa using h2
      rw [h1] at NF
      rw [h2] at NT
      clear hbad h1 h2
      go_enter Try.func12, Try.ntmps12
      go_wp2_with fail
      refine (NF.out _).mono ?_
      rintro e w1 ⟨rfl, rfl⟩
      go_wp2_with fail
      refine (NT.out _).mono ?_
      rintro e w1 ⟨rfl, rfl⟩
      go_wp2
      go_ret2
      exact ⟨rfl, hb⟩
  · have h1 : isNodeB f = false := by simpa using h1
    rw [h1] at NF
    clear hbad h1
    go_enter Try.func12, Try.ntmps12
    go_wp2_with fail
    refine (NF.out _).mono ?_
    rintro e w1 ⟨rfl, rfl⟩
    go_wp2_with fail
    refine (NT.out _).mono ?_
    rintro e w1 ⟨rfl, rfl⟩
    go_wp2
    go_ret2
    exact ⟨rfl, hb⟩

theorem RNet.below {w w' : World} {g base : Nat} {last : Int} {fv : Value} {es : List Ev} (h : RNet w g base last fv es) (hb : Below w.heap.size w w') : RNet w' g base last fv es :=
  ⟨h.c0.keep hb, h.c1.keep hb, h.own.below hb, h.gb, h.apart⟩

/-- what place answers -/
def Placed (es : List Ev) (x p : Int) : Prop := (p = -1 ∧ ∀ e ∈ es, e.1 ≠ x) ∨ ∃ k : Nat, p = k ∧ k < es.length ∧ (evAt es k).1 = x

set_option maxHeartbeats 1600000 in
set_option maxRecDepth 100000 in
theorem rplace_any (g base : Nat) (last : Int) (fv : Value) (es : List Ev) (x : Int) (w : World) (hN : RNet w g base last fv es) (hlen : es.length ≤ 1000) :
    Calls Try.prog 36 #[.pointer (some ⟨g, 0, none⟩), .int .i64 x] w fun e w' => ∃ p : Int, e = .returned (.int .i64 p) ∧ Placed es x p ∧ w = w' := by
  obtain ⟨fA, fc, rfl⟩ := hN.own.form
  have HE := Lib.hid hN.own.evs
  have k1 := hN.c1.1
  obtain ⟨n, hn⟩ : ∃ n, n = es.length := ⟨_, rfl⟩
  rw [← hn] at k1 hlen
  have HN := Lib.hid hn
  clear hN hn
  go_enter Try.func36, Try.ntmps36
  go_wp2
  go_loopw [5] (fun s5 wr => ∃ k : Nat, s5 = .int .i64 k ∧ k ≤ n ∧ w = wr ∧ Hid (∀ i, i < k → (evAt es i).1 ≠ x)) (fun s5 _ => n - (intOf s5).toNat)
  case atStart => exact ⟨0, rfl, by omega, rfl, fun i hi => absurd hi (by omega)⟩
  case round =>
    obtain ⟨k, rfl, hk, rfl, HK⟩ := hrel
    by_cases hlt : k < n
    · rcases HE.out with h0 | ⟨q, rfl, hq, hc⟩
      · have := HN.out; rw [h0] at this; simp at this; omega
      · obtain ⟨c0, c1, c2, c3, c4⟩ := hc k (by have := HN.out; omega)
        clear hc c1 c2 c3 c4
        obtain ⟨y, hy⟩ : ∃ y, y = (evAt es k).1 := ⟨_, rfl⟩
        rw [← hy] at c0
        have HY := Lib.hid hy
        clear hy
        by_cases hyx : y = x
        · subst hyx
          go_wp2
          go_ret
          exact ⟨k, rfl, .inr ⟨k, rfl, by have := HN.out; omega, HY.out.symm⟩, rfl⟩
        · have hne : (y == x) = false := by rw [beq_eq_false_iff_ne]; exact hyx
          go_wp2
          go_roundw
          case rel =>
            refine ⟨k + 1, by go_num, by omega, trivial, fun i hi => ?_⟩
            by_cases hik : i = k
            · rw [hik, ← HY.out]; exact hyx
            · exact HK.out i (by omega)
          case measure => simp [intOf]; omega
    · have hkn : k = n := by omega
      subst hkn
      go_wp2
      go_ret
      refine ⟨-1, rfl, .inl ⟨rfl, fun e he => ?_⟩, rfl⟩
      obtain ⟨i, hi, rfl⟩ := mem_evAt he
      exact HK.out i (by have := HN.out; omega)
end Go.Proofs.Ytekgmgiokmbliaa
