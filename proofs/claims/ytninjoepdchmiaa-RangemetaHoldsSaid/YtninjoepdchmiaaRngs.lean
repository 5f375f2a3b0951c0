/-
  Ranges in memory; sort.Search over them.
-/
import Derived.Test.YtninjoepdchmiaaSpan
set_option linter.unusedVariables false
namespace Go.Proofs.Ytninjoepdchmiaa
open Go.RowKit

structure RD where
  id : Int
  gen : Int
  fr : List UInt8
  to : List UInt8
/-- a range and where its ends lie -/
structure RV where
  d : RD
  F : Option Addr
  fc : Nat
  T : Option Addr
  tc : Nat
def rc (x : RV) : List Value := [.int .i64 x.d.id, .slice x.F x.d.fr.length x.fc, .slice x.T x.d.to.length x.tc, .int .i64 x.d.gen]
def rval (x : RV) : Value := .agg #[.int .i64 x.d.id, .slice x.F x.d.fr.length x.fc, .slice x.T x.d.to.length x.tc, .int .i64 x.d.gen]
/-- the ends can be read, and are not larger than any memory -/
structure RTx (w : World) (B : Nat) (x : RV) : Prop where
  f : Rd w B x.F x.d.fr
  t : Rd w B x.T x.d.to
  lf : x.d.fr.length ≤ 140737488351232
  lt : x.d.to.length ≤ 140737488351232
  nf : x.F = none → x.fc = 0
  nt : x.T = none → x.tc = 0
theorem RTx.below {w w' : World} {B : Nat} {x : RV} (h : RTx w B x) (hb : Below B w w') : RTx w' B x := ⟨h.f.below hb, h.t.below hb, h.lf, h.lt, h.nf, h.nt⟩
theorem RTx.more {w : World} {B B' : Nat} {x : RV} (h : RTx w B x) (hb : B ≤ B') : RTx w B' x := ⟨h.f.more hb, h.t.more hb, h.lf, h.lt, h.nf, h.nt⟩
/-- the slice at A reads as these ranges -/
def RsRd (w : World) (B : Nat) (A : Option Addr) (L : List RV) : Prop := L = [] ∨ ∃ q o, A = some ⟨q, o, none⟩ ∧ q < B ∧ ∀ k (h : k < L.length),
  w.cell? ⟨q, o + k * 4, none⟩ = some (.int .i64 L[k].d.id) ∧ w.cell? ⟨q, o + k * 4 + 1, none⟩ = some (.slice L[k].F L[k].d.fr.length L[k].fc) ∧ w.cell? ⟨q, o + k * 4 + 2, none⟩ = some (.slice L[k].T L[k].d.to.length L[k].tc) ∧ w.cell? ⟨q, o + k * 4 + 3, none⟩ = some (.int .i64 L[k].d.gen) ∧ RTx w B L[k]
theorem RsRd.below {w w' : World} {B : Nat} {A : Option Addr} {L : List RV} (h : RsRd w B A L) (hb : Below B w w') : RsRd w' B A L := by
  rcases h with h | ⟨q, o, hA, hq, hc⟩
  · exact .inl h
  · refine .inr ⟨q, o, hA, hq, fun k hk => ?_⟩
    obtain ⟨h0, h1, h2, h3, h4⟩ := hc k hk
    exact ⟨(hb.cell (p := ⟨q, o + k * 4, none⟩) hq).trans h0, (hb.cell (p := ⟨q, o + k * 4 + 1, none⟩) hq).trans h1, (hb.cell (p := ⟨q, o + k * 4 + 2, none⟩) hq).trans h2, (hb.cell (p := ⟨q, o + k * 4 + 3, none⟩) hq).trans h3, h4.below hb⟩
theorem RsRd.more {w : World} {B B' : Nat} {A : Option Addr} {L : List RV} (h : RsRd w B A L) (hB : B ≤ B') : RsRd w B' A L := by
  rcases h with h | ⟨q, o, hA, hq, hc⟩
  · exact .inl h
  · refine .inr ⟨q, o, hA, by omega, fun k hk => ?_⟩
    obtain ⟨h0, h1, h2, h3, h4⟩ := hc k hk
    exact ⟨h0, h1, h2, h3, h4.more hB⟩
theorem RsRd.keep {w w' : World} {A : Option Addr} {L : List RV} (h : RsRd w w.heap.size A L) (hb : Below w.heap.size w w') : RsRd w' w'.heap.size A L := (h.below hb).more hb.size
theorem RTx.drewN {w : World} {B : Nat} {x : RV} (h : RTx w B x) (m : Nat) : RTx (w.drewN m) B x := ⟨h.f, h.t, h.lf, h.lt, h.nf, h.nt⟩
theorem RsRd.drewN {w : World} {B : Nat} {A : Option Addr} {L : List RV} (h : RsRd w B A L) (m : Nat) : RsRd (w.drewN m) B A L := h.below (below_drewN (Below.refl _ _) m)
theorem Rd.keep' {w w' : World} {A : Option Addr} {l : List UInt8} (h : Rd w w.heap.size A l) (hb : Below w.heap.size w w') : Rd w' w'.heap.size A l := (h.below hb).more hb.size

/-- a range in a block of its own -/
structure Box4 (w : World) (g : Nat) (x : RV) : Prop where
  c0 : Cell w g 0 (.int .i64 x.d.id)
  c1 : Cell w g 1 (.slice x.F x.d.fr.length x.fc)
  c2 : Cell w g 2 (.slice x.T x.d.to.length x.tc)
  c3 : Cell w g 3 (.int .i64 x.d.gen)
theorem Box4.new (w : World) (x : RV) : Box4 (w.alloc (.cells #[.int .i64 x.d.id, .slice x.F x.d.fr.length x.fc, .slice x.T x.d.to.length x.tc, .int .i64 x.d.gen] 46)) w.heap.size x :=
  ⟨Cell.new _ _ _ 0 _ rfl, Cell.new _ _ _ 1 _ rfl, Cell.new _ _ _ 2 _ rfl, Cell.new _ _ _ 3 _ rfl⟩
theorem Box4.keep {w w' : World} {g : Nat} {x : RV} (h : Box4 w g x) (hb : Below w.heap.size w w') : Box4 w' g x := ⟨h.c0.keep hb, h.c1.keep hb, h.c2.keep hb, h.c3.keep hb⟩

set_option maxHeartbeats 3200000 in
set_option maxRecDepth 100000 in
/-- sort.Search by a predicate that rises -/
theorem search_any (n : Nat) (p3 p2 : Value) (Pd : Nat → Bool) (w : World) (hn : n ≤ 140737488351232)
    (hc : ∀ w' k, Below w.heap.size w w' → k < n → Calls Try.prog 83 #[.int .i64 k, p3, p2] w' fun e w'' => e = .returned (.bool (Pd k)) ∧ Below w'.heap.size w' w'')
    (hm : ∀ i j, i ≤ j → j < n → Pd i = true → Pd j = true) :
    Calls Try.prog 82 #[.int .i64 n, .func (.func 83) #[] #[p3, p2]] w fun e w' => (∃ k : Nat, e = .returned (.int .i64 k) ∧ k ≤ n ∧ (∀ j, j < k → Pd j = false) ∧ (∀ j, k ≤ j → j < n → Pd j = true)) ∧ Below w.heap.size w w' := by
  have HC := Lib.hid hc
  have HM := Lib.hid hm
  clear hc hm
  go_enter Try.func82, Try.ntmps82
  go_wp2
  go_loopw [5, 6] (fun s5 s6 wr => ∃ lo hi : Nat, s5 = .int .i64 lo ∧ s6 = .int .i64 hi ∧ lo ≤ hi ∧ hi ≤ n ∧ Hid ((∀ t, t < lo → Pd t = false) ∧ (∀ t, hi ≤ t → t < n → Pd t = true)) ∧ Below w.heap.size w wr) (fun s5 s6 _ => (intOf s6).toNat - (intOf s5).toNat)
  case atStart => exact ⟨0, n, rfl, rfl, Nat.zero_le _, Nat.le_refl _, ⟨fun t h => absurd h (Nat.not_lt_zero _), fun t h1 h2 => absurd h1 (by omega)⟩, Below.refl _ _⟩
  case round =>
    obtain ⟨lo, hi, rfl, rfl, hlh, hin, I, hb⟩ := hrel
    by_cases hlt : lo < hi
    · obtain ⟨m, hm⟩ : ∃ m, m = (lo + hi) / 2 := ⟨_, rfl⟩
      have hm2 : ((lo : Int) + (hi : Int)) / 2 = (m : Int) := by omega
      have hlt' : (lo : Int) < (hi : Int) := by omega
      have hml : lo ≤ m ∧ m < hi := by omega
      have C := Lib.hid (HC.out wr m hb (by omega))
      obtain ⟨b, hbm⟩ : ∃ b, b = Pd m := ⟨_, rfl⟩
      rw [← hbm] at C
      have HBM := Lib.hid hbm
      clear hm hbm
      cases b with
      | true =>
        have HI2 : Hid ((∀ t, t < lo → Pd t = false) ∧ (∀ t, m ≤ t → t < n → Pd t = true)) := ⟨I.out.1, fun t h1 h2 => HM.out m t h1 h2 HBM.out.symm⟩
        go_wp2_with (go_at_call 83; refine C.out.mono ?_; rintro e w2 ⟨rfl, h2⟩)
        go_roundw
        case rel => exact ⟨lo, m, rfl, rfl, by omega, by omega, HI2, hb.trans (h2.mono hb.size)⟩
        case measure => simp [intOf]; omega
      | false =>
        have HI2 : Hid ((∀ t, t < m + 1 → Pd t = false) ∧ (∀ t, hi ≤ t → t < n → Pd t = true)) := ⟨fun t h1 => by
          cases hp : Pd t with
          | false => rfl
          | true => have := HM.out t m (by omega) (by omega) hp; rw [← HBM.out] at this; exact this.symm, I.out.2⟩
        go_wp2_with (go_at_call 83; refine C.out.mono ?_; rintro e w2 ⟨rfl, h2⟩)
        go_roundw
        case rel => exact ⟨m + 1, hi, by go_num, rfl, by omega, by omega, HI2, hb.trans (h2.mono hb.size)⟩
        case measure => simp [intOf]; omega
    · obtain rfl : hi = lo := by omega
      go_wp2
      go_ret
      exact ⟨⟨hi, rfl, hin, I.out.1, I.out.2⟩, hb⟩
end Go.Proofs.Ytninjoepdchmiaa
