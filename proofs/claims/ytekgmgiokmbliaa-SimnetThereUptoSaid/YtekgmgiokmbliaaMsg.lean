/-
  Raft messages: what one may be; the small tests of both sides.
-/
import Derived.Test.YtekgmgiokmbliaaOnce
import Derived.BigQuiet
set_option linter.unusedVariables false
namespace Go.Proofs.Ytekgmgiokmbliaa
open Go.RowKit

structure Ent where
  index : Int
  term : Int
  kind : Int
  data : List UInt8
structure Msg where
  kind : Int
  group : Int
  frm : Int
  dst : Int
  term : Int
  index : Int
  logTerm : Int
  commit : Int
  ok : Bool
  entries : List Ent
  members : List Int
  data : List UInt8

def CountP (n : Int) : Prop := 0 ≤ n ∧ n ≤ 9007199254740991
def NodeP (n : Int) : Prop := 1 ≤ n ∧ n ≤ 5
/-- nodes that rise -/
def RiseP (l : List Int) : Prop := ∀ i (h : i < l.length), NodeP l[i] ∧ ∀ j (hj : j < l.length), j + 1 = i → l[j] < l[i]
def MembersP (l : List Int) : Prop := 0 < l.length ∧ RiseP l
def intsOf (b : List UInt8) : List Int := b.map (fun x => (x.toNat : Int))
def EntP (e : Ent) : Prop := (1 ≤ e.term ∧ e.term ≤ 9007199254740991) ∧ CountP e.index ∧ ((e.kind = 1 ∧ e.data.length = 0) ∨ (e.kind = 2 ∧ e.data.length ≤ 12000) ∨ (e.kind = 3 ∧ MembersP (intsOf e.data)))
def GoodE (m : Msg) (i : Nat) (e : Ent) : Prop := EntP e ∧ e.index = m.index + 1 + i ∧ e.term ≤ m.term
def EntriesP (m : Msg) : Prop := m.entries.length ≤ 64 ∧ ∀ i (h : i < m.entries.length), GoodE m i m.entries[i]
def HeadP (m : Msg) : Prop := (1 ≤ m.group ∧ m.group ≤ 255) ∧ NodeP m.frm ∧ NodeP m.dst ∧ (1 ≤ m.term ∧ m.term ≤ 9007199254740991)
def CountsP (m : Msg) : Prop := CountP m.index ∧ CountP m.logTerm ∧ CountP m.commit
def NoneP (m : Msg) : Prop := m.members.length = 0 ∧ m.data.length = 0
def KindP (m : Msg) : Prop :=
  (m.kind = 1 ∧ m.commit = 0 ∧ m.ok = false ∧ m.entries.length = 0 ∧ NoneP m) ∨
  (m.kind = 2 ∧ m.index = 0 ∧ m.logTerm = 0 ∧ m.commit = 0 ∧ m.entries.length = 0 ∧ NoneP m) ∨
  (m.kind = 3 ∧ m.ok = false ∧ NoneP m ∧ m.logTerm ≤ m.term ∧ EntriesP m) ∨
  (m.kind = 4 ∧ m.logTerm = 0 ∧ m.commit = 0 ∧ m.entries.length = 0 ∧ NoneP m) ∨
  (m.kind = 5 ∧ m.commit = 0 ∧ m.ok = false ∧ m.entries.length = 0 ∧ MembersP m.members ∧ m.data.length ≤ 60000 ∧ m.logTerm ≤ m.term)
def RightP (m : Msg) : Prop := HeadP m ∧ CountsP m ∧ KindP m

theorem RiseP.ge {l : List Int} (h : RiseP l) : ∀ i (hi : i < l.length), (i : Int) + 1 ≤ l[i]
  | 0, hi => by have := (h 0 hi).1.1; omega
  | i + 1, hi => by
    have := h.ge i (by omega)
    have := (h (i + 1) hi).2 i (by omega) rfl
    omega
theorem RiseP.five {l : List Int} (h : RiseP l) : l.length ≤ 5 := by
  by_cases h0 : l.length ≤ 5
  · exact h0
  · have := h.ge 5 (by omega)
    have := (h 5 (by omega)).1.2
    omega

/-- a call answers whether P -/
def Tells (e : Ending) (P : Prop) : Prop := ∃ b, e = .returned (.bool b) ∧ (b = true ↔ P)
theorem Tells.of {b : Bool} {P : Prop} (h : b = true ↔ P) : Tells (.returned (.bool b)) P := ⟨b, rfl, h⟩
theorem Tells.no {P : Prop} (h : ¬ P) : Tells (.returned (.bool false)) P := ⟨false, rfl, (fun h => nomatch h), fun h' => absurd h' h⟩
theorem Tells.yes {P : Prop} (h : P) : Tells (.returned (.bool true)) P := ⟨true, rfl, fun _ => h, fun _ => rfl⟩

/-- the slice at A reads as these numbers -/
def RdI (w : World) (B : Nat) (A : Option Addr) (L : List Int) : Prop := L = [] ∨ ∃ g o, A = some ⟨g, o, none⟩ ∧ g < B ∧ ∀ i (h : i < L.length), w.cell? ⟨g, o + i, none⟩ = some (.int .i64 L[i])
theorem RdI.below {w w' : World} {B : Nat} {A : Option Addr} {L : List Int} (h : RdI w B A L) (hb : Below B w w') : RdI w' B A L := by
  rcases h with h | ⟨g, o, hA, hg, hc⟩
  · exact .inl h
  · exact .inr ⟨g, o, hA, hg, fun i hi => (hb.cell (p := ⟨g, o + i, none⟩) hg).trans (hc i hi)⟩
theorem RdI.more {w : World} {B B' : Nat} {A : Option Addr} {L : List Int} (h : RdI w B A L) (hB : B ≤ B') : RdI w B' A L := by
  rcases h with h | ⟨g, o, hA, hg, hc⟩
  · exact .inl h
  · exact .inr ⟨g, o, hA, by omega, hc⟩
theorem OwnI.rdI {w : World} {base : Nat} {A : Option Addr} {n c : Nat} {G : List Int} (h : OwnI w base (.slice A n c) G) : RdI w w.heap.size A G := by
  by_cases h0 : G = []
  · exact .inl h0
  · have hl : 0 < G.length := List.length_pos_iff.2 h0
    obtain ⟨q, rfl, _⟩ := h.at hl
    refine .inr ⟨q, 0, rfl, (h.lt q rfl).2, fun i hi => ?_⟩
    obtain ⟨q', he, hc⟩ := h.at hi
    injection he with he; injection he with he
    subst he
    rw [Nat.zero_add]
    exact hc

set_option maxRecDepth 100000 in
theorem count_any (n : Int) (w : World) : Calls Try.prog 59 #[.int .i64 n] w fun e w' => Tells e (CountP n) ∧ w = w' := by
  unfold CountP
  by_cases h0 : 0 ≤ n
  · go_enter Try.func59, Try.ntmps59
    go_wp2
    go_ret
    exact ⟨.of (by simp [h0]), rfl⟩
  · go_enter Try.func59, Try.ntmps59
    go_wp2
    go_ret
    exact ⟨.no (by omega), rfl⟩
set_option maxRecDepth 100000 in
theorem rcount_any (n : Int) (w : World) : Calls Try.prog 52 #[.int .i64 n] w fun e w' => Tells e (CountP n) ∧ w = w' := by
  unfold CountP
  by_cases h0 : 0 ≤ n
  · go_enter Try.func52, Try.ntmps52
    go_wp2
    go_ret
    exact ⟨.of (by simp [h0]), rfl⟩
  · go_enter Try.func52, Try.ntmps52
    go_wp2
    go_ret
    exact ⟨.no (by omega), rfl⟩
set_option maxRecDepth 100000 in
theorem term_any (n : Int) (w : World) : Calls Try.prog 58 #[.int .i64 n] w fun e w' => Tells e (1 ≤ n ∧ n ≤ 9007199254740991) ∧ w = w' := by
  by_cases h0 : 1 ≤ n
  · go_enter Try.func58, Try.ntmps58
    go_wp2
    go_ret
    exact ⟨.of (by simp [h0]), rfl⟩
  · go_enter Try.func58, Try.ntmps58
    go_wp2
    go_ret
    exact ⟨.no (by omega), rfl⟩

set_option maxHeartbeats 1600000 in
set_option maxRecDepth 100000 in
theorem members_any (L : List Int) (A : Option Addr) (n c : Nat) (w : World) (hn : n = L.length) (hr : RdI w w.heap.size A L) (hl : n ≤ 9223372036854775807) :
    Calls Try.prog 61 #[.slice A n c] w fun e w' => Tells e (MembersP L) ∧ w = w' := by
  have HN := Lib.hid hn
  have HR := Lib.hid hr
  clear hn hr
  go_enter Try.func61, Try.ntmps61
  go_wp2
  go_loopw [7] (fun s7 wr => ∃ k : Nat, s7 = .int .i64 k ∧ k ≤ n ∧ w = wr ∧ Hid (∀ i (h : i < L.length), i < k → NodeP L[i] ∧ ∀ j (hj : j < L.length), j + 1 = i → L[j] < L[i])) (fun s7 _ => n - (intOf s7).toNat)
  case atStart => exact ⟨0, rfl, by omega, rfl, fun i h hi => absurd hi (by omega)⟩
  case round =>
    obtain ⟨k, rfl, hk, rfl, HK⟩ := hrel
    by_cases hlt : k < n
    · have hkl : k < L.length := by have := HN.out; omega
      rcases HR.out with h0 | ⟨q, o, rfl, hq, hc⟩
      · rw [h0] at hkl; simp at hkl
      have d0 := hc k hkl
      obtain ⟨y, hy⟩ : ∃ y, y = L[k] := ⟨_, rfl⟩
      rw [← hy] at d0
      have HY := Lib.hid hy
      clear hy
      have NF := Lib.hid (node_any y)
      by_cases hnode : isNodeB y = true
      · rw [hnode] at NF
        have hnp := Lib.hid (show NodeP y by simpa [isNodeB, NodeP] using hnode)
        clear hnode
        by_cases h0 : k = 0
        · subst h0
          rw [Nat.add_zero] at d0
          clear hc
          go_wp2_with fail
          refine (NF.out _).mono ?_
          rintro e w1 ⟨rfl, rfl⟩
          go_wp2
          go_roundw
          case rel =>
            refine ⟨1, by go_num, by omega, trivial, fun i h hi => ?_⟩
            obtain rfl : i = 0 := by omega
            exact ⟨HY.out ▸ hnp.out, fun j hj hji => absurd hji (by omega)⟩
          case measure => simp [intOf]; omega
        · have hpos : 0 < k := by omega
          obtain ⟨k', rfl⟩ : ∃ k', k = k' + 1 := ⟨k - 1, by omega⟩
          have hk'l : k' < L.length := by omega
          have d1 := hc k' hk'l
          obtain ⟨z, hz⟩ : ∃ z, z = L[k'] := ⟨_, rfl⟩
          rw [← hz] at d1
          have HZ := Lib.hid hz
          clear hz hc
          have e1 : ((k' + 1 : Nat) : Int) - 1 = (k' : Int) := by omega
          by_cases hzy : z < y
          · have hge : decide (y ≤ z) = false := by simp; omega
            go_wp2_with fail
            refine (NF.out _).mono ?_
            rintro e w1 ⟨rfl, rfl⟩
            go_wp2
            go_roundw
            case rel =>
              refine ⟨k' + 1 + 1, by go_num, by omega, trivial, fun i h hi => ?_⟩
              by_cases hik : i = k' + 1
              · subst hik
                refine ⟨HY.out ▸ hnp.out, fun j hj hji => ?_⟩
                obtain rfl : j = k' := by omega
                rw [← HY.out, ← HZ.out]
                exact hzy
              · exact HK.out i h (by omega)
            case measure => simp [intOf]; omega
          · have hge : y ≤ z := by omega
            go_wp2_with fail
            refine (NF.out _).mono ?_
            rintro e w1 ⟨rfl, rfl⟩
            go_wp2
            go_ret
            exact ⟨.no (fun h => absurd ((h.2 (k' + 1) hkl).2 k' hk'l rfl) (by rw [← HY.out, ← HZ.out]; omega)), rfl⟩
      · have hnode' : isNodeB y = false := by simpa using hnode
        rw [hnode'] at NF
        have hnp : ¬ NodeP y := by simpa [isNodeB, NodeP] using hnode
        clear hc hnode hnode'
        go_wp2_with fail
        refine (NF.out _).mono ?_
        rintro e w1 ⟨rfl, rfl⟩
        go_wp2
        go_ret
        exact ⟨.no (fun h => absurd (h.2 k hkl).1 (by rw [← HY.out]; exact hnp)), rfl⟩
    · have hkn : k = n := by omega
      subst hkn
      go_wp2
      go_ret
      have hn := HN.out
      refine ⟨.of ?_, rfl⟩
      rw [decide_eq_true_eq]
      exact ⟨fun h => ⟨by omega, fun i hi => HK.out i hi (by omega)⟩, fun h => by have := h.1; omega⟩
end Go.Proofs.Ytekgmgiokmbliaa
