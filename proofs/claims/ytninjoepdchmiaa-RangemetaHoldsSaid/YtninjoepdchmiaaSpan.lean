/-
  Spans and keys: endsBehind, contains, isEmpty.
-/
import Derived.Test.YtninjoepdchmiaaCompare
import Derived.Test.YtninjoepdchmiaaSClone
import Derived.Test.YtninjoepdchmiaaOrd
set_option linter.unusedVariables false
namespace Go.Proofs.Ytninjoepdchmiaa
open Go.RowKit

/-- a key is below the end, if there is one -/
def ebB (to key : List UInt8) : Bool := to.isEmpty || decide (cmp key to < 0)
def ctB (from_ to key : List UInt8) : Bool := decide (0 ≤ cmp key from_) && ebB to key
def emB (from_ to : List UInt8) : Bool := !to.isEmpty && decide (cmp to from_ ≤ 0)
def maxB : Nat := 9223372036854775807
theorem compare_at (A A' : Option Addr) (n n' c c' B B' : Nat) (s t : List UInt8) (w : World) (hn : n = s.length) (hn' : n' = t.length) (hs : Rd w B A s) (ht : Rd w B' A' t) (ls : n ≤ maxB) (lt : n' ≤ maxB) :
    Calls Try.prog 70 #[.slice A n c, .slice A' n' c'] w fun e w' => e = .returned (.int .i64 (cmp s t)) ∧ Below w.heap.size w w' := by
  subst hn hn'
  exact compare_any A A' c c' B B' s t w hs ht ls lt

set_option maxHeartbeats 800000 in
set_option maxRecDepth 100000 in
theorem ends_any (F T K : Option Addr) (nf fc nt tc nk kc : Nat) (to key : List UInt8) (w : World) (hnt : nt = to.length) (hnk : nk = key.length) (ht : Rd w w.heap.size T to) (hk : Rd w w.heap.size K key) (lt : nt ≤ maxB) (lk : nk ≤ maxB) :
    Calls Try.prog 73 #[.agg #[.slice F nf fc, .slice T nt tc], .slice K nk kc] w fun e w' => e = .returned (.bool (ebB to key)) ∧ Below w.heap.size w w' := by
  have hb := below1' w (.cells #[.slice F nf fc, .slice T nt tc] 39)
  by_cases h0 : nt = 0
  · have hE : ebB to key = true := by unfold ebB; rw [List.isEmpty_iff.2 (List.eq_nil_of_length_eq_zero (by omega))]; rfl
    have h0' : ((nt : Int) == 0) = true := by rw [h0]; rfl
    rw [hE]
    clear ht hk hE hnt hnk h0
    go_enter Try.func73, Try.ntmps73
    go_wp2
    go_ret
    exact ⟨rfl, hb⟩
  · have h0' : ((nt : Int) == 0) = false := by rw [beq_eq_false_iff_ne]; omega
    have C := Lib.hid (compare_at K T nk nt kc tc _ _ key to _ hnk hnt (hk.below hb) (ht.below hb) lk lt)
    have hE : ebB to key = decide (cmp key to < 0) := by
      unfold ebB
      have : to.isEmpty = false := by
        cases to with
        | nil => simp at hnt; omega
        | cons _ _ => rfl
      rw [this]; rfl
    obtain ⟨R, hR⟩ : ∃ R, R = cmp key to := ⟨_, rfl⟩
    rw [← hR] at C hE
    rw [hE]
    clear ht hk hE hnt hnk hR
    go_enter Try.func73, Try.ntmps73
    go_wp2_with fail
    refine C.out.mono ?_
    rintro e w2 ⟨rfl, h2⟩
    have hb2 := hb.trans (h2.mono hb.size)
    go_wp2
    go_ret
    exact ⟨rfl, hb2⟩

set_option maxHeartbeats 800000 in
set_option maxRecDepth 100000 in
theorem contains_any (F T K : Option Addr) (nf fc nt tc nk kc : Nat) (from_ to key : List UInt8) (w : World) (hnf : nf = from_.length) (hnt : nt = to.length) (hnk : nk = key.length) (hf : Rd w w.heap.size F from_) (ht : Rd w w.heap.size T to) (hk : Rd w w.heap.size K key) (lf : nf ≤ maxB) (lt : nt ≤ maxB) (lk : nk ≤ maxB) :
    Calls Try.prog 56 #[.agg #[.slice F nf fc, .slice T nt tc], .slice K nk kc] w fun e w' => e = .returned (.bool (ctB from_ to key)) ∧ Below w.heap.size w w' := by
  have hb := below1' w (.cells #[.slice F nf fc, .slice T nt tc] 39)
  have C := Lib.hid (compare_at K F nk nf kc fc _ _ key from_ _ hnk hnf (hk.below hb) (hf.below hb) lk lf)
  have E := Lib.hid (fun (w' : World) (h : Below (w.alloc (.cells #[.slice F nf fc, .slice T nt tc] 39)).heap.size (w.alloc (.cells #[.slice F nf fc, .slice T nt tc] 39)) w') => ends_any F T K nf fc nt tc nk kc to key w' hnt hnk (((ht.below hb).more hb.size |>.below h).more h.size) (((hk.below hb).more hb.size |>.below h).more h.size) lt lk)
  have B0 := Cell.new w #[.slice F nf fc, .slice T nt tc] 39 0 _ rfl
  have B1 := Cell.new w #[.slice F nf fc, .slice T nt tc] 39 1 _ rfl
  have hC : ctB from_ to key = (decide (0 ≤ cmp key from_) && ebB to key) := rfl
  rw [hC]
  obtain ⟨R, hR⟩ : ∃ R, R = cmp key from_ := ⟨_, rfl⟩
  rw [← hR] at C
  rw [← hR]
  clear hf ht hk hnf hnt hnk hR hC
  obtain ⟨u, hu⟩ : ∃ u, u = w.heap.size := ⟨_, rfl⟩
  rw [← hu] at B0 B1
  have HU := Lib.hid hu
  obtain ⟨eb, heb⟩ : ∃ b, b = ebB to key := ⟨_, rfl⟩
  rw [← heb] at E
  rw [← heb]
  clear heb
  go_enter Try.func56, Try.ntmps56
  go_wp2_with fail
  rw [← hu]
  clear hu
  refine C.out.mono ?_
  rintro e w2 ⟨rfl, h2⟩
  have hb2 := hb.trans (h2.mono hb.size)
  have X0 := (B0.keep h2).1
  have X1 := (B1.keep h2).1
  by_cases h0 : 0 ≤ R
  · have h0' : decide (0 ≤ R) = true := decide_eq_true h0
    go_wp2_with fail
    refine (E.out w2 h2).mono ?_
    rintro e w3 ⟨rfl, h3⟩
    have hb3 := hb2.trans (h3.mono hb2.size)
    go_wp2
    go_ret
    exact ⟨by rw [h0']; rfl, hb3⟩
  · have h0' : decide (0 ≤ R) = false := decide_eq_false h0
    go_wp2
    go_ret
    exact ⟨by rw [h0']; rfl, hb2⟩

set_option maxHeartbeats 800000 in
set_option maxRecDepth 100000 in
theorem empty_any (F T : Option Addr) (nf fc nt tc : Nat) (from_ to : List UInt8) (w : World) (hnf : nf = from_.length) (hnt : nt = to.length) (hf : Rd w w.heap.size F from_) (ht : Rd w w.heap.size T to) (lf : nf ≤ maxB) (lt : nt ≤ maxB) :
    Calls Try.prog 72 #[.agg #[.slice F nf fc, .slice T nt tc]] w fun e w' => e = .returned (.bool (emB from_ to)) ∧ Below w.heap.size w w' := by
  have hb := below1' w (.cells #[.slice F nf fc, .slice T nt tc] 39)
  by_cases h0 : nt = 0
  · have hE : emB from_ to = false := by unfold emB; rw [List.isEmpty_iff.2 (List.eq_nil_of_length_eq_zero (by omega))]; rfl
    have h0' : ¬ (0 : Int) < (nt : Int) := by omega
    rw [hE]
    clear ht hf hE hnt hnf h0
    go_enter Try.func72, Try.ntmps72
    go_wp2
    go_ret
    exact ⟨rfl, hb⟩
  · have h0' : (0 : Int) < (nt : Int) := by omega
    have C := Lib.hid (compare_at T F nt nf tc fc _ _ to from_ _ hnt hnf (ht.below hb) (hf.below hb) lt lf)
    have hE : emB from_ to = decide (cmp to from_ ≤ 0) := by
      unfold emB
      have : to.isEmpty = false := by
        cases to with
        | nil => simp at hnt; omega
        | cons _ _ => rfl
      rw [this]; rfl
    obtain ⟨R, hR⟩ : ∃ R, R = cmp to from_ := ⟨_, rfl⟩
    rw [← hR] at C hE
    rw [hE]
    clear ht hf hE hnt hnf hR
    go_enter Try.func72, Try.ntmps72
    go_wp2_with fail
    refine C.out.mono ?_
    rintro e w2 ⟨rfl, h2⟩
    have hb2 := hb.trans (h2.mono hb.size)
    go_wp2
    go_ret
    exact ⟨rfl, hb2⟩
end Go.Proofs.Ytninjoepdchmiaa
