/-
  The contract of codec.TakeText.
-/
import Derived.Test.YtfnifpgaieggbaaDoorText
namespace Go.Proofs.YtfnifpgaieggbaaDoor
open Go.RowKit

/-- a text read off the front of bytes: the text, how many bytes, the error -/
def tt (l : List UInt8) : List UInt8 × Nat × Nat :=
  if (tn 0 0 l).2.2 ≠ 0 then ([], 0, (tn 0 0 l).2.2)
  else if 2097152 < (tn 0 0 l).1 then ([], 0, 12)
  else if l.length < (tn 0 0 l).2.1 + (tn 0 0 l).1 then ([], 0, 10)
  else ((l.drop (tn 0 0 l).2.1).take (tn 0 0 l).1, (tn 0 0 l).2.1 + (tn 0 0 l).1, 0)

theorem tn_fits : ∀ (l : List UInt8) (i N : Nat), (tn i N l).2.1 ≤ i + l.length ∧ (tn i N l).2.2 ≤ 11 ∧ (i ≤ 9 → (tn i N l).2.1 ≤ 10)
  | [], i, N => by simp [tn]
  | c :: t, i, N => by
    have ih := tn_fits t (i + 1) (N + (c.toNat - 128) * 2 ^ (7 * i))
    simp only [tn, List.length_cons]
    split
    · simp
    · split
      · split
        · simp
        · exact ⟨show i + 1 ≤ i + (t.length + 1) by omega, show 0 ≤ 11 by omega, fun hi => show i + 1 ≤ 10 by omega⟩
      · rename_i h1 h2
        refine ⟨by omega, ih.2.1, fun hi => ?_⟩
        by_cases h9 : i = 9
        · exfalso
          apply h1
          omega
        · exact ih.2.2 (by omega)
theorem tn_lt : ∀ (l : List UInt8) (i N : Nat), i ≤ 9 → N < 2 ^ (7 * i) → (tn i N l).1 < 2 ^ 64
  | [], i, N, _, _ => by simp [tn]
  | c :: t, i, N, hi, hN => by
    have hc := c.toNat_lt
    simp only [tn]
    split
    · simp
    · rename_i h1
      split
      · rename_i h2
        split
        · simp
        · show N + c.toNat * 2 ^ (7 * i) < 2 ^ 64
          by_cases h9 : i = 9
          · subst h9
            have : c.toNat * 2 ^ (7 * 9) ≤ 1 * 2 ^ (7 * 9) := Nat.mul_le_mul_right _ (by omega)
            omega
          · have h3 := grow hN h2
            have h4 : 2 ^ (7 * (i + 1)) ≤ 2 ^ 63 := Nat.pow_le_pow_right (by decide) (by omega)
            omega
      · rename_i h2
        have h9 : i ≠ 9 := fun h => h1 ⟨h, by omega⟩
        exact tn_lt t (i + 1) _ (by omega) (grow hN (by omega))

theorem fresh_at (A : Option Addr) (n c : Nat) (s : List UInt8) (w : World) (hn : n = s.length) (hr : Rd w w.heap.size A s) (hl : s.length ≤ 225179981368000) :
    Calls Tryd.prog 38 #[.slice A n c] w fun e w' => ∃ v, e = .returned v ∧ Own w' w.heap.size v s ∧ Below w.heap.size w w' := by
  subst hn
  exact fresh_any A c s w hr hl

theorem app_bytes_at {ops : Array Oper} {rest : List Oper} {o : Oper} {a : Act} {Q : Exit → Act → World → Prop} (w : World) (base : Nat) (v : Value) (l m : List UInt8) (A : Option Addr) (n c : Nat) (hn : n = m.length) (hgd : o.guard = none) (s x : Operand)
    (ho : o.op = .call { callee := .builtin .append, args := #[s, x], argTypes := #[28, 28] })
    (hs : a.eval s = v) (hx : a.eval x = .slice A n c) (hown : Own w base v l) (hr : Rd w w.heap.size A m) (hlen : l.length + m.length ≤ 225179981368000) (hbase : base ≤ w.heap.size)
    (h : ∀ v' w', Own w' base v' (l ++ m) → Below base w w' → w.grownBy w' v.ownBlock → wpList Tryd.prog ops Q rest (a.put o.dst v') w') : wpList Tryd.prog ops Q (o :: rest) a w := by
  subst hn
  exact app_bytes w base v l m A c hgd s x ho hs hx hown hr hlen hbase h

set_option maxHeartbeats 1600000 in
set_option maxRecDepth 100000 in
theorem takenText_any (A : Option Addr) (c : Nat) (l : List UInt8) (w : World) (hr : Rd w w.heap.size A l) (hl : l.length ≤ 225179981367000) (hc : l.length ≤ c) :
    Calls Tryd.prog 43 #[.slice A l.length c] w fun e w' => ∃ v, e = .returned (.tuple #[v, .int .i64 (tt l).2.1, .int .i64 (tt l).2.2]) ∧ Own w' w.heap.size v (tt l).1 ∧ Below w.heap.size w w' := by
  have hk := taken_any A c _ l w hr (by omega)
  have hf := tn_fits l 0 0
  have hlt := tn_lt l 0 0 (by omega) (by decide)
  have htt : tt l = if (tn 0 0 l).2.2 ≠ 0 then ([], 0, (tn 0 0 l).2.2) else if 2097152 < (tn 0 0 l).1 then ([], 0, 12)
    else if l.length < (tn 0 0 l).2.1 + (tn 0 0 l).1 then ([], 0, 10) else ((l.drop (tn 0 0 l).2.1).take (tn 0 0 l).1, (tn 0 0 l).2.1 + (tn 0 0 l).1, 0) := rfl
  obtain ⟨n, hn⟩ : ∃ n, n = (tn 0 0 l).1 := ⟨_, rfl⟩
  obtain ⟨k, hk'⟩ : ∃ k, k = (tn 0 0 l).2.1 := ⟨_, rfl⟩
  obtain ⟨er, he⟩ : ∃ er, er = (tn 0 0 l).2.2 := ⟨_, rfl⟩
  rw [← hn] at hk hlt htt
  rw [← hk'] at hk hf htt
  rw [← he] at hk hf htt
  clear hn hk' he
  obtain ⟨hf1, hf2, hf3⟩ := hf
  have hf3 := hf3 (by omega)
  have HK := Lib.hid hk
  have HR := Lib.hid hr
  clear hk hr
  by_cases h0 : er = 0
  · have hb : ((er : Int) != 0) = false := by rw [h0]; rfl
    rw [if_neg (by omega)] at htt
    by_cases h1 : 2097152 < n
    · have HT := Lib.hid (htt.trans (if_pos h1))
      clear htt h0
      rw [HT.out]
      go_enter Tryd.func43, Tryd.ntmps43
      go_wp2_with fail
      refine HK.out.mono ?_
      rintro e w1 ⟨rfl, rfl⟩
      go_wp2
      go_ret3
      exact ⟨_, rfl, Own.nil_ _ _, Below.refl _ _⟩
    · rw [if_neg h1] at htt
      by_cases h2 : l.length < k + n
      · have HT := Lib.hid (htt.trans (if_pos h2))
        clear htt h0
        rw [HT.out]
        go_enter Tryd.func43, Tryd.ntmps43
        go_wp2_with fail
        refine HK.out.mono ?_
        rintro e w1 ⟨rfl, rfl⟩
        go_wp2
        go_ret3
        exact ⟨_, rfl, Own.nil_ _ _, Below.refl _ _⟩
      · have HT := Lib.hid (htt.trans (if_neg h2))
        clear htt h0
        rw [HT.out]
        obtain ⟨A', hcut, rc⟩ := cut_run (k := k) (e := k + n) rfl HR.out (by omega) (by omega) hc
        have hcut' : ∀ W' : World, (Instr.slice 28 (.slice A l.length c) (some (.int .i64 (k : Int))) (some (.int .i64 ((k : Int) + (n : Int)))) none).run Tryd.prog W' = .ok (.slice A' n (c - k)) W' := fun W' => by
          have := hcut W'
          rw [show k + n - k = n by omega, show ((k + n : Nat) : Int) = (k : Int) + (n : Int) by omega] at this
          exact this
        rw [show k + n - k = n by omega] at rc
        have HC := Lib.hid rc
        have HE := Lib.hid (show n = ((l.drop k).take n).length by rw [List.length_take, List.length_drop]; omega)
        have hn : n ≤ 2097152 := by omega
        clear hcut rc
        go_enter Tryd.func43, Tryd.ntmps43
        go_wp2_with fail
        refine HK.out.mono ?_
        rintro e w1 ⟨rfl, rfl⟩
        go_wp2_with fail
        refine (fresh_at A' n (c - k) ((l.drop k).take n) w HE.out HC.out (by rw [← HE.out]; omega)).mono ?_
        rintro e w1 ⟨v, rfl, o1, hb1⟩
        go_wp2
        go_ret3
        exact ⟨_, rfl, o1, hb1⟩
  · have hb : ((er : Int) != 0) = true := by rw [bne_iff_ne]; omega
    have HT := Lib.hid (htt.trans (if_pos h0))
    clear htt h0
    rw [HT.out]
    go_enter Tryd.func43, Tryd.ntmps43
    go_wp2_with fail
    refine HK.out.mono ?_
    rintro e w1 ⟨rfl, rfl⟩
    go_wp2
    go_ret3
    exact ⟨_, rfl, Own.nil_ _ _, Below.refl _ _⟩
end Go.Proofs.YtfnifpgaieggbaaDoor
