/-
  A script that came in: a slice of steps, each of two numbers and an envelope.
-/
import Derived.Test.YtekgmgiokmbliaaOpen
import Derived.Test.YtekgmgiokmbliaaOpenBytes
import Derived.Deep.Slices
namespace Go.Proofs.Ytekgmgiokmbliaa
open Go.RowKit Go.ChangeShapes Go.WideShapes Go.ChangeAt Go.Deep

/-- a step: what to do, a number, an envelope (its number, from, to, kind, body) -/
structure St where
  what : Int
  id : Int
  i : Int
  f : Int
  t : Int
  k : Int
  A : Option Addr
  c : Nat
  l : List UInt8
instance : Inhabited St := ⟨⟨0, 0, 0, 0, 0, 0, none, 0, []⟩⟩

/-- cells at a place read as a step -/
structure StAt (W : World) (g o : Nat) (s : St) : Prop where
  c0 : W.cell? ⟨g, o, none⟩ = some (.int .i64 s.what)
  c1 : W.cell? ⟨g, o + 1, none⟩ = some (.int .i64 s.id)
  c2 : W.cell? ⟨g, o + 2, none⟩ = some (.int .i64 s.i)
  c3 : W.cell? ⟨g, o + 3, none⟩ = some (.int .i64 s.f)
  c4 : W.cell? ⟨g, o + 4, none⟩ = some (.int .i64 s.t)
  c5 : W.cell? ⟨g, o + 5, none⟩ = some (.int .i64 s.k)
  c6 : W.cell? ⟨g, o + 6, none⟩ = some (.slice s.A s.l.length s.c)
  rd : Rd W W.heap.size s.A s.l
  nil : s.A = none → s.c = 0
  len : s.l.length ≤ 9223372036854775807
  lo : -9223372036854775808 ≤ s.id
  hi : s.id ≤ 9223372036854775807

/-- the slice at A reads as n steps -/
def Steps (W : World) (A : Option Addr) (n : Nat) (f : Nat → St) : Prop :=
  n = 0 ∨ ∃ g o, A = some ⟨g, o, none⟩ ∧ ∀ i, i < n → StAt W g (o + i * 7) (f i)

theorem add_at' (g o j : Nat) : (⟨g, o, none⟩ : Addr).add j = ⟨g, o + j, none⟩ := by unfold Addr.add; split <;> simp_all
theorem add_zero' (a : Addr) : a.add 0 = a := by simp [Addr.add]

theorem cells7 : Try.prog.cellsOf 34 = 7 := by kernel_rfl
theorem cellsEv : Try.prog.cellsOf 32 = 5 := by kernel_rfl
theorem cellsInt : Try.prog.cellsOf 3 = 1 := by kernel_rfl
theorem cellsBytes : Try.prog.cellsOf 30 = 1 := by kernel_rfl

theorem open_body {H : Type} {enc : TypeId × Value → H} {W : World} {fuel : Nat} {v : Value} {x : DataW H × List MemPlace}
    (h : DataW.trod enc Try.prog W 0 (fun _ => true) true fuel 30 [v] = some x) :
    ∃ A c l, v = .slice A (l : List UInt8).length c ∧ Rd W W.heap.size A l ∧ l.length ≤ 9223372036854775807 ∧ (A = none → c = 0) := by
  have hform : v = .slice none 0 0 ∨ ∃ a len cap, v = .slice (some a) len cap := by
    rcases open_slice Try.underlying30 h with ⟨hcs, _⟩ | ⟨a, len, cap, m, q, D, Pl, hcs, _⟩
    · simp at hcs; exact .inl hcs
    · simp at hcs; exact .inr ⟨a, len, cap, hcs⟩
  obtain ⟨d, p⟩ := x
  rcases hform with rfl | ⟨a, len, cap, rfl⟩
  · exact ⟨none, 0, [], rfl, Rd.nil_ _ _ _, by simp, fun _ => rfl⟩
  · obtain ⟨l, rfl, hr, hl, _⟩ := open_bytes (a := some a) (len := len) (cap := cap) ⟨fuel, by simpa [Value.cells] using h⟩
    exact ⟨some a, cap, l, rfl, hr, hl, fun h => by cases h⟩

theorem open_steps {H : Type} {enc : TypeId × Value → H} {W : World} {v : Value} {d : DataW H} {p : List MemPlace}
    (hv : ∃ a len cap, v = .slice a len cap)
    (h : ∃ fuel, DataW.trod enc Try.prog W 0 (fun _ => true) true fuel 22 v.cells.toList = some (d, p)) :
    ∃ A n c f, v = .slice A n c ∧ Steps W A n f ∧ n ≤ maxLen := by
  obtain ⟨A, n, c, rfl⟩ := hv
  obtain ⟨fuel, hf⟩ := h
  rcases open_slice Try.underlying22 hf with ⟨hcs, _⟩ | ⟨a, len, cap, m, q, D, Pl, hcs, _, hl, hm, hmm, _, hx⟩
  · simp [Value.cells] at hcs
    obtain ⟨rfl, rfl, rfl⟩ := hcs
    exact ⟨none, 0, 0, fun _ => default, rfl, .inl rfl, by simp⟩
  · simp [Value.cells] at hcs
    obtain ⟨rfl, rfl, rfl⟩ := hcs
    have each : ∀ i, i < m → ∃ s : St, (∃ b, a.add (i * 7) = ⟨b, (a.add (i * 7)).off, none⟩ ∧ StAt W b (a.add (i * 7)).off s) := by
      intro i hi
      obtain ⟨cs', h1, h2⟩ := hx i hi
      rw [cells7] at h1
      obtain ⟨_, hlen, hcell⟩ := World.cells?_some h1
      obtain ⟨xs, k, _, _, _, hxl, hf⟩ := DataW.trod_struct Try.underlying34 h2
      match xs, hxl, cs', hlen with
      | [y0, y1, y2], _, [v0, v1, v2, v3, v4, v5, v6], _ =>
        have g0 := hf 0 _ rfl
        have g1 := hf 1 _ rfl
        have g2 := hf 2 _ rfl
        simp [cellsInt, cellsEv] at g0 g1 g2
        obtain ⟨n0, e0, _, _⟩ := DataW.trod_int Try.underlying3 g0
        obtain ⟨n1, e1, _, w1⟩ := DataW.trod_int Try.underlying3 g1
        obtain ⟨zs, k2, _, _, _, hzl, hf2⟩ := DataW.trod_struct Try.underlying32 g2
        match zs, hzl with
        | [z0, z1, z2, z3, z4], _ =>
          have f0 := hf2 0 _ rfl
          have f1 := hf2 1 _ rfl
          have f2 := hf2 2 _ rfl
          have f3 := hf2 3 _ rfl
          have f4 := hf2 4 _ rfl
          simp [cellsInt, cellsBytes] at f0 f1 f2 f3 f4
          obtain ⟨n2, e2, _, _⟩ := DataW.trod_int Try.underlying3 f0
          obtain ⟨n3, e3, _, _⟩ := DataW.trod_int Try.underlying3 f1
          obtain ⟨n4, e4, _, _⟩ := DataW.trod_int Try.underlying3 f2
          obtain ⟨n5, e5, _, _⟩ := DataW.trod_int Try.underlying3 f3
          obtain ⟨sA, sc, l, e6, hr, hll, hnil⟩ := open_body f4
          simp at e0 e1 e2 e3 e4 e5
          subst e0 e1 e2 e3 e4 e5 e6
          have c0 := hcell 0 (by omega)
          have c1 := hcell 1 (by omega)
          have c2 := hcell 2 (by omega)
          have c3 := hcell 3 (by omega)
          have c4 := hcell 4 (by omega)
          have c5 := hcell 5 (by omega)
          have c6 := hcell 6 (by omega)
          rw [add_zero'] at c0
          rcases ha : a.add (i * 7) with ⟨b, off, spot⟩
          obtain rfl : spot = none := by
            rw [ha] at c0
            simpa using World.cell?_spot c0
          rw [ha] at c0 c1 c2 c3 c4 c5 c6
          rw [add_at'] at c1 c2 c3 c4 c5 c6
          have w1 := bounds_i64 w1
          exact ⟨⟨n0, n1, n2, n3, n4, n5, sA, sc, l⟩, b, rfl, c0, c1, c2, c3, c4, c5, c6, hr, hnil, hll, w1.1, w1.2⟩
    obtain ⟨f, hf'⟩ := choose_lt each
    have hnm : n ≤ m := by rw [hmm]; split <;> omega
    refine ⟨_, _, _, f, rfl, ?_, by omega⟩
    by_cases h0 : n = 0
    · exact .inl h0
    · right
      obtain ⟨b, off, spot⟩ := a
      have hspot : spot = none := by
        obtain ⟨b2, hb2, _⟩ := hf' 0 (by omega)
        rw [Nat.zero_mul, add_zero'] at hb2
        injection hb2
      subst hspot
      refine ⟨b, off, rfl, fun i hi => ?_⟩
      obtain ⟨b2, hb2, hS⟩ := hf' i (by omega)
      rw [add_at'] at hb2 hS
      injection hb2 with hb2
      subst hb2
      exact hS
end Go.Proofs.Ytekgmgiokmbliaa
