/-
  A script that came in: a slice of steps, each of four numbers.
-/
import Derived.Test.YtglpaeiebkacoaaOpen
import Derived.Deep.Slices
namespace Go.Proofs.Ytglpaeiebkacoaa
open Go.RowKit Go.ChangeShapes Go.WideShapes Go.ChangeAt Go.Deep

/-- the slice at A reads as n steps -/
def Steps (W : World) (A : Option Addr) (n : Nat) (f : Nat → Int × Int × Int × Int) : Prop :=
  n = 0 ∨ ∃ g o, A = some ⟨g, o, none⟩ ∧ ∀ i, i < n → W.cell? ⟨g, o + i * 4, none⟩ = some (.int .i64 (f i).1) ∧ W.cell? ⟨g, o + i * 4 + 1, none⟩ = some (.int .i64 (f i).2.1) ∧
    W.cell? ⟨g, o + i * 4 + 2, none⟩ = some (.int .i64 (f i).2.2.1) ∧ W.cell? ⟨g, o + i * 4 + 3, none⟩ = some (.int .i64 (f i).2.2.2)

theorem add_at' (g o j : Nat) : (⟨g, o, none⟩ : Addr).add j = ⟨g, o + j, none⟩ := by unfold Addr.add; split <;> simp_all
theorem add_zero' (a : Addr) : a.add 0 = a := by simp [Addr.add]

theorem cells4 : Try.prog.cellsOf 44 = 4 := by kernel_rfl
theorem cellsSt : Try.prog.cellsOf 23 = 2 := by kernel_rfl
theorem cellsInt : Try.prog.cellsOf 3 = 1 := by kernel_rfl

theorem open_steps {H : Type} {enc : TypeId × Value → H} {W : World} {v : Value} {d : DataW H} {p : List MemPlace}
    (hv : ∃ a len cap, v = .slice a len cap)
    (h : ∃ fuel, DataW.trod enc Try.prog W 0 (fun _ => true) true fuel 36 v.cells.toList = some (d, p)) :
    ∃ A n c f, v = .slice A n c ∧ Steps W A n f ∧ n ≤ maxLen := by
  obtain ⟨A, n, c, rfl⟩ := hv
  obtain ⟨fuel, hf⟩ := h
  rcases open_slice Try.underlying36 hf with ⟨hcs, _⟩ | ⟨a, len, cap, m, q, D, Pl, hcs, _, hl, hm, hmm, _, hx⟩
  · simp [Value.cells] at hcs
    obtain ⟨rfl, rfl, rfl⟩ := hcs
    exact ⟨none, 0, 0, fun _ => (0, 0, 0, 0), rfl, .inl rfl, by simp⟩
  · simp [Value.cells] at hcs
    obtain ⟨rfl, rfl, rfl⟩ := hcs
    have each : ∀ i, i < m → ∃ q : Int × Int × Int × Int, W.cell? (a.add (i * 4)) = some (.int .i64 q.1) ∧ W.cell? ((a.add (i * 4)).add 1) = some (.int .i64 q.2.1) ∧
        W.cell? ((a.add (i * 4)).add 2) = some (.int .i64 q.2.2.1) ∧ W.cell? ((a.add (i * 4)).add 3) = some (.int .i64 q.2.2.2) := by
      intro i hi
      obtain ⟨cs', h1, h2⟩ := hx i hi
      rw [cells4] at h1
      obtain ⟨_, hlen, hcell⟩ := World.cells?_some h1
      obtain ⟨xs, k, _, _, _, hxl, hf⟩ := DataW.trod_struct Try.underlying44 h2
      match xs, hxl, cs', hlen with
      | [y0, y1, y2], _, [v0, v1, v2, v3], _ =>
        have g0 := hf 0 _ rfl
        have g1 := hf 1 _ rfl
        have g2 := hf 2 _ rfl
        simp [cellsInt, cellsSt] at g0 g1 g2
        obtain ⟨n0, e0, _, _⟩ := DataW.trod_int Try.underlying3 g0
        obtain ⟨n1, e1, _, _⟩ := DataW.trod_int Try.underlying3 g1
        obtain ⟨zs, k2, _, _, _, hzl, hf2⟩ := DataW.trod_struct Try.underlying23 g2
        match zs, hzl with
        | [z0, z1], _ =>
          have f0 := hf2 0 _ rfl
          have f1 := hf2 1 _ rfl
          simp [cellsInt] at f0 f1
          obtain ⟨n2, e2, _, _⟩ := DataW.trod_int Try.underlying3 f0
          obtain ⟨n3, e3, _, _⟩ := DataW.trod_int Try.underlying3 f1
          simp at e0 e1 e2 e3
          subst e0 e1 e2 e3
          have c0 := hcell 0 (by omega)
          have c1 := hcell 1 (by omega)
          have c2 := hcell 2 (by omega)
          have c3 := hcell 3 (by omega)
          refine ⟨(n0, n1, n2, n3), ?_, c1, c2, c3⟩
          rw [add_zero'] at c0
          exact c0
    obtain ⟨f, hf'⟩ := choose_lt each
    have hnm : n ≤ m := by rw [hmm]; split <;> omega
    refine ⟨_, _, _, f, rfl, ?_, by omega⟩
    by_cases h0 : n = 0
    · exact .inl h0
    · right
      obtain ⟨b, off, spot⟩ := a
      have hspot : spot = none := by
        have := World.cell?_spot (hf' 0 (by omega)).1
        simpa [Addr.add] using this
      subst hspot
      refine ⟨b, off, rfl, fun i hi => ?_⟩
      obtain ⟨c0, c1, c2, c3⟩ := hf' i (by omega)
      rw [add_at'] at c0
      rw [add_at', add_at'] at c1 c2 c3
      exact ⟨c0, c1, c2, c3⟩
end Go.Proofs.Ytglpaeiebkacoaa
