/-
  An array of two ints that came in.
-/
import Derived.Test.YtglpaeiebkacoaaOpen
namespace Go.Proofs.Ytglpaeiebkacoaa
open Go.RowKit Go.ChangeShapes Go.WideShapes Go.ChangeAt

theorem open_pair {H : Type} {enc : TypeId × Value → H} {W : World} {t e : TypeId} {v : Value} {d : DataW H} {p : List MemPlace} (ht : Try.prog.underlying t = some (.array 2 e)) (hC : Try.prog.cellsOf t = 2) (hE : Try.prog.cellsOf e = 1)
    (hv : Value.okWide Try.prog W .any 0 t v) (h : DataW.Trod enc Try.prog W 0 (fun _ => true) true t v d p) :
    ∃ (a b : Value) (y0 y1 : DataW H × List MemPlace) (n : Nat), v = .agg #[a, b] ∧ d = .agg [y0.1, y1.1] ∧ p = y0.2 ++ y1.2 ∧
      DataW.trod enc Try.prog W 0 (fun _ => true) true n e [a] = some y0 ∧ DataW.trod enc Try.prog W 0 (fun _ => true) true n e [b] = some y1 := by
  simp only [Value.okWide, ht] at hv
  obtain ⟨cs, rfl, h2, _⟩ := hv
  rw [hC] at h2
  obtain ⟨l⟩ := cs
  match l, h2 with
  | [a, b], _ =>
    obtain ⟨fuel, hf⟩ := h
    obtain ⟨xs, n, _, hx, _, hlen, hg⟩ := DataW.trod_array ht hf
    match xs, hlen with
    | [y0, y1], _ =>
      simp only [Prod.mk.injEq] at hx
      have g0 := hg 0 (by omega)
      have g1 := hg 1 (by omega)
      rw [hE] at g0 g1
      exact ⟨a, b, y0, y1, n, rfl, by simpa using hx.1, by simpa using hx.2, by simpa [Value.cells] using g0, by simpa [Value.cells] using g1⟩

theorem open_twoints {H : Type} {enc : TypeId × Value → H} {W : World} {v : Value} {d : DataW H} {p : List MemPlace}
    (hv : Value.okWide Try.prog W .any 0 50 v) (h : DataW.Trod enc Try.prog W 0 (fun _ => true) true 50 v d p) :
    ∃ a b : Int, v = .agg #[.int .i64 a, .int .i64 b] ∧ (Lit.int .i64 a).wf = true ∧ (Lit.int .i64 b).wf = true := by
  obtain ⟨c0, c1, y0, y1, n, rfl, _, _, h0, h1⟩ := open_pair Try.underlying50 (by kernel_rfl) (by kernel_rfl) hv h
  obtain ⟨a, e0, _, wa⟩ := DataW.trod_int Try.underlying3 h0
  obtain ⟨b, e1, _, wb⟩ := DataW.trod_int Try.underlying3 h1
  simp at e0 e1
  subst e0 e1
  exact ⟨a, b, rfl, wa, wb⟩

end Go.Proofs.Ytglpaeiebkacoaa
