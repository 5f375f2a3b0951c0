/-
  Arrays of two that came in: of two numbers, of two slices of bytes.
-/
import Derived.Test.YtaojflmbfigplaaDoorOpenCap
import Derived.Test.YtaojflmbfigplaaDoorBulk
import Derived.Lib.SmallJoins
namespace Go.Proofs.YtaojflmbfigplaaDoor
open Go.RowKit Go.ChangeShapes Go.WideShapes Go.ChangeAt

theorem open_pair {H : Type} {enc : TypeId × Value → H} {W : World} {t e : TypeId} {v : Value} {d : DataW H} {p : List MemPlace} (ht : Tryd.prog.underlying t = some (.array 2 e)) (hC : Tryd.prog.cellsOf t = 2) (hE : Tryd.prog.cellsOf e = 1)
    (hv : Value.okWide Tryd.prog W .any 0 t v) (h : DataW.Trod enc Tryd.prog W 0 (fun _ => true) true t v d p) :
    ∃ (a b : Value) (y0 y1 : DataW H × List MemPlace) (n : Nat), v = .agg #[a, b] ∧ d = .agg [y0.1, y1.1] ∧ p = y0.2 ++ y1.2 ∧
      DataW.trod enc Tryd.prog W 0 (fun _ => true) true n e [a] = some y0 ∧ DataW.trod enc Tryd.prog W 0 (fun _ => true) true n e [b] = some y1 := by
  simp only [Value.okWide, ht] at hv
  obtain ⟨cs, rfl, h2, _⟩ := hv
  rw [hC] at h2
  obtain ⟨l⟩ := cs
  match l, h2 with
  | [a, b], _ =>
    obtain ⟨fuel, hf⟩ := h
    obtain ⟨xs, n, _, hx, _, hlen, hg⟩ := DataW.trod_array ht hf
    match xs, hlen with
    | [y0, y1], _ =>
      simp only [Prod.mk.injEq] at hx
      have g0 := hg 0 (by omega)
      have g1 := hg 1 (by omega)
      rw [hE] at g0 g1
      exact ⟨a, b, y0, y1, n, rfl, by simpa using hx.1, by simpa using hx.2, by simpa [Value.cells] using g0, by simpa [Value.cells] using g1⟩

theorem open_nums {H : Type} {enc : TypeId × Value → H} {W : World} {v : Value} {d : DataW H} {p : List MemPlace}
    (hv : Value.okWide Tryd.prog W .any 0 49 v) (h : DataW.Trod enc Tryd.prog W 0 (fun _ => true) true 49 v d p) :
    ∃ a b : Int, v = .agg #[.int .i64 a, .int .i64 b] ∧ (Lit.int .i64 a).wf = true ∧ (Lit.int .i64 b).wf = true := by
  obtain ⟨c0, c1, y0, y1, n, rfl, _, _, h0, h1⟩ := open_pair Tryd.underlying49 (by kernel_rfl) (by kernel_rfl) hv h
  obtain ⟨a, e0, _, wa⟩ := DataW.trod_int Tryd.underlying2 h0
  obtain ⟨b, e1, _, wb⟩ := DataW.trod_int Tryd.underlying2 h1
  simp at e0 e1
  subst e0 e1
  exact ⟨a, b, rfl, wa, wb⟩

theorem open_cell {H : Type} {enc : TypeId × Value → H} {W : World} {v : Value} {y : DataW H × List MemPlace} {n : Nat} (h : DataW.trod enc Tryd.prog W 0 (fun _ => true) true n 23 [v] = some y) :
    ∃ (a : Option Addr) (cap : Nat) (l : List UInt8), v = .slice a l.length cap ∧ Rd W W.heap.size a l ∧ (l = [] ∨ ∃ elems spare, y.1 = .slice elems spare ∧ elems.length = l.length) := by
  have hv : ∃ a len cap, v = .slice a len cap := by
    rcases open_ints Tryd.underlying23 Tryd.underlying5 cells8 h with ⟨hcs, _⟩ | ⟨x, l, c, zs, hcs, _⟩
    · simp at hcs; exact ⟨_, _, _, hcs⟩
    · simp at hcs; exact ⟨_, _, _, hcs⟩
  obtain ⟨a, len, cap, rfl⟩ := hv
  obtain ⟨l, rfl, rd, _, dd⟩ := open_bytes (a := a) (len := len) (cap := cap) (d := y.1) (p := y.2) ⟨n, by simpa [Value.cells] using h⟩
  exact ⟨a, cap, l, rfl, rd, dd⟩

theorem open_texts {H : Type} {enc : TypeId × Value → H} {W : World} {v : Value} {d : DataW H} {p : List MemPlace}
    (hv : Value.okWide Tryd.prog W .any 0 50 v) (h : DataW.Trod enc Tryd.prog W 0 (fun _ => true) true 50 v d p) :
    ∃ (a b : Option Addr) (ca cb : Nat) (s t : List UInt8) (y z : DataW H), v = .agg #[.slice a s.length ca, .slice b t.length cb] ∧ d = .agg [y, z] ∧ Rd W W.heap.size a s ∧ Rd W W.heap.size b t ∧
      (s = [] ∨ ∃ elems spare, y = .slice elems spare ∧ elems.length = s.length) ∧ (t = [] ∨ ∃ elems spare, z = .slice elems spare ∧ elems.length = t.length) := by
  obtain ⟨c0, c1, y0, y1, n, rfl, hd, _, h0, h1⟩ := open_pair Tryd.underlying50 (by kernel_rfl) (by kernel_rfl) hv h
  obtain ⟨a, ca, s, rfl, ra, da⟩ := open_cell h0
  obtain ⟨b, cb, t, rfl, rb, db⟩ := open_cell h1
  exact ⟨a, b, ca, cb, s, t, y0.1, y1.1, rfl, hd, ra, rb, da, db⟩

theorem small_part {H : Type} {ds parts : List (DataW H)} {d : DataW H} {l : List UInt8} (hk : Rows.uptoSmall H ds = true) (hm : DataW.agg parts ∈ ds) (hp : d ∈ parts) (dd : l = [] ∨ ∃ elems spare, d = .slice elems spare ∧ elems.length = l.length) : l.length ≤ 1048576 := by
  have hb : Rows.uptoBulkAll ds ≤ 1048576 := of_decide_eq_true hk
  rcases dd with rfl | ⟨elems, spare, rfl, he⟩
  · simp
  · have h0 := bulk_mem hm
    have h1 := bulk_mem hp
    have h2 := bulk_len elems
    simp only [Rows.uptoBulk] at h0 h1
    omega
end Go.Proofs.YtaojflmbfigplaaDoor
