/-
  A list of keys that came in: a slice of slices of bytes.
-/
import Derived.Test.YtogfojohflkdnaaOpenBytes
import Derived.Test.YtogfojohflkdnaaMake
import Derived.Deep.Matrix
namespace Go.Proofs.Ytogfojohflkdnaa
open Go.RowKit Go.ChangeShapes Go.WideShapes Go.ChangeAt Go.Deep

theorem cellsKey : Try.prog.cellsOf 22 = 1 := by kernel_rfl

theorem open_keys {H : Type} {enc : TypeId × Value → H} {W : World} {v : Value} {d : DataW H} {p : List MemPlace}
    (hv : ∃ a len cap, v = .slice a len cap)
    (h : ∃ fuel, DataW.trod enc Try.prog W 0 (fun _ => true) true fuel 27 v.cells.toList = some (d, p)) :
    ∃ A ks c, v = .slice A ks.length c ∧ RdK W W.heap.size A ks ∧ ks.length ≤ c ∧ (ks = [] ∨ ∃ elems spare, d = .slice elems spare ∧ elems.length = ks.length) := by
  obtain ⟨A, n, c, rfl⟩ := hv
  obtain ⟨fuel, hf⟩ := h
  rcases open_int_rows Try.underlying27 Try.underlying22 Try.underlying5 cellsKey cells8 hf with ⟨hcs, _⟩ | ⟨a, len, cap, F, L, C, Z, hcs, _, hl, hm, hd, hx⟩
  · simp [Value.cells] at hcs
    obtain ⟨rfl, rfl, rfl⟩ := hcs
    exact ⟨none, [], 0, rfl, .inl rfl, by simp, .inl rfl⟩
  · simp [Value.cells] at hcs
    obtain ⟨rfl, rfl, rfl⟩ := hcs
    have hz : ∀ r, r < c → (((Z r).take (L r)).map fun z => UInt8.ofNat z.toNat).length = L r := by
      intro r hr
      obtain ⟨_, h1, _, h3, _⟩ := hx r hr
      simp; omega
    refine ⟨some a, (List.range n).map fun r => ((Z r).take (L r)).map fun z => UInt8.ofNat z.toNat, c, by simp, ?_, by simpa using hl, .inr (by simp only [Prod.mk.injEq] at hd; exact ⟨_, _, hd.1, by simp⟩)⟩
    by_cases h0 : n = 0
    · exact .inl (by simp [h0])
    · right
      obtain ⟨b, off, spot⟩ := a
      have hspot : spot = none := by
        have := World.cell?_spot (hx 0 (by omega)).1
        simpa [Addr.add] using this
      subst hspot
      have c00 := (hx 0 (by omega)).1
      rw [add_at] at c00
      refine ⟨b, off, rfl, World.block_lt_of_cell? W _ c00, fun i hi => ?_⟩
      have hi' : i < n := by simpa using hi
      obtain ⟨e1, e2, e3, e4, e5, e6, e7⟩ := hx i (by omega)
      rw [add_at] at e1
      simp only [List.getElem_map, List.getElem_range]
      refine ⟨F i, C i, by rw [hz i (by omega)]; exact e1, ?_, by rw [hz i (by omega)]; unfold maxLen at e3; omega⟩
      by_cases hL : L i = 0
      · left; rw [hL]; simp
      · right
        cases hF : F i with
        | none => have := e6 hF; omega
        | some a' =>
          obtain ⟨_, hc⟩ := e7 a' hF
          have := e4
          obtain ⟨b', off', ha', hc'⟩ := ints_at (a := a') (zs := Z i) (fun j hj => hc j (by omega)) (by omega)
          subst ha'
          refine ⟨b', off', rfl, World.block_lt_of_cell? W _ (hc' 0 (by omega)), fun j hj => ?_⟩
          have hj' : j < L i := by rw [hz i (by omega)] at hj; exact hj
          have hjz : j < (Z i).length := by omega
          rw [hc' j hjz]
          have hw := bounds_u8 (e5 (Z i)[j] (List.getElem_mem hjz))
          simp [bv, List.getD, List.getElem?_eq_getElem hjz, List.getElem_take]
          omega
theorem bytesKey : Try.prog.bytesOf 22 = 24 := by kernel_rfl
theorem sized_keys {H : Type} {ts : List TypeId} {ds : List (DataW H)} {j : Nat} {d : DataW H} {ks : List (List UInt8)} (h : (DataW.weightsEach Try.prog ts ds).all (· ≤ reachBytes) = true) (ht : ts[j]? = some 27) (hd : ds[j]? = some d)
    (dd : ks = [] ∨ ∃ elems spare, d = .slice elems spare ∧ elems.length = ks.length) : ks.length ≤ 5864062014634 := by
  rcases dd with rfl | ⟨elems, spare, rfl, he⟩
  · simp
  · have := sized_slice h ht hd Try.underlying27
    rw [bytesKey] at this
    simp only [reachBytes] at this
    omega
end Go.Proofs.Ytogfojohflkdnaa
