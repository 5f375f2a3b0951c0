/-
  A list of keys that came in: a slice of slices of bytes.
-/
import Derived.Test.YtogfojohflkdnaaOpenBytes
import Derived.Test.YtogfojohflkdnaaMake
import Derived.Deep.Matrix
namespace Go.Proofs.Ytogfojohflkdnaa
open Go.RowKit Go.ChangeShapes Go.WideShapes Go.ChangeAt Go.Deep

theorem cellsKey : Try.prog.cellsOf 22 = 1 := by kernel_rfl

theorem open_keys {H : Type} {enc : TypeId × Value → H} {W : World} {v : Value} {d : DataW H} {p : List MemPlace}
    (hv : ∃ a len cap, v = .slice a len cap)
    (h : ∃ fuel, DataW.trod enc Try.prog W 0 (fun _ => true) true fuel 27 v.cells.toList = some (d, p)) :
    ∃ A ks c, v = .slice A ks.length c ∧ RdK W W.heap.size A ks ∧ ks.length ≤ c ∧ (ks = [] ∨ ∃ elems spare, d = .slice elems spare ∧ elems.length = ks.length) ∧
      (∀ i (h : i < ks.length), ∃ elems spare dk, d = .slice elems spare ∧ elems[i]? = some dk ∧ (ks[i] = [] ∨ ∃ e s, dk = .slice e s ∧ e.length = ks[i].length)) := by
  obtain ⟨A, n, c, rfl⟩ := hv
  obtain ⟨fuel, hf⟩ := h
  rcases open_int_rows Try.underlying27 Try.underlying22 Try.underlying5 cellsKey cells8 hf with ⟨hcs, _⟩ | ⟨a, len, cap, F, L, C, Z, hcs, _, hl, hm, hd, hx⟩
  · simp [Value.cells] at hcs
    obtain ⟨rfl, rfl, rfl⟩ := hcs
    exact ⟨none, [], 0, rfl, .inl rfl, by simp, .inl rfl, fun i h => by simp at h⟩
  · simp [Value.cells] at hcs
    obtain ⟨rfl, rfl, rfl⟩ := hcs
    have hz : ∀ r, r < c → (((Z r).take (L r)).map fun z => UInt8.ofNat z.toNat).length = L r := by
      intro r hr
      obtain ⟨_, h1, _, h3, _⟩ := hx r hr
      simp; omega
    refine ⟨some a, (List.range n).map fun r => ((Z r).take (L r)).map fun z => UInt8.ofNat z.toNat, c, by simp, ?_, by simpa using hl, .inr (by simp only [Prod.mk.injEq] at hd; exact ⟨_, _, hd.1, by simp⟩), fun i hi => ?_⟩
    rotate_left
    · have hi' : i < n := by simpa using hi
      simp only [Prod.mk.injEq] at hd
      refine ⟨_, _, intRow .u8 (F i) (L i) (Z i), hd.1, by simp [hi'], ?_⟩
      simp only [List.getElem_map, List.getElem_range]
      obtain ⟨_, e2, _, e4, _, e6, _⟩ := hx i (by omega)
      cases hF : F i with
      | none =>
        left
        have := e6 hF
        have hL : L i = 0 := by omega
        rw [hL]; simp
      | some a' =>
        right
        exact ⟨_, _, rfl, by simp [lits]⟩
    by_cases h0 : n = 0
    · exact .inl (by simp [h0])
    · right
      obtain ⟨b, off, spot⟩ := a
      have hspot : spot = none := by
        have := World.cell?_spot (hx 0 (by omega)).1
        simpa [Addr.add] using this
      subst hspot
      have c00 := (hx 0 (by omega)).1
      rw [add_at] at c00
      refine ⟨b, off, rfl, World.block_lt_of_cell? W _ c00, fun i hi => ?_⟩
      have hi' : i < n := by simpa using hi
      obtain ⟨e1, e2, e3, e4, e5, e6, e7⟩ := hx i (by omega)
      rw [add_at] at e1
      simp only [List.getElem_map, List.getElem_range]
      refine ⟨F i, C i, by rw [hz i (by omega)]; exact e1, ?_, by rw [hz i (by omega)]; unfold maxLen at e3; omega⟩
      by_cases hL : L i = 0
      · left; rw [hL]; simp
      · right
        cases hF : F i with
        | none => have := e6 hF; omega
        | some a' =>
          obtain ⟨_, hc⟩ := e7 a' hF
          have := e4
          obtain ⟨b', off', ha', hc'⟩ := ints_at (a := a') (zs := Z i) (fun j hj => hc j (by omega)) (by omega)
          subst ha'
          refine ⟨b', off', rfl, World.block_lt_of_cell? W _ (hc' 0 (by omega)), fun j hj => ?_⟩
          have hj' : j < L i := by rw [hz i (by omega)] at hj; exact hj
          have hjz : j < (Z i).length := by omega
          rw [hc' j hjz]
          have hw := bounds_u8 (e5 (Z i)[j] (List.getElem_mem hjz))
          simp [bv, List.getD, List.getElem?_eq_getElem hjz, List.getElem_take]
          omega
theorem bytesKey : Try.prog.bytesOf 22 = 24 := by kernel_rfl
theorem sized_keys {H : Type} {ts : List TypeId} {ds : List (DataW H)} {j : Nat} {d : DataW H} {ks : List (List UInt8)} (h : (DataW.weightsEach Try.prog ts ds).all (· ≤ reachBytes) = true) (ht : ts[j]? = some 27) (hd : ds[j]? = some d)
    (dd : ks = [] ∨ ∃ elems spare, d = .slice elems spare ∧ elems.length = ks.length) : ks.length ≤ 5864062014634 := by
  rcases dd with rfl | ⟨elems, spare, rfl, he⟩
  · simp
  · have := sized_slice h ht hd Try.underlying27
    rw [bytesKey] at this
    simp only [reachBytes] at this
    omega
theorem weightsAll_mem {H : Type} {P : Program} {e : TypeId} {n : Nat} : ∀ {l : List (DataW H)} {i : Nat} {d : DataW H}, l[i]? = some d → n ∈ d.weights P e → n ∈ DataW.weightsAll P e l
  | [], _, _, h, _ => by simp at h
  | x :: r, 0, d, h, hn => by
    simp only [List.getElem?_cons_zero, Option.some.injEq] at h
    subst h
    simp only [DataW.weightsAll, List.mem_append]
    exact .inl hn
  | x :: r, i + 1, d, h, hn => by
    simp only [List.getElem?_cons_succ] at h
    simp only [DataW.weightsAll, List.mem_append]
    exact .inr (weightsAll_mem h hn)
theorem sized_each {H : Type} {ts : List TypeId} {ds : List (DataW H)} {j : Nat} {d : DataW H} {ks : List (List UInt8)} (h : (DataW.weightsEach Try.prog ts ds).all (· ≤ reachBytes) = true) (ht : ts[j]? = some 27) (hd : ds[j]? = some d)
    (dk : ∀ i (h : i < ks.length), ∃ elems spare dk, d = .slice elems spare ∧ elems[i]? = some dk ∧ (ks[i] = [] ∨ ∃ e s, dk = .slice e s ∧ e.length = ks[i].length)) : ∀ k ∈ ks, k.length ≤ 140737488351232 := by
  intro k hk
  obtain ⟨i, hi, rfl⟩ := List.getElem_of_mem hk
  obtain ⟨elems, spare, dk, rfl, he, hc⟩ := dk i hi
  rcases hc with h0 | ⟨e, s, rfl, hl⟩
  · rw [h0]; simp
  · have hm : (e.length + s.length) * Try.prog.bytesOf 5 ∈ (DataW.slice elems spare).weights Try.prog 27 := by
      simp only [DataW.weights, Try.underlying27]
      refine List.mem_cons_of_mem _ (List.mem_append_left _ (weightsAll_mem he ?_))
      simp [DataW.weights, Try.underlying22]
    have := of_decide_eq_true (List.all_eq_true.1 h _ (DataW.weights_mem_each ht hd _ hm))
    rw [bytes8] at this
    simp only [reachBytes] at this
    omega
end Go.Proofs.Ytogfojohflkdnaa
