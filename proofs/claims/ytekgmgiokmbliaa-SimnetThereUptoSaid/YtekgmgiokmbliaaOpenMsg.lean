/-
  A message that came in.
-/
import Derived.Test.YtekgmgiokmbliaaBulk
import Derived.Test.YtekgmgiokmbliaaOpenSteps
import Derived.Test.YtekgmgiokmbliaaEnts
namespace Go.Proofs.Ytekgmgiokmbliaa
open Go.RowKit Go.ChangeShapes Go.WideShapes Go.ChangeAt Go.Deep

theorem cells12 : Try.prog.cellsOf 51 = 12 := by kernel_rfl
theorem cells4 : Try.prog.cellsOf 74 = 4 := by kernel_rfl
theorem cellsBool : Try.prog.cellsOf 4 = 1 := by kernel_rfl
theorem cellsEnts : Try.prog.cellsOf 49 = 1 := by kernel_rfl
theorem cellsInts : Try.prog.cellsOf 43 = 1 := by kernel_rfl
instance : Inhabited Ent := ⟨⟨0, 0, 0, []⟩⟩

theorem open_data {H : Type} {enc : TypeId × Value → H} {W : World} {fuel : Nat} {v : Value} {x : DataW H × List MemPlace}
    (h : DataW.trod enc Try.prog W 0 (fun _ => true) true fuel 30 [v] = some x) :
    ∃ A c l, v = .slice A (l : List UInt8).length c ∧ Rd W W.heap.size A l ∧ (l = [] ∨ ∃ elems spare, x.1 = .slice elems spare ∧ elems.length = l.length) := by
  have hform : v = .slice none 0 0 ∨ ∃ a len cap, v = .slice (some a) len cap := by
    rcases open_slice Try.underlying30 h with ⟨hcs, _⟩ | ⟨a, len, cap, m, q, D, Pl, hcs, _⟩
    · simp at hcs; exact .inl hcs
    · simp at hcs; exact .inr ⟨a, len, cap, hcs⟩
  obtain ⟨d, p⟩ := x
  rcases hform with rfl | ⟨a, len, cap, rfl⟩
  · exact ⟨none, 0, [], rfl, Rd.nil_ _ _ _, .inl rfl⟩
  · obtain ⟨l, rfl, hr, hl, hd⟩ := open_bytes (a := some a) (len := len) (cap := cap) ⟨fuel, by simpa [Value.cells] using h⟩
    exact ⟨some a, cap, l, rfl, hr, hd⟩

theorem open_nodes {H : Type} {enc : TypeId × Value → H} {W : World} {fuel : Nat} {v : Value} {x : DataW H × List MemPlace}
    (h : DataW.trod enc Try.prog W 0 (fun _ => true) true fuel 43 [v] = some x) :
    ∃ A c L, v = .slice A (L : List Int).length c ∧ RdI W W.heap.size A L ∧ (L = [] ∨ ∃ elems spare, x.1 = .slice elems spare ∧ elems.length = L.length) := by
  rcases open_ints Try.underlying43 Try.underlying3 cellsInt h with ⟨hcs, _⟩ | ⟨a, len, cap, zs, hcs, _, hl, hm, hz, hd, hcell, hwz⟩
  · simp at hcs
    exact ⟨none, 0, [], hcs, .inl rfl, .inl rfl⟩
  · simp at hcs
    subst hcs
    have hz' : zs.length = cap := by simpa using hz
    have hlen : (zs.take len).length = len := by simp; omega
    refine ⟨some a, cap, zs.take len, by rw [hlen], ?_, ?_⟩
    · by_cases h0 : 0 < len
      · obtain ⟨b, off, rfl, hc⟩ := ints_at hcell (by omega)
        refine .inr ⟨b, off, rfl, World.block_lt_of_cell? W _ (hc 0 (by omega)), fun i hi => ?_⟩
        have hiz : i < zs.length := by rw [hlen] at hi; omega
        rw [hc i hiz]
        simp [List.getD, List.getElem?_eq_getElem hiz, List.getElem_take]
      · have : len = 0 := by omega
        subst this
        exact .inl (by simp)
    · right
      rw [hd]
      exact ⟨_, _, rfl, by rw [hlen]; simp [lits]; omega⟩

theorem open_ents {H : Type} {enc : TypeId × Value → H} {W : World} {fuel : Nat} {v : Value} {x : DataW H × List MemPlace}
    (h : DataW.trod enc Try.prog W 0 (fun _ => true) true fuel 49 [v] = some x) :
    ∃ A c es, v = .slice A (es : List Ent).length c ∧ Ents W W.heap.size A es ∧ (es = [] ∨ ∃ elems spare, x.1 = .slice elems spare ∧ elems.length = es.length ∧ ∀ e ∈ es, ∃ parts d, DataW.agg parts ∈ elems ∧ d ∈ parts ∧ (e.data = [] ∨ ∃ el sp, d = .slice el sp ∧ el.length = e.data.length)) := by
  rcases open_slice Try.underlying49 h with ⟨hcs, _⟩ | ⟨a, len, cap, m, q, D, Pl, hcs, _, hl, hm, hmm, hd, hx⟩
  · simp at hcs
    exact ⟨none, 0, [], hcs, .inl rfl, .inl rfl⟩
  · simp at hcs
    subst hcs
    have each : ∀ i, i < m → ∃ s : Ent, (∃ b A c, a.add (i * 4) = ⟨b, (a.add (i * 4)).off, none⟩ ∧ W.cell? ⟨b, (a.add (i * 4)).off, none⟩ = some (.int .i64 s.index) ∧ W.cell? ⟨b, (a.add (i * 4)).off + 1, none⟩ = some (.int .i64 s.term) ∧ W.cell? ⟨b, (a.add (i * 4)).off + 2, none⟩ = some (.int .i64 s.kind) ∧ W.cell? ⟨b, (a.add (i * 4)).off + 3, none⟩ = some (.slice A s.data.length c) ∧ Rd W W.heap.size A s.data) ∧ ∃ parts d, D i = .agg parts ∧ d ∈ parts ∧ (s.data = [] ∨ ∃ el sp, d = .slice el sp ∧ el.length = s.data.length) := by
      intro i hi
      obtain ⟨cs', h1, h2⟩ := hx i hi
      rw [cells4] at h1
      obtain ⟨_, hlen, hcell⟩ := World.cells?_some h1
      obtain ⟨xs, k, _, hX, _, hxl, hf⟩ := DataW.trod_struct Try.underlying74 h2
      match xs, hxl, cs', hlen with
      | [y0, y1, y2, y3], _, [v0, v1, v2, v3], _ =>
        have g0 := hf 0 _ rfl
        have g1 := hf 1 _ rfl
        have g2 := hf 2 _ rfl
        have g3 := hf 3 _ rfl
        simp [cellsInt, cellsBytes] at g0 g1 g2 g3
        obtain ⟨n0, e0, _, _⟩ := DataW.trod_int Try.underlying3 g0
        obtain ⟨n1, e1, _, _⟩ := DataW.trod_int Try.underlying3 g1
        obtain ⟨n2, e2, _, _⟩ := DataW.trod_int Try.underlying3 g2
        obtain ⟨sA, sc, l, e3, hr, hdd⟩ := open_data g3
        simp at e0 e1 e2
        subst e0 e1 e2 e3
        have c0 := hcell 0 (by omega)
        have c1 := hcell 1 (by omega)
        have c2 := hcell 2 (by omega)
        have c3 := hcell 3 (by omega)
        rw [add_zero'] at c0
        simp only [Prod.mk.injEq] at hX
        rcases ha : a.add (i * 4) with ⟨b, off, spot⟩
        obtain rfl : spot = none := by
          rw [ha] at c0
          simpa using World.cell?_spot c0
        rw [ha] at c0 c1 c2 c3
        rw [add_at'] at c1 c2 c3
        exact ⟨⟨n0, n1, n2, l⟩, ⟨b, sA, sc, rfl, c0, c1, c2, c3, hr⟩, _, y3.1, hX.1, by simp, hdd⟩
    obtain ⟨f, hf'⟩ := choose_lt each
    have hnm : len ≤ m := by rw [hmm]; split <;> omega
    refine ⟨some a, cap, (List.range len).map f, by simp, ?_, ?_⟩
    · by_cases h0 : len = 0
      · exact .inl (by simp [h0])
      · right
        obtain ⟨b, off, spot⟩ := a
        have hspot : spot = none := by
          obtain ⟨⟨b2, _, _, hb2, _⟩, _⟩ := hf' 0 (by omega)
          rw [Nat.zero_mul, add_zero'] at hb2
          injection hb2
        subst hspot
        have hlt : b < W.heap.size := by
          obtain ⟨⟨b2, _, _, hb2, c0, _⟩, _⟩ := hf' 0 (by omega)
          rw [Nat.zero_mul, add_zero'] at hb2 c0
          injection hb2 with hb2
          subst hb2
          exact World.block_lt_of_cell? W _ c0
        refine ⟨b, off, rfl, hlt, fun i hi => ?_⟩
        have hi' : i < len := by simpa using hi
        obtain ⟨⟨b2, A, c, hb2, c0, c1, c2, c3, hr⟩, _⟩ := hf' i (by omega)
        rw [add_at'] at hb2 c0 c1 c2 c3
        injection hb2 with hb2
        subst hb2
        simp only [List.getElem_map, List.getElem_range]
        exact ⟨A, c, c0, c1, c2, c3, hr⟩
    · right
      rw [hd]
      refine ⟨_, _, rfl, by simp, fun e he => ?_⟩
      obtain ⟨i, hi, rfl⟩ := List.mem_map.1 he
      have hi' : i < len := by simpa using hi
      obtain ⟨_, parts, d, h1, h2, h3⟩ := hf' i (by omega)
      exact ⟨parts, d, List.mem_map.2 ⟨i, hi, h1⟩, h2, h3⟩

theorem open_msg {H : Type} {enc : TypeId × Value → H} {W : World} {base : Nat} {v : Value} {d : DataW H} {p : List MemPlace}
    (hv : Value.okWide Try.prog W .any base 51 v) (h : DataW.Trod enc Try.prog W 0 (fun _ => true) true 51 v d p) :
    ∃ m a, v = msgV m a ∧ MRd W W.heap.size m a ∧ ∀ ds, Rows.uptoSmall H ds = true → d ∈ ds → Small m := by
  simp only [Value.okWide, Try.underlying51] at hv
  obtain ⟨cs, rfl, h2, _⟩ := hv
  rw [cells12] at h2
  obtain ⟨l⟩ := cs
  match l, h2 with
  | [v0, v1, v2, v3, v4, v5, v6, v7, v8, v9, v10, v11], _ =>
    obtain ⟨fuel, hf⟩ := h
    obtain ⟨xs, k, _, hX, _, hxl, hf⟩ := DataW.trod_struct Try.underlying51 hf
    match xs, hxl with
    | [y0, y1, y2, y3, y4, y5, y6, y7, y8, y9, y10, y11], _ =>
      have g0 := hf 0 _ rfl
      have g1 := hf 1 _ rfl
      have g2 := hf 2 _ rfl
      have g3 := hf 3 _ rfl
      have g4 := hf 4 _ rfl
      have g5 := hf 5 _ rfl
      have g6 := hf 6 _ rfl
      have g7 := hf 7 _ rfl
      have g8 := hf 8 _ rfl
      have g9 := hf 9 _ rfl
      have g10 := hf 10 _ rfl
      have g11 := hf 11 _ rfl
      simp [Value.cells, cellsInt, cellsBytes, cellsBool, cellsEnts, cellsInts] at g0 g1 g2 g3 g4 g5 g6 g7 g8 g9 g10 g11
      obtain ⟨n0, e0, _, _⟩ := DataW.trod_int Try.underlying3 g0
      obtain ⟨n1, e1, _, _⟩ := DataW.trod_int Try.underlying3 g1
      obtain ⟨n2, e2, _, _⟩ := DataW.trod_int Try.underlying3 g2
      obtain ⟨n3, e3, _, _⟩ := DataW.trod_int Try.underlying3 g3
      obtain ⟨n4, e4, _, _⟩ := DataW.trod_int Try.underlying3 g4
      obtain ⟨n5, e5, _, _⟩ := DataW.trod_int Try.underlying3 g5
      obtain ⟨n6, e6, _, _⟩ := DataW.trod_int Try.underlying3 g6
      obtain ⟨n7, e7, _, _⟩ := DataW.trod_int Try.underlying3 g7
      obtain ⟨b, e8, _⟩ := DataW.trod_bool Try.underlying4 g8
      obtain ⟨eA, ec, es, rfl, he, hde⟩ := open_ents g9
      obtain ⟨mA, mc, L, rfl, hm, hdm⟩ := open_nodes g10
      obtain ⟨dA, dc, dat, rfl, hdt, hdd⟩ := open_data g11
      simp at e0 e1 e2 e3 e4 e5 e6 e7 e8
      subst e0 e1 e2 e3 e4 e5 e6 e7 e8
      refine ⟨⟨n0, n1, n2, n3, n4, n5, n6, n7, b, es, L, dat⟩, ⟨eA, ec, mA, mc, dA, dc⟩, rfl, ⟨he, hm, hdt⟩, fun ds hs hds => ?_⟩
      simp only [Prod.mk.injEq] at hX
      have hb : Rows.uptoBulkAll ds ≤ 1048576 := of_decide_eq_true hs
      have h0 := bulk_mem hds
      rw [hX.1] at h0
      simp only [Rows.uptoBulk] at h0
      have hp : ∀ y, y ∈ [y0.1, y1.1, y2.1, y3.1, y4.1, y5.1, y6.1, y7.1, y8.1, y9.1, y10.1, y11.1] → Rows.uptoBulk y ≤ 1048576 := fun y hy => by
        have := bulk_mem (l := [y0, y1, y2, y3, y4, y5, y6, y7, y8, y9, y10, y11].map (·.1)) hy
        omega
      refine ⟨?_, ?_, ?_, ?_⟩
      · rcases hde with rfl | ⟨elems, spare, h1, h2, _⟩
        · simp
        · have h3 := hp y9.1 (by simp)
          have h4 := bulk_len elems
          rw [h1] at h3
          simp only [Rows.uptoBulk] at h3
          simp only; omega
      · intro e hem
        simp only at hem
        rcases hde with rfl | ⟨elems, spare, h1, h2, h5⟩
        · cases hem
        · obtain ⟨parts, dd, hm1, hm2, hdl⟩ := h5 e hem
          rcases hdl with h0 | ⟨el, sp, hdl, hel⟩
          · rw [h0]; simp
          · have h3 := hp y9.1 (by simp)
            rw [h1] at h3
            simp only [Rows.uptoBulk] at h3
            have h4 := bulk_mem hm1
            simp only [Rows.uptoBulk] at h4
            have h6 := bulk_mem hm2
            rw [hdl] at h6
            simp only [Rows.uptoBulk] at h6
            have h7 := bulk_len el
            omega
      · rcases hdm with rfl | ⟨elems, spare, h1, h2⟩
        · simp
        · have h3 := hp y10.1 (by simp)
          have h4 := bulk_len elems
          rw [h1] at h3
          simp only [Rows.uptoBulk] at h3
          simp only; omega
      · rcases hdd with rfl | ⟨elems, spare, h1, h2⟩
        · simp
        · have h3 := hp y11.1 (by simp)
          have h4 := bulk_len elems
          rw [h1] at h3
          simp only [Rows.uptoBulk] at h3
          simp only; omega
end Go.Proofs.Ytekgmgiokmbliaa
