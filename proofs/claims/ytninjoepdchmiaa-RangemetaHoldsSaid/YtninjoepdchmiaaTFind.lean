/-
  The table's Find, of a key that some range has.
-/
import Derived.Test.YtninjoepdchmiaaTable
set_option linter.unusedVariables false
namespace Go.Proofs.Ytninjoepdchmiaa
open Go.RowKit

set_option maxHeartbeats 1600000 in
set_option maxRecDepth 100000 in
theorem tfind_any (B p n c : Nat) (A : Option Addr) (L : List RV) (K : Option Addr) (nk kc : Nat) (key : List UInt8) (w : World) (h : Tb w B p A n c L) (hl : n ≤ 1000000) (hm : Mono (L.map (·.d))) (hs : Src w K nk kc key) (hok : findOk (L.map (·.d)) key = true) :
    Calls Try.prog 23 #[.pointer (some ⟨p, 0, none⟩), .slice K nk kc] w fun e w' => ∃ y : RV, e = .returned (rval y) ∧ (L.map (·.d))[findK (L.map (·.d)) key]? = some y.d ∧ NewR w' w.heap.size y ∧ Below w.heap.size w w' := by
  have hb := below1' w (.cells #[.int .i64 0, .slice none 0 0, .slice none 0 0, .int .i64 0] 46)
  obtain ⟨W, hW⟩ : ∃ W, W = w.alloc (.cells #[.int .i64 0, .slice none 0 0, .slice none 0 0, .int .i64 0] 46) := ⟨_, rfl⟩
  have R0 : Hid (∀ j v, (#[Value.int .i64 0, .slice none 0 0, .slice none 0 0, .int .i64 0] : Array Value)[j]? = some v → Cell W w.heap.size j v) := fun j v h => by rw [hW]; exact Cell.new w _ 46 j v h
  rw [← hW] at hb
  have h1 := h.keep hb
  have C := find_any L A n c K nk kc key W h1.len h1.rd (by omega) hm (hs.keep hb)
  rw [hok] at C
  have HC := Lib.hid C
  have HT := Lib.hid h1
  have hWz : Hid (W.heap.size = w.heap.size + 1) := by show _ = _; rw [hW]; simp
  obtain ⟨k, hk⟩ : ∃ k, k = findK (L.map (·.d)) key := ⟨_, rfl⟩
  have hkl : k < L.length := by
    unfold findOk at hok
    rw [← hk] at hok
    split at hok
    · rename_i r hr
      have := (List.getElem?_eq_some_iff.1 hr).1
      simpa using this
    · cases hok
  replace HC := HC.out
  rw [← hk] at HC
  rw [← hk]
  have HC := Lib.hid HC
  have HN := Lib.hid h1.len
  have HB := Lib.hid hb
  obtain ⟨u0, hu0⟩ : ∃ u, u = w.heap.size := ⟨_, rfl⟩
  have HU := Lib.hid hu0
  rw [← hu0] at R0
  have x0 := h1.cell.1
  rw [hW] at x0
  clear C h h1 hs hok hk hm hb
  go_enter Try.func23, Try.ntmps23
  go_wp2_with fail
  rw [← hu0, ← hW]
  clear hW hu0
  refine HC.out.mono ?_
  rintro e w2 ⟨rfl, h2⟩
  have T2 := HT.out.keep h2
  rcases T2.rd with h0 | ⟨q, o, rfl, hq, hcell⟩
  · rw [h0] at hkl; simp at hkl
  obtain ⟨c0, c1, c2, c3, htx⟩ := hcell k hkl
  have HE : Hid ((L.map (·.d))[k]? = some L[k].d) := by show _ = _; rw [List.getElem?_map, List.getElem?_eq_getElem hkl]; rfl
  obtain ⟨x, hx⟩ : ∃ x, x = L[k] := ⟨_, rfl⟩
  replace HE := HE.out
  rw [← hx] at c0 c1 c2 c3 htx HE
  have HE := Lib.hid HE
  have CC := clone_any x w2 htx
  simp only [rval] at CC
  have HCC := Lib.hid CC
  have HB2 := Lib.hid (HB.out.trans (h2.mono HB.out.size))
  have R2 := Lib.hid (fun j v h => (R0.out j v h).keep h2)
  have hkn : (k : Int) < (n : Int) := by have := HN.out; omega
  have hsz2 := Lib.hid h2.size
  clear x0
  have x0 := T2.cell.1
  clear h2 T2 hcell hx htx CC HC
  go_wp2_with fail
  refine HCC.out.mono ?_
  rintro e w3 ⟨y, rfl, hyd, hny, h3⟩
  have HB3 := Lib.hid (HB2.out.trans (h3.mono HB2.out.size))
  have HY := Lib.hid (And.intro hyd hny)
  have hsz3 := Lib.hid h3.size
  obtain ⟨y0, fy0⟩ := (R2.out 0 _ rfl).keep h3
  obtain ⟨y1, fy1⟩ := (R2.out 1 _ rfl).keep h3
  obtain ⟨y2, fy2⟩ := (R2.out 2 _ rfl).keep h3
  obtain ⟨y3, fy3⟩ := (R2.out 3 _ rfl).keep h3
  clear h3 hyd hny HCC c0 c1 c2 c3 x0
  go_wp2
  have TE := ((((Turn.refl (fun k => k = u0) w3).set (p := ⟨u0, 0, none⟩) (fun _ => rfl) (.int .i64 y.d.id)).set (p := ⟨u0, 1, none⟩) (fun _ => rfl) (.slice y.F y.d.fr.length y.fc)).set (p := ⟨u0, 2, none⟩) (fun _ => rfl) (.slice y.T y.d.to.length y.tc)).set (p := ⟨u0, 3, none⟩) (fun _ => rfl) (.int .i64 y.d.gen)
  have hM : ∀ k, w2.heap.size ≤ k → k < w3.heap.size → ¬ (k = u0) := fun k h1 _ h2 => by have := HU.out; have := hWz.out; have := hsz2.out; omega
  refine bodyPost_ret (v := rval y) (by rw [results_cell1 rfl]; go_simp; rfl) rfl ⟨y, rfl, by rw [HE.out, HY.out.1], ⟨(HY.out.2.1.turn TE hM).lower HB2.out.size, (HY.out.2.2.turn TE hM).lower HB2.out.size⟩, ?_⟩
  exact HB3.out.trans (TE.below (fun k _ h => by have := HU.out; omega) HB3.out.size)
end Go.Proofs.Ytninjoepdchmiaa
