/-
  How the laws' arguments are opened: texts, spans, scripts of splits.
-/
import Derived.Test.YtninjoepdchmiaaOpen
import Derived.Test.YtninjoepdchmiaaOpenBytes
import Derived.Test.YtninjoepdchmiaaLawHolds
import Derived.Deep.Slices
import Derived.Lib.SmallJoins
set_option linter.unusedVariables false
set_option linter.constructorNameAsVariable false
set_option maxRecDepth 100000
namespace Go.Proofs.Ytninjoepdchmiaa
open Go.RowKit Go.ChangeShapes Go.WideShapes Go.ChangeAt Go.Deep

theorem scells3 : Try.prog.cellsOf 42 = 3 := by kernel_rfl
theorem scellsInt : Try.prog.cellsOf 3 = 1 := by kernel_rfl
theorem scellsBytes : Try.prog.cellsOf 24 = 1 := by kernel_rfl
theorem oadd_at (g o j : Nat) : (⟨g, o, none⟩ : Addr).add j = ⟨g, o + j, none⟩ := by unfold Addr.add; split <;> simp_all
theorem oadd_zero (a : Addr) : a.add 0 = a := by simp [Addr.add]
theorem ochoose {α : Type} [Inhabited α] {m : Nat} {P : Nat → α → Prop} (h : ∀ i, i < m → ∃ x, P i x) : ∃ f : Nat → α, ∀ i, i < m → P i (f i) := by
  classical
  exact ⟨fun i => if hi : i < m then (h i hi).choose else default, fun i hi => by simp only [hi, dif_pos]; exact (h i hi).choose_spec⟩
theorem weightsAll_mem {H : Type} {P : Program} {e : TypeId} {n : Nat} : ∀ {l : List (DataW H)} {i : Nat} {d : DataW H}, l[i]? = some d → n ∈ d.weights P e → n ∈ DataW.weightsAll P e l
  | [], _, _, h, _ => by simp at h
  | x :: r, 0, d, h, hn => by
    simp only [List.getElem?_cons_zero, Option.some.injEq] at h
    subst h
    simp only [DataW.weightsAll, List.mem_append]
    exact .inl hn
  | x :: r, i + 1, d, h, hn => by
    simp only [List.getElem?_cons_succ] at h
    simp only [DataW.weightsAll, List.mem_append]
    exact .inr (weightsAll_mem h hn)
/-- a text that came in -/
theorem open_src {H : Type} {enc : TypeId × Value → H} {W : World} {fuel : Nat} {v : Value} {x : DataW H × List MemPlace}
    (h : DataW.trod enc Try.prog W 0 (fun _ => true) true fuel 24 [v] = some x) (hw : ∀ n ∈ x.1.weights Try.prog 24, n ≤ reachBytes) :
    ∃ A c l, v = .slice A (l : List UInt8).length c ∧ Src W A l.length c l := by
  have hform : v = .slice none 0 0 ∨ ∃ a len cap, v = .slice (some a) len cap := by
    rcases open_slice Try.underlying24 h with ⟨hcs, _⟩ | ⟨a, len, cap, m, q, D, Pl, hcs, _⟩
    · simp at hcs; exact .inl hcs
    · simp at hcs; exact .inr ⟨a, len, cap, hcs⟩
  obtain ⟨d, p⟩ := x
  rcases hform with rfl | ⟨a, len, cap, rfl⟩
  · exact ⟨none, 0, [], rfl, ⟨rfl, fun _ => rfl, Nat.zero_le _⟩, Rd.nil_ _ _ _⟩
  · obtain ⟨l, rfl, hr, hl, hd⟩ := open_bytes (a := some a) (len := len) (cap := cap) ⟨fuel, by simpa [Value.cells] using h⟩
    refine ⟨some a, cap, l, rfl, ⟨rfl, (fun h => nomatch h), ?_⟩, hr⟩
    rcases hd with rfl | ⟨elems, spare, rfl, he⟩
    · exact Nat.zero_le _
    · have h := hw ((elems.length + spare.length) * Try.prog.bytesOf 5) (by simp [DataW.weights, Try.underlying24])
      rw [show Try.prog.bytesOf 5 = 1 by kernel_rfl] at h
      simp only [reachBytes] at h
      omega
theorem sized_all {H : Type} {ts : List TypeId} {ds : List (DataW H)} {j : Nat} {d : DataW H} {t : TypeId} (h : (DataW.weightsEach Try.prog ts ds).all (· ≤ reachBytes) = true) (ht : ts[j]? = some t) (hd : ds[j]? = some d) : ∀ n ∈ d.weights Try.prog t, n ≤ reachBytes :=
  fun n hn => of_decide_eq_true (List.all_eq_true.1 h _ (DataW.weights_mem_each ht hd _ hn))
theorem open_text {H : Type} {enc : TypeId × Value → H} {W : World} {v : Value} {d : DataW H} {p : List MemPlace} {ts : List TypeId} {ds : List (DataW H)} {j : Nat}
    (hv : ∃ a len cap, v = .slice a len cap) (h : DataW.Trod enc Try.prog W 0 (fun _ => true) true 24 v d p) (hsz : (DataW.weightsEach Try.prog ts ds).all (· ≤ reachBytes) = true) (ht : ts[j]? = some 24) (hd : ds[j]? = some d) :
    ∃ A c l, v = .slice A (l : List UInt8).length c ∧ Src W A l.length c l := by
  obtain ⟨a, len, cap, rfl⟩ := hv
  obtain ⟨fuel, hf⟩ := h
  exact open_src (x := (d, p)) (by simpa [Value.cells] using hf) (sized_all hsz ht hd)
theorem open_span {H : Type} {enc : TypeId × Value → H} {W : World} {v : Value} {d : DataW H} {p : List MemPlace} {ts : List TypeId} {ds : List (DataW H)} {j base : Nat}
    (hv : Value.okWide Try.prog W .any base 39 v) (h : DataW.Trod enc Try.prog W 0 (fun _ => true) true 39 v d p) (hsz : (DataW.weightsEach Try.prog ts ds).all (· ≤ reachBytes) = true) (ht : ts[j]? = some 39) (hd : ds[j]? = some d) :
    ∃ G gc g U uc u, v = .agg #[.slice G (g : List UInt8).length gc, .slice U (u : List UInt8).length uc] ∧ Src W G g.length gc g ∧ Src W U u.length uc u := by
  obtain ⟨c0, c1, y0, y1, m, rfl, rfl, rfl, hy0, hy1⟩ := Joins.open_agg2 Try.underlying39 (by kernel_rfl) (by kernel_rfl) hv h
  have hw := sized_all hsz ht hd
  simp only [DataW.weights, Try.underlying39, List.map_cons, List.map_nil, DataW.weightsEach, List.mem_append] at hw
  obtain ⟨G, gc, g, rfl, hg⟩ := open_src hy0 fun n hn => hw n (.inl hn)
  obtain ⟨U, uc, u, rfl, hu⟩ := open_src hy1 fun n hn => hw n (.inr (.inl hn))
  exact ⟨G, gc, g, U, uc, u, rfl, hg, hu⟩
instance : Inhabited SV := ⟨⟨0, 0, [], none, 0⟩⟩
theorem open_scr {H : Type} {enc : TypeId × Value → H} {W : World} {v : Value} {d : DataW H} {p : List MemPlace} {ts : List TypeId} {ds : List (DataW H)} {j : Nat}
    (hv : ∃ a len cap, v = .slice a len cap) (h : DataW.Trod enc Try.prog W 0 (fun _ => true) true 37 v d p) (hsz : (DataW.weightsEach Try.prog ts ds).all (· ≤ reachBytes) = true) (ht : ts[j]? = some 37) (hd : ds[j]? = some d) :
    ∃ A c S, v = .slice A (S : List SV).length c ∧ ScrRd W A S := by
  obtain ⟨A, n, c, rfl⟩ := hv
  obtain ⟨fuel, hf⟩ := h
  have hw := sized_all hsz ht hd
  rcases open_slice Try.underlying37 hf with ⟨hcs, _⟩ | ⟨a, len, cap, m, q, D, Pl, hcs, _, hl, hm, hmm, hdd, hx⟩
  · simp [Value.cells] at hcs
    obtain ⟨rfl, rfl, rfl⟩ := hcs
    exact ⟨none, 0, [], rfl, .inl rfl⟩
  · simp [Value.cells] at hcs
    obtain ⟨rfl, rfl, rfl⟩ := hcs
    have each : ∀ i, i < m → ∃ s : SV, ((∀ n ∈ (D i).weights Try.prog 42, n ≤ reachBytes) → W.cell? (a.add (i * 3)) = some (.int .i64 s.id) ∧ W.cell? ((a.add (i * 3)).add 1) = some (.int .i64 s.other) ∧
        W.cell? ((a.add (i * 3)).add 2) = some (.slice s.K s.key.length s.kc) ∧ Src W s.K s.key.length s.kc s.key) := by
      intro i hi
      obtain ⟨cs', h1, h2⟩ := hx i hi
      rw [scells3] at h1
      obtain ⟨_, hlen, hcell⟩ := World.cells?_some h1
      obtain ⟨xs, k, _, hX, _, hxl, hf⟩ := DataW.trod_struct Try.underlying42 h2
      match xs, hxl, cs', hlen with
      | [y0, y1, y2], _, [v0, v1, v2], _ =>
        have g0 := hf 0 _ rfl
        have g1 := hf 1 _ rfl
        have g2 := hf 2 _ rfl
        simp [scellsInt, scellsBytes] at g0 g1 g2
        obtain ⟨n0, e0, _, _⟩ := DataW.trod_int Try.underlying3 g0
        obtain ⟨n1, e1, _, _⟩ := DataW.trod_int Try.underlying3 g1
        simp at e0 e1
        subst e0 e1
        have c0 := hcell 0 (by omega)
        have c1 := hcell 1 (by omega)
        have c2 := hcell 2 (by omega)
        rw [oadd_zero] at c0
        simp only [Prod.mk.injEq] at hX
        by_cases hwi : ∀ n ∈ (D i).weights Try.prog 42, n ≤ reachBytes
        · have hwi' := hwi
          rw [hX.1] at hwi'
          simp only [DataW.weights, Try.underlying42, List.map_cons, List.map_nil, DataW.weightsEach, List.mem_append] at hwi'
          obtain ⟨K, kc, key, rfl, hs⟩ := open_src g2 fun n hn => hwi' n (.inr (.inr (.inl hn)))
          exact ⟨⟨n0, n1, key, K, kc⟩, fun _ => ⟨c0, c1, c2, hs⟩⟩
        · exact ⟨default, fun h => absurd h hwi⟩
    obtain ⟨f, hf'⟩ := ochoose each
    have hnm : n ≤ m := by rw [hmm]; split <;> omega
    obtain ⟨rfl, rfl⟩ := Prod.mk.inj hdd
    simp only [DataW.weights, Try.underlying37] at hw
    have he : ∀ i, i < n → W.cell? (a.add (i * 3)) = some (.int .i64 (f i).id) ∧ W.cell? ((a.add (i * 3)).add 1) = some (.int .i64 (f i).other) ∧ W.cell? ((a.add (i * 3)).add 2) = some (.slice (f i).K (f i).key.length (f i).kc) ∧ Src W (f i).K (f i).key.length (f i).kc (f i).key :=
      fun i hi => hf' i (by omega) fun k hk => hw k (List.mem_cons_of_mem _ (List.mem_append_left _ (weightsAll_mem (i := i) (by simp [hi]) hk)))
    refine ⟨some a, c, (List.range n).map f, by simp, ?_⟩
    by_cases h0 : n = 0
    · exact .inl (by simp [h0])
    · right
      obtain ⟨b, off, spot⟩ := a
      have hspot : spot = none := by
        have := World.cell?_spot (he 0 (by omega)).1
        simpa [Addr.add] using this
      subst hspot
      refine ⟨b, off, rfl, ?_, fun i hi => ?_⟩
      · have := (he 0 (by omega)).1
        rw [oadd_at] at this
        exact World.block_lt_of_cell? W _ this
      · have hi' : i < n := by simpa using hi
        obtain ⟨c0, c1, c2, hs⟩ := he i hi'
        rw [oadd_at] at c0
        rw [oadd_at, oadd_at] at c1 c2
        simp only [List.getElem_map, List.getElem_range]
        exact ⟨c0, c1, c2, hs⟩
end Go.Proofs.Ytninjoepdchmiaa
