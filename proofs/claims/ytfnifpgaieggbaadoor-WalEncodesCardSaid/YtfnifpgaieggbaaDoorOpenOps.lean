/-
  Batches that came in: a slice of slices of operations, and the second form's bound.
-/
import Derived.Test.YtfnifpgaieggbaaDoorBulk
import Derived.Test.YtfnifpgaieggbaaDoorTornL
import Derived.Deep.Slices
import Derived.Lib.SmallJoins
set_option linter.unusedVariables false
namespace Go.Proofs.YtfnifpgaieggbaaDoor
open Go.RowKit Go.ChangeShapes Go.WideShapes Go.ChangeAt Go.Deep

theorem ocells3 : Tryd.prog.cellsOf 43 = 3 := by kernel_rfl
theorem ocellsBool : Tryd.prog.cellsOf 4 = 1 := by kernel_rfl
theorem ocellsBytes : Tryd.prog.cellsOf 28 = 1 := by kernel_rfl
theorem ocellsOps : Tryd.prog.cellsOf 23 = 1 := by kernel_rfl
theorem oadd_at (g o j : Nat) : (⟨g, o, none⟩ : Addr).add j = ⟨g, o + j, none⟩ := by unfold Addr.add; split <;> simp_all
theorem oadd_zero (a : Addr) : a.add 0 = a := by simp [Addr.add]
theorem ochoose {α : Type} [Inhabited α] {m : Nat} {P : Nat → α → Prop} (h : ∀ i, i < m → ∃ x, P i x) : ∃ f : Nat → α, ∀ i, i < m → P i (f i) := by
  classical
  exact ⟨fun i => if hi : i < m then (h i hi).choose else default, fun i hi => by simp only [hi, dif_pos]; exact (h i hi).choose_spec⟩
theorem bulk_map {H : Type} (D : Nat → DataW H) (g : Nat → Nat) : ∀ n, (∀ i, i < n → g i ≤ Rows.uptoBulk (D i)) → ((List.range n).map g).sum ≤ Rows.uptoBulkAll ((List.range n).map D)
  | 0, _ => by simp
  | n + 1, h => by
    have ap : ∀ (l : List (DataW H)) (d : DataW H), Rows.uptoBulkAll (l ++ [d]) = Rows.uptoBulkAll l + Rows.uptoBulk d := by
      intro l d
      induction l with
      | nil => simp [Rows.uptoBulkAll]
      | cons x r ih => simp only [List.cons_append, Rows.uptoBulkAll, ih]; omega
    have h1 := bulk_map D g n (fun i hi => h i (by omega))
    have h2 := h n (by omega)
    rw [List.range_succ, List.map_append, List.map_append, List.sum_append, List.map_singleton, List.map_singleton, ap]
    simp
    omega
theorem open_data {H : Type} {enc : TypeId × Value → H} {W : World} {fuel : Nat} {v : Value} {x : DataW H × List MemPlace}
    (h : DataW.trod enc Tryd.prog W 0 (fun _ => true) true fuel 28 [v] = some x) :
    ∃ A c l, v = .slice A (l : List UInt8).length c ∧ Rd W W.heap.size A l ∧ l.length ≤ Rows.uptoBulk x.1 ∧ ((∀ n ∈ x.1.weights Tryd.prog 28, n ≤ reachBytes) → l.length ≤ 140737488351232) := by
  have hform : v = .slice none 0 0 ∨ ∃ a len cap, v = .slice (some a) len cap := by
    rcases open_slice Tryd.underlying28 h with ⟨hcs, _⟩ | ⟨a, len, cap, m, q, D, Pl, hcs, _⟩
    · simp at hcs; exact .inl hcs
    · simp at hcs; exact .inr ⟨a, len, cap, hcs⟩
  obtain ⟨d, p⟩ := x
  rcases hform with rfl | ⟨a, len, cap, rfl⟩
  · exact ⟨none, 0, [], rfl, Rd.nil_ _ _ _, Nat.zero_le _, fun _ => Nat.zero_le _⟩
  · obtain ⟨l, rfl, hr, hl, hd⟩ := open_bytes (a := some a) (len := len) (cap := cap) ⟨fuel, by simpa [Value.cells] using h⟩
    refine ⟨some a, cap, l, rfl, hr, ?_⟩
    rcases hd with rfl | ⟨elems, spare, rfl, he⟩
    · exact ⟨Nat.zero_le _, fun _ => Nat.zero_le _⟩
    · refine ⟨?_, fun hw => ?_⟩
      · have := bulk_len elems
        simp only [Rows.uptoBulk]
        omega
      · have h := hw ((elems.length + spare.length) * Tryd.prog.bytesOf 5) (by simp [DataW.weights, Tryd.underlying28])
        rw [show Tryd.prog.bytesOf 5 = 1 by kernel_rfl] at h
        simp only [reachBytes] at h
        omega
theorem weightsAll_mem {H : Type} {P : Program} {e : TypeId} {n : Nat} : ∀ {l : List (DataW H)} {i : Nat} {d : DataW H}, l[i]? = some d → n ∈ d.weights P e → n ∈ DataW.weightsAll P e l
  | [], _, _, h, _ => by simp at h
  | x :: r, 0, d, h, hn => by
    simp only [List.getElem?_cons_zero, Option.some.injEq] at h
    subst h
    simp only [DataW.weightsAll, List.mem_append]
    exact .inl hn
  | x :: r, i + 1, d, h, hn => by
    simp only [List.getElem?_cons_succ] at h
    simp only [DataW.weightsAll, List.mem_append]
    exact .inr (weightsAll_mem h hn)
instance : Inhabited OpD := ⟨⟨false, [], []⟩⟩
theorem open_ops {H : Type} {enc : TypeId × Value → H} {W : World} {fuel : Nat} {v : Value} {x : DataW H × List MemPlace}
    (h : DataW.trod enc Tryd.prog W 0 (fun _ => true) true fuel 23 [v] = some x) :
    ∃ A c l, v = .slice A (l : List OpD).length c ∧ OpsRd W W.heap.size A l ∧ dat l + l.length ≤ Rows.uptoBulk x.1 ∧ ((∀ n ∈ x.1.weights Tryd.prog 23, n ≤ reachBytes) → SmallW l) := by
  rcases open_slice Tryd.underlying23 h with ⟨hcs, _⟩ | ⟨a, len, cap, m, q, D, Pl, hcs, _, hl, hm, hmm, hd, hx⟩
  · simp at hcs
    exact ⟨none, 0, [], hcs, .inl rfl, by simp [dat], fun _ => ⟨Nat.zero_le _, (fun o h => nomatch h), (fun o h => nomatch h)⟩⟩
  · simp at hcs
    subst hcs
    have each : ∀ i, i < m → ∃ s : OpD, (∃ b K kc V vc, a.add (i * 3) = ⟨b, (a.add (i * 3)).off, none⟩ ∧ W.cell? ⟨b, (a.add (i * 3)).off, none⟩ = some (.bool s.del) ∧ W.cell? ⟨b, (a.add (i * 3)).off + 1, none⟩ = some (.slice K s.key.length kc) ∧ W.cell? ⟨b, (a.add (i * 3)).off + 2, none⟩ = some (.slice V s.val.length vc) ∧ Rd W W.heap.size K s.key ∧ Rd W W.heap.size V s.val) ∧ s.key.length + s.val.length + 1 ≤ Rows.uptoBulk (D i) ∧ ((∀ n ∈ (D i).weights Tryd.prog 43, n ≤ reachBytes) → s.key.length ≤ 140737488351232 ∧ s.val.length ≤ 140737488351232) := by
      intro i hi
      obtain ⟨cs', h1, h2⟩ := hx i hi
      rw [ocells3] at h1
      obtain ⟨_, hlen, hcell⟩ := World.cells?_some h1
      obtain ⟨xs, k, _, hX, _, hxl, hf⟩ := DataW.trod_struct Tryd.underlying43 h2
      match xs, hxl, cs', hlen with
      | [y0, y1, y2], _, [v0, v1, v2], _ =>
        have g0 := hf 0 _ rfl
        have g1 := hf 1 _ rfl
        have g2 := hf 2 _ rfl
        simp [ocellsBool, ocellsBytes] at g0 g1 g2
        obtain ⟨b0, e0, _⟩ := DataW.trod_bool Tryd.underlying4 g0
        obtain ⟨K, kc, key, e1, r1, d1, w1⟩ := open_data g1
        obtain ⟨V, vc, val, e2, r2, d2, w2⟩ := open_data g2
        simp at e0
        subst e0 e1 e2
        have c0 := hcell 0 (by omega)
        have c1 := hcell 1 (by omega)
        have c2 := hcell 2 (by omega)
        rw [oadd_zero] at c0
        simp only [Prod.mk.injEq] at hX
        rcases ha : a.add (i * 3) with ⟨b, off, spot⟩
        obtain rfl : spot = none := by
          rw [ha] at c0
          simpa using World.cell?_spot c0
        rw [ha] at c0 c1 c2
        rw [oadd_at] at c1 c2
        refine ⟨⟨b0, key, val⟩, ⟨b, K, kc, V, vc, rfl, c0, c1, c2, r1, r2⟩, ?_, fun hw => ?_⟩
        · rw [hX.1]
          simp [Rows.uptoBulk, Rows.uptoBulkAll]
          omega
        · rw [hX.1] at hw
          simp only [DataW.weights, Tryd.underlying43, List.map_cons, List.map_nil, DataW.weightsEach, List.mem_append] at hw
          exact ⟨w1 fun n hn => hw n (.inr (.inl hn)), w2 fun n hn => hw n (.inr (.inr (.inl hn)))⟩
    obtain ⟨f, hf'⟩ := ochoose each
    have hnm : len ≤ m := by rw [hmm]; split <;> omega
    refine ⟨some a, cap, (List.range len).map f, by simp, ?_, ?_, fun hw => ?_⟩
    · by_cases h0 : len = 0
      · exact .inl (by simp [h0])
      · right
        obtain ⟨b, off, spot⟩ := a
        have hspot : spot = none := by
          obtain ⟨⟨b2, _, _, _, _, hb2, _⟩, _⟩ := hf' 0 (by omega)
          rw [Nat.zero_mul, oadd_zero] at hb2
          injection hb2
        subst hspot
        have hlt : b < W.heap.size := by
          obtain ⟨⟨b2, _, _, _, _, hb2, c0, _⟩, _⟩ := hf' 0 (by omega)
          rw [Nat.zero_mul, oadd_zero] at hb2 c0
          injection hb2 with hb2
          subst hb2
          exact World.block_lt_of_cell? W _ c0
        refine ⟨b, off, rfl, hlt, fun i hi => ?_⟩
        have hi' : i < len := by simpa using hi
        obtain ⟨⟨b2, K, kc, V, vc, hb2, c0, c1, c2, r1, r2⟩, _⟩ := hf' i (by omega)
        rw [oadd_at] at hb2 c0 c1 c2
        injection hb2 with hb2
        subst hb2
        simp only [List.getElem_map, List.getElem_range]
        exact ⟨K, kc, V, vc, c0, c1, c2, r1, r2⟩
    · rw [hd]
      have h1 := bulk_map D (fun i => (f i).key.length + (f i).val.length + 1) len (fun i hi => (hf' i (by omega)).2.1)
      have h2 : ∀ l : List Nat, (l.map fun i => (f i).key.length + (f i).val.length + 1).sum = dat (l.map f) + l.length := by
        intro l
        induction l with
        | nil => rfl
        | cons y r ih => simp only [List.map_cons, List.sum_cons, List.length_cons, dat] at ih ⊢; omega
      rw [h2] at h1
      simp only [Rows.uptoBulk, List.length_map, List.length_range] at h1 ⊢
      omega
    · rw [hd] at hw
      simp only [DataW.weights, Tryd.underlying23] at hw
      have hn := hw _ (List.mem_cons_self ..)
      rw [show Tryd.prog.bytesOf 43 = 56 by kernel_rfl] at hn
      simp only [reachBytes, List.length_map, List.length_range] at hn
      have hi : ∀ i, i < len → (f i).key.length ≤ 140737488351232 ∧ (f i).val.length ≤ 140737488351232 := fun i hi => (hf' i (by omega)).2.2 fun n hn => hw n (List.mem_cons_of_mem _ (List.mem_append_left _ (weightsAll_mem (i := i) (by simp [hi]) hn)))
      refine ⟨by simp only [List.length_map, List.length_range]; omega, fun o ho => ?_, fun o ho => ?_⟩
      · obtain ⟨i, hi', rfl⟩ := List.mem_map.1 ho
        exact (hi i (List.mem_range.1 hi')).1
      · obtain ⟨i, hi', rfl⟩ := List.mem_map.1 ho
        exact (hi i (List.mem_range.1 hi')).2
theorem open_batch {H : Type} {enc : TypeId × Value → H} {W : World} {v : Value} {d : DataW H} {p : List MemPlace} {ts : List TypeId} {ds : List (DataW H)} {j : Nat}
    (hv : Value.okWide Tryd.prog W .any 0 25 v) (h : DataW.Trod enc Tryd.prog W 0 (fun _ => true) true 25 v d p) (hsz : (DataW.weightsEach Tryd.prog ts ds).all (· ≤ reachBytes) = true) (ht : ts[j]? = some 25) (hd : ds[j]? = some d) :
    ∃ (sq : Nat) (A : Option Addr) (c : Nat) (l : List OpD), v = .agg #[.int .u64 sq, .slice A l.length c] ∧ sq < 18446744073709551616 ∧ OpsRd W W.heap.size A l ∧ SmallW l := by
  obtain ⟨c0, c1, y0, y1, m, rfl, rfl, rfl, hy0, hy1⟩ := Joins.open_agg2 Tryd.underlying25 (by kernel_rfl) (by kernel_rfl) hv h
  obtain ⟨a, e0, _, wa⟩ := DataW.trod_int Tryd.underlying22 hy0
  obtain ⟨A, c, l, e1, r1, _, hw⟩ := open_ops hy1
  simp at e0
  subst e0 e1
  have hb := bounds_u64 wa
  refine ⟨a.toNat, A, c, l, by rw [show ((a.toNat : Nat) : Int) = a by omega], by omega, r1, hw fun n hn => ?_⟩
  refine of_decide_eq_true (List.all_eq_true.1 hsz _ (DataW.weights_mem_each ht hd _ ?_))
  simp only [DataW.weights, Tryd.underlying25, List.map_cons, List.map_nil, DataW.weightsEach, List.mem_append]
  exact .inr (.inl hn)
theorem open_bats {H : Type} {enc : TypeId × Value → H} {W : World} {v : Value} {d : DataW H} {p : List MemPlace}
    (hv : ∃ a len cap, v = .slice a len cap)
    (h : ∃ fuel, DataW.trod enc Tryd.prog W 0 (fun _ => true) true fuel 39 v.cells.toList = some (d, p)) :
    ∃ A c Ls, v = .slice A (Ls : List (List OpD)).length c ∧ BatsRd W W.heap.size A Ls ∧ (Ls.map fun l => dat l + l.length).sum ≤ Rows.uptoBulk d ∧ Ls.length ≤ Rows.uptoBulk d := by
  obtain ⟨A, n, c, rfl⟩ := hv
  obtain ⟨fuel, hf⟩ := h
  rcases open_slice Tryd.underlying39 hf with ⟨hcs, _⟩ | ⟨a, len, cap, m, q, D, Pl, hcs, _, hl, hm, hmm, hd, hx⟩
  · simp [Value.cells] at hcs
    obtain ⟨rfl, rfl, rfl⟩ := hcs
    exact ⟨none, 0, [], rfl, .inl rfl, by simp, by simp⟩
  · simp [Value.cells] at hcs
    obtain ⟨rfl, rfl, rfl⟩ := hcs
    have each : ∀ i, i < m → ∃ s : List OpD, (∃ b K kc, a.add i = ⟨b, (a.add i).off, none⟩ ∧ W.cell? ⟨b, (a.add i).off, none⟩ = some (.slice K s.length kc) ∧ OpsRd W W.heap.size K s) ∧ dat s + s.length ≤ Rows.uptoBulk (D i) := by
      intro i hi
      obtain ⟨cs', h1, h2⟩ := hx i hi
      rw [ocellsOps, Nat.mul_one] at h1
      obtain ⟨_, hlen, hcell⟩ := World.cells?_some h1
      match cs', hlen with
      | [v0], _ =>
        obtain ⟨K, kc, l, e0, r0, d0, _⟩ := open_ops h2
        subst e0
        have c0 := hcell 0 (by omega)
        rw [oadd_zero] at c0
        rcases ha : a.add i with ⟨b, off, spot⟩
        obtain rfl : spot = none := by
          rw [ha] at c0
          simpa using World.cell?_spot c0
        rw [ha] at c0
        exact ⟨l, ⟨b, K, kc, rfl, c0, r0⟩, d0⟩
    obtain ⟨f, hf'⟩ := ochoose each
    have hnm : n ≤ m := by rw [hmm]; split <;> omega
    refine ⟨some a, c, (List.range n).map f, by simp, ?_, ?_, ?_⟩
    · by_cases h0 : n = 0
      · exact .inl (by simp [h0])
      · right
        obtain ⟨b, off, spot⟩ := a
        have hspot : spot = none := by
          obtain ⟨⟨b2, _, _, hb2, _⟩, _⟩ := hf' 0 (by omega)
          rw [oadd_zero] at hb2
          injection hb2
        subst hspot
        have hlt : b < W.heap.size := by
          obtain ⟨⟨b2, _, _, hb2, c0, _⟩, _⟩ := hf' 0 (by omega)
          rw [oadd_zero] at hb2 c0
          injection hb2 with hb2
          subst hb2
          exact World.block_lt_of_cell? W _ c0
        refine ⟨b, off, rfl, hlt, fun i hi => ?_⟩
        have hi' : i < n := by simpa using hi
        obtain ⟨⟨b2, K, kc, hb2, c0, r0⟩, _⟩ := hf' i (by omega)
        rw [oadd_at] at hb2 c0
        injection hb2 with hb2
        subst hb2
        simp only [List.getElem_map, List.getElem_range]
        exact ⟨K, kc, c0, r0⟩
    · obtain ⟨rfl, rfl⟩ := Prod.mk.inj hd
      have h1 := bulk_map D (fun i => dat (f i) + (f i).length) n (fun i hi => (hf' i (by omega)).2)
      rw [List.map_map]
      simp only [Rows.uptoBulk]
      refine Nat.le_trans ?_ (Nat.le_trans h1 (by omega))
      exact Nat.le_refl _
    · obtain ⟨rfl, rfl⟩ := Prod.mk.inj hd
      have := bulk_len ((List.range n).map D)
      simp only [Rows.uptoBulk, List.length_map, List.length_range] at this ⊢
      omega
theorem sum_mem {Ls : List (List OpD)} {l : List OpD} (h : l ∈ Ls) : dat l + l.length ≤ (Ls.map fun l => dat l + l.length).sum := by
  induction Ls with
  | nil => cases h
  | cons x r ih =>
    simp only [List.map_cons, List.sum_cons]
    rcases List.mem_cons.1 h with e | e
    · subst e; omega
    · have := ih e; omega
theorem dat_mem {l : List OpD} {o : OpD} (h : o ∈ l) : o.key.length + o.val.length ≤ dat l := by
  induction l with
  | nil => cases h
  | cons x r ih =>
    simp only [dat, List.map_cons, List.sum_cons] at ih ⊢
    rcases List.mem_cons.1 h with e | e
    · subst e; omega
    · have := ih e; omega
theorem bats_small {Ls : List (List OpD)} (h : (Ls.map fun l => dat l + l.length).sum ≤ 1048576) : (∀ l ∈ Ls, SmallO l) ∧ (Ls.map dat).sum ≤ 1048576 := by
  refine ⟨fun l hl => ?_, ?_⟩
  · have h1 := sum_mem hl
    exact ⟨by omega, fun o ho => by have := dat_mem ho; omega, fun o ho => by have := dat_mem ho; omega⟩
  · have : ∀ Ls : List (List OpD), (Ls.map dat).sum ≤ (Ls.map fun l => dat l + l.length).sum := by
      intro Ls
      induction Ls with
      | nil => simp
      | cons x r ih => simp only [List.map_cons, List.sum_cons]; omega
    exact Nat.le_trans (this Ls) h
theorem small_bulk {H : Type} {ds : List (DataW H)} {d : DataW H} (hk : Rows.uptoSmall H ds = true) (hm : d ∈ ds) : Rows.uptoBulk d ≤ 1048576 := by
  have hb : Rows.uptoBulkAll ds ≤ 1048576 := of_decide_eq_true hk
  exact Nat.le_trans (bulk_mem hm) hb
theorem byte_of {n : Int} (h0 : 0 ≤ n) (h1 : n ≤ 255) : ∃ y : UInt8, n = (y.toNat : Int) := by
  refine ⟨UInt8.ofNat n.toNat, ?_⟩
  rw [UInt8.toNat_ofNat']
  omega
end Go.Proofs.YtfnifpgaieggbaaDoor
