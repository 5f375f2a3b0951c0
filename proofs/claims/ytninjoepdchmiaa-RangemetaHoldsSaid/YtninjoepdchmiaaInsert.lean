/-
  slices.Insert of one range.
-/
import Derived.Test.YtninjoepdchmiaaList
import Derived.Test.YtninjoepdchmiaaRowOps
import Derived.Lib.Overlaps
import Derived.Lib.AppendZerosOnto
import Derived.Laws.Externs
import Derived.Deep.RegionLaw
set_option linter.unusedVariables false
namespace Go.Proofs.Ytninjoepdchmiaa
open Go.RowKit

theorem flatten_take {s : Nat} : ∀ (rows : List (List Value)) (k : Nat), (∀ r ∈ rows, r.length = s) → rows.flatten.take (k * s) = (rows.take k).flatten
  | [], k, _ => by simp
  | r :: rows, 0, _ => by simp
  | r :: rows, k + 1, h => by
    have hr := h r (by simp)
    rw [List.flatten_cons, List.take_append, List.take_of_length_le (by rw [hr, Nat.succ_mul]; omega), List.take_succ_cons, List.flatten_cons, show (k + 1) * s - r.length = k * s by rw [hr, Nat.succ_mul]; omega, flatten_take rows k (fun r hr => h r (List.mem_cons_of_mem _ hr))]
theorem flatten_drop {s : Nat} : ∀ (rows : List (List Value)) (k : Nat), (∀ r ∈ rows, r.length = s) → rows.flatten.drop (k * s) = (rows.drop k).flatten
  | [], k, _ => by simp
  | r :: rows, 0, _ => by simp
  | r :: rows, k + 1, h => by
    have hr := h r (by simp)
    rw [List.flatten_cons, List.drop_append, List.drop_of_length_le (by rw [hr, Nat.succ_mul]; omega), List.nil_append, List.drop_succ_cons, show (k + 1) * s - r.length = k * s by rw [hr, Nat.succ_mul]; omega, flatten_drop rows k (fun r hr => h r (List.mem_cons_of_mem _ hr))]
theorem sizeR : (Try.prog.info? 46).map (·.size) = some 4 := by kernel_rfl
theorem rc_len (x : RV) : (rc x).length = 4 := rfl
theorem rcs_len (L : List RV) : ∀ r ∈ L.map rc, r.length = 4 := fun r h => by obtain ⟨x, _, rfl⟩ := List.mem_map.1 h; rfl
theorem rc_one (x : RV) : ∀ u ∈ rc x, u.oneCell' = true := fun u h => by
  simp only [rc, List.mem_cons, List.not_mem_nil, or_false] at h
  rcases h with rfl | rfl | rfl | rfl <;> rfl
theorem rcs_one (L : List RV) : ∀ u ∈ (L.map rc).flatten, u.oneCell' = true := fun u h => by
  obtain ⟨r, hr, hu⟩ := List.mem_flatten.1 h
  obtain ⟨x, _, rfl⟩ := List.mem_map.1 hr
  exact rc_one x u hu
/-- x in a block of its own, behind w -/
abbrev litW (w : World) (x : RV) : World := w.alloc (.cells #[.int .i64 x.d.id, .slice x.F x.d.fr.length x.fc, .slice x.T x.d.to.length x.tc, .int .i64 x.d.gen] 46)
/-- what Insert leaves -/
def InsAns (w : World) (base : Nat) (v : Value) (L' : List RV) (e : Ending) (w' : World) : Prop :=
  ∃ g c', e = .returned (.slice (some ⟨g, 0, none⟩) L'.length c') ∧ RRow w' base (.slice (some ⟨g, 0, none⟩) L'.length c') L' ∧ Turn (ownB v) w w' ∧ (v.ownBlock = some g ∨ w.heap.size ≤ g)
theorem sl_any (W : World) (A : Option Addr) (n c i : Nat) (h : i ≤ n) (hc : n ≤ c) : ∃ V, ∀ W' : World, (Instr.slice 22 (.slice A n c) (some (.int .i64 (i : Int))) none none).run Try.prog W' = .ok V W' := by
  by_cases hne : c = i
  · have hu : Try.prog.underlying 22 = some (.slice (Try.prog.elem 22)) := by simp [Program.elem, Try.underlying22]
    have hel : Try.prog.elem 22 = 46 := by simp [Program.elem, Try.underlying22]
    obtain ⟨i0, hi0, hz0, hz1, hz2⟩ := info_parts infoR
    refine ⟨.slice A (n - i) (c - i), fun W' => ?_⟩
    rw [run_slice_l W' 22 A n c hu .i64 (i : Int) (by omega) (by omega), hel]
    have hs : (Go.sizeOf 46).run Try.prog W' = .ok 4 W' := by simp [Go.sizeOf, typeInfo, hi0, hz1]
    rw [hs]
    simp [sliced, Result.andThen, hne]
  · exact ⟨_, fun W' => sl_lo Try.underlying22 sizeR W' A n c i h hc hne⟩

set_option maxHeartbeats 3200000 in
set_option maxRecDepth 100000 in
theorem insert_end (w : World) (base : Nat) (A : Option Addr) (n c : Nat) (L : List RV) (x : RV) (hR : RRow w base (.slice A n c) L) (hl : L.length ≤ 1000000) (hbase : base ≤ w.heap.size) :
    Calls Try.prog 59 #[.slice A n c, .int .i64 (n : Int), .slice (some ⟨w.heap.size, 0, none⟩) 1 1] (litW w x) fun e w' => InsAns w base (.slice A n c) (L ++ [x]) e w' := by
  have hn : n = L.length := hR.len
  obtain ⟨A', c', e1, hnc, _, _⟩ := GRow.form hR
  obtain ⟨e2, e3, e4⟩ := Value.slice.inj e1
  subst e4
  clear e2 e3
  obtain ⟨V, hV⟩ := sl_any w A n c n (Nat.le_refl _) (by rw [List.length_map] at hnc; omega)
  have HR := Lib.hid hR
  have HN := Lib.hid hn
  obtain ⟨h0, hh0⟩ : ∃ h, h = w.heap.size := ⟨_, rfl⟩
  have HH0 := Lib.hid hh0
  have hn1 : n ≤ 1000000 := by omega
  clear hR hn e1 hnc hl
  rw [← hh0]
  go_enter Try.func59, Try.ntmps59
  go_wp2_with (at_builtin; refine app_grow w base (.slice A n c) n (L.map rc) (rc x) #[.int .i64 x.d.id, .slice x.F x.d.fr.length x.fc, .slice x.T x.d.to.length x.tc, .int .i64 x.d.gen] rfl 46 22 4 64 _ infoR Try.underlying22 rfl (by decide) rfl (.tmp 23) (.tmp 24) rfl rfl h0 HH0.out.symm rfl HR.out rfl (rc_one x) (by rw [List.length_map]; exact HN.out) (by omega) (by omega) hbase ?_)
  intro gq cap w5 o5 g5 l5
  have HF : Hid (RRow w5 base (.slice (some ⟨gq, 0, none⟩) (n + 1) cap) (L ++ [x])) := by
    show RRow _ _ _ _
    unfold RRow
    rw [List.map_append]
    exact o5
  have HT := Lib.hid (Turn.grown (M := ownB (.slice A n c)) g5 (fun q hq _ => hq))
  have HL5 := Lib.hid l5
  clear o5 g5 l5
  go_wp2
  go_ret
  have e2 : n + 1 = (L ++ [x]).length := by have := HN.out; simp; omega
  refine ⟨gq, cap, ?_, ?_, HT.out, HL5.out⟩
  · rw [← e2]; rfl
  · rw [← e2]; exact HF.out

/-- what the ways with an element behind the place have in common -/
structure InsIn (w : World) (base g n c i : Nat) (L : List RV) (x : RV) : Prop where
  row : RRow w base (.slice (some ⟨g, 0, none⟩) n c) L
  hn : n = L.length
  hi : i < n
  hl : n ≤ 1000000
  hb : base ≤ w.heap.size
  hc : n ≤ c
theorem InsIn.own {w : World} {base g n c i : Nat} {L : List RV} {x : RV} (h : InsIn w base g n c i L x) : w.ownsRow base 46 4 (.slice (some ⟨g, 0, none⟩) n c) n (L.map rc).flatten := by
  have := h.row.1
  rw [List.length_map, ← h.hn] at this
  exact this
theorem InsIn.flen {w : World} {base g n c i : Nat} {L : List RV} {x : RV} (h : InsIn w base g n c i L x) : (L.map rc).flatten.length = n * 4 := by
  rw [flatten_len _ (rcs_len L), List.length_map, h.hn]
theorem ins_list {L : List RV} {x : RV} {i n : Nat} {ys : List Value} (hn : n = L.length) (hi : i ≤ n) (hy : ys.length = (n + 1) * 4) (ht : ys.take (i * 4) = (L.map rc).flatten.take (i * 4)) :
    over (over ys ((i + 1) * 4) ((L.map rc).flatten.drop (i * 4))) (i * 4) (rc x) = ((L.take i ++ [x] ++ L.drop i).map rc).flatten := by
  have hl : (L.map rc).flatten.length = n * 4 := by rw [flatten_len _ (rcs_len L), List.length_map, hn]
  have e1 : (ys.take ((i + 1) * 4)).length = (i + 1) * 4 := by rw [List.length_take, hy]; omega
  rw [over_eq _ ys _ (by rw [List.length_drop, hl, hy]; omega)]
  rw [List.drop_of_length_le (i := (i + 1) * 4 + _) (by rw [List.length_drop, hl, hy]; omega), List.append_nil]
  rw [over_eq _ _ _ (by rw [List.length_append, e1, List.length_drop, hl, rc_len]; omega)]
  rw [rc_len, List.take_append_of_le_length (by rw [e1]; omega), List.take_take, show min (i * 4) ((i + 1) * 4) = i * 4 by omega, ht, flatten_take _ _ (rcs_len L)]
  rw [show i * 4 + 4 = (ys.take ((i + 1) * 4)).length by rw [e1]; omega, List.drop_left, flatten_drop _ _ (rcs_len L)]
  simp [List.map_take, List.map_drop]

set_option maxHeartbeats 3200000 in
set_option maxRecDepth 100000 in
theorem insert_shift (w : World) (base g n c i : Nat) (L : List RV) (x : RV) (h : InsIn w base g n c i L x) (hroom : n + 1 ≤ c) (hc63 : c ≤ 9223372036854775807) :
    Calls Try.prog 59 #[.slice (some ⟨g, 0, none⟩) n c, .int .i64 (i : Int), .slice (some ⟨w.heap.size, 0, none⟩) 1 1] (litW w x) fun e w' => InsAns w base (.slice (some ⟨g, 0, none⟩) n c) (L.take i ++ [x] ++ L.drop i) e w' := by
  have hi := h.hi
  have hn1 := h.hl
  have hO := h.own
  have hgw := (World.ownsRow.lt hO g rfl).2
  have hgb := (World.ownsRow.lt hO g rfl).1
  have hO2 : (litW w x).ownsRow base 46 4 (.slice (some ⟨g, 0, none⟩) n c) n (L.map rc).flatten := World.ownsRow.alloc hO _
  obtain ⟨ys, hyl, hyt, hOy⟩ := ownsRow_more hO2 (m := n + 1) (by omega) hroom
  obtain ⟨cs, hcs⟩ : ∃ cs, cs = (L.map rc).flatten.drop (i * 4) := ⟨_, rfl⟩
  have hcl : cs.length = (n - i) * 4 := by rw [hcs, List.length_drop, h.flen]; omega
  obtain ⟨V, hV⟩ := sl_any w (some ⟨g, 0, none⟩) n c i (by omega) h.hc
  obtain ⟨n1, hn1'⟩ : ∃ n1, n1 = n + 1 := ⟨_, rfl⟩
  obtain ⟨i1, hi1⟩ : ∃ i1, i1 = i + 1 := ⟨_, rfl⟩
  have hp1 : (n : Int) + 1 = (n1 : Int) := by omega
  have hp2 : (i : Int) + 1 = (i1 : Int) := by omega
  obtain ⟨W, hW⟩ : ∃ W, W = litW w x := ⟨_, rfl⟩
  have hWs : W.heap.size = w.heap.size + 1 := by rw [hW]; simp
  rw [← hW] at hO2 hOy
  have hlc : ∀ j v, (rc x)[j]? = some v → W.cell? ⟨w.heap.size, j, none⟩ = some v := fun j v hj => by
    rw [hW, World.cell?_alloc_at _ _ _ _ rfl, ← Array.getElem?_toList]
    exact hj
  have s60 := fun W' => sl_hi (P := Try.prog) Try.underlying22 sizeR W' (some ⟨g, 0, none⟩) n c n1 (by omega)
  have s66 : ∀ W', (Instr.slice 22 (.slice (some ⟨g, 0, none⟩) n1 c) (some (.int .i64 (i1 : Int))) none none).run Try.prog W' = .ok (.slice (some ⟨g, i1 * 4, none⟩) (n1 - i1) (c - i1)) W' := fun W' => by
    have := sl_lo (P := Try.prog) Try.underlying22 sizeR W' (some ⟨g, 0, none⟩) n1 c i1 (by omega) (by omega) (by omega)
    simpa [add_at] using this
  have s76 : ∀ W', (Instr.slice 22 (.slice (some ⟨g, 0, none⟩) n1 c) (some (.int .i64 (i : Int))) none none).run Try.prog W' = .ok (.slice (some ⟨g, i * 4, none⟩) (n1 - i) (c - i)) W' := fun W' => by
    have := sl_lo (P := Try.prog) Try.underlying22 sizeR W' (some ⟨g, 0, none⟩) n1 c i (by omega) (by omega) (by omega)
    simpa [add_at] using this
  have hov : ∀ lb cb, (callFunc 77 #[.slice (some ⟨w.heap.size, 0, none⟩) 1 1, .slice (some ⟨g, i1 * 4, none⟩) lb cb]).run Try.prog W = .ok (.value (.bool false)) W := fun lb cb => by
    obtain ⟨cur, hcur, hcs⟩ : ∃ cur, W.heap[g]? = some (.cells cur 46 (0, 0)) ∧ cur.size = c * 4 := by
      rcases hO2.2 with ⟨h', _⟩ | ⟨g', cap', cur, h', _, hg, _, _, hcs, _⟩
      · simp at h'
      · obtain ⟨e1, e2, e3⟩ := Value.slice.inj h'
        injection e1 with e1
        injection e1 with e1
        subst e1 e3
        exact ⟨cur, hg, hcs⟩
    rw [run_callFunc_extern Try.func77 (by kernel_rfl) (by kernel_rfl) (by kernel_rfl) (e := Extern.SlicesOverlaps.overlaps #[22, 22] #[4]) (by kernel_rfl),
      Lib.run_overlaps_apart W 22 4 46 Try.underlying22 4 (fun w => by obtain ⟨i0, hi0, hz0, hz1, hz2⟩ := info_parts infoR; simp [Go.sizeOf, typeInfo, hi0, hz1]) ⟨w.heap.size, 0, none⟩ ⟨g, i1 * 4, none⟩ 1 1 lb cb (by simp; omega) 46 46 4 (c * 4)
        (by unfold World.shape?; rw [hW, heap_alloc_new]; rfl) (by simp [World.shape?, hcur, hcs]) (by omega) (by rw [hW]; exact World.frozen?_alloc_at _ _ _ _ rfl) (by rw [hW]; exact World.frozen?_alloc_at _ _ _ _ rfl)]
    rfl
  have hxl := h.flen
  have hsrc1 : ∀ j v, cs[j]? = some v → W.drew.cell? ((⟨g, i * 4, none⟩ : Addr).add j) = some v := fun j v hj => by
    rw [add_at]
    show W.cell? _ = _
    rw [World.ownsRow.cellAt hO2 (i * 4 + j) (by have := (List.getElem?_eq_some_iff.1 hj).1; omega)]
    rw [hcs, List.getElem?_drop] at hj
    exact hj
  have hdst1 : ∀ j, j < (n + 1) * 4 → (W.cell? ⟨g, j, none⟩).isSome = true := fun j hj => by
    rw [World.ownsRow.cellAt hOy j hj, List.getElem?_eq_getElem (by omega)]
    rfl
  have hcp1 : ∀ ty dc sc, (Builtin.copy_ #[22, 22] ty #[.slice (some ⟨g, i1 * 4, none⟩) (n1 - i1) dc, .slice (some ⟨g, i * 4, none⟩) (n1 - i) sc]).run Try.prog W.drew = .ok (goInt ((n - i : Nat) : Int)) (W.drew.setCells g (i1 * 4) cs) := fun ty dc sc =>
    run_copy_rows W.drew _ _ ty 46 4 g (i1 * 4) (n1 - i1) dc ⟨g, i * 4, none⟩ (n1 - i) sc (n - i) cs Try.underlying22 sizeR (by simp only [Nat.min_def]; split <;> omega) hcl hsrc1
      (fun j hj => hdst1 _ (by omega)) (fun j hj => World.ownsRow.frozenAt hO2 _) (fun v hv => rcs_one L v (by rw [hcs] at hv; exact List.mem_of_mem_drop hv))
  obtain ⟨W1, hW1⟩ : ∃ W1, W1 = W.drew.setCells g (i1 * 4) cs := ⟨_, rfl⟩
  have hO1 : W1.ownsRow base 46 4 (.slice (some ⟨g, 0, none⟩) (n + 1) c) (n + 1) (over ys (i1 * 4) cs) := by
    rw [hW1]
    exact ownsRow_setCells cs _ W.drew ys hOy
  have hcp2 : ∀ ty dc, (Builtin.copy_ #[22, 22] ty #[.slice (some ⟨g, i * 4, none⟩) (n1 - i) dc, .slice (some ⟨w.heap.size, 0, none⟩) 1 1]).run Try.prog W1 = .ok (goInt ((1 : Nat) : Int)) (W1.setCells g (i * 4) (rc x)) := fun ty dc =>
    run_copy_rows W1 _ _ ty 46 4 g (i * 4) (n1 - i) dc ⟨w.heap.size, 0, none⟩ 1 1 1 (rc x) Try.underlying22 sizeR (by simp only [Nat.min_def]; split <;> omega) rfl
      (fun j v hj => by
        rw [add_at, Nat.zero_add, hW1, World.cell?_setCells_out _ _ _ _ _ (fun h _ => by simp at h; omega)]
        exact hlc j v hj)
      (fun j hj => by
        have hj : j < 4 := hj
        rw [World.ownsRow.cellAt hO1 (i * 4 + j) (by omega), List.getElem?_eq_getElem (by rw [over_len, hyl]; omega)]; rfl)
      (fun j hj => World.ownsRow.frozenAt hO1 _) (rc_one x)
  rw [← hW1] at hcp1
  have hfin : Hid (RRow (W1.setCells g (i * 4) (rc x)) base (.slice (some ⟨g, 0, none⟩) n1 c) (L.take i ++ [x] ++ L.drop i)) := by
    have h2 := ownsRow_setCells (rc x) (i * 4) W1 _ hO1
    rw [hi1, hcs, ins_list h.hn (by omega) hyl (by
      have := congrArg (List.take (i * 4)) hyt
      rw [List.take_take, show min (i * 4) (n * 4) = i * 4 by omega] at this
      exact this)] at h2
    show RRow _ _ _ _
    refine ⟨?_, rcs_len _⟩
    have e : ((L.take i ++ [x] ++ L.drop i).map rc).length = n + 1 := by have := h.hn; simp; omega
    rw [e, hn1']
    exact h2
  have hT : Hid (Turn (ownB (.slice (some ⟨g, 0, none⟩) n c)) w (W1.setCells g (i * 4) (rc x))) := by
    have t0 : Turn (ownB (.slice (some ⟨g, 0, none⟩) n c)) w W.drew := by rw [hW]; exact (Turn.of_below (below1' w _)).drew
    have t1 : Turn (ownB (.slice (some ⟨g, 0, none⟩) n c)) w W1 := by rw [hW1]; exact turn_setCells (M := ownB (.slice (some ⟨g, 0, none⟩) n c)) (fun _ => rfl) _ _ _ t0
    exact turn_setCells (M := ownB (.slice (some ⟨g, 0, none⟩) n c)) (fun _ => rfl) _ _ _ t1
  have hlen : Hid (n1 = (L.take i ++ [x] ++ L.drop i).length) := by have := h.hn; show _ = _; simp; omega
  have hz2 : ¬ ((i : Int) = (n : Int)) := by omega
  have hb1 : ¬ (c : Int) < (n1 : Int) := by omega
  have hic : i ≤ n := by omega
  have hi1n : i1 ≤ n1 := by omega
  have hii : (0 : Int) ≤ (i : Int) := by omega
  have hwi : IntKind.i64.wrap (i1 : Int) = (i1 : Int) := IntWalk.i64_in _ (by omega)
  rw [← hW]
  clear hW hO hO2 hOy hyl hyt hcl hlc hsrc1 hdst1 hO1 hxl hW1 hn1' hi1 hcs h
  go_enter Try.func59, Try.ntmps59
  go_wp2_with (simp only [hov])
  go_region_law (refine step_copy_runR rfl (.tmp 73) (.tmp 76) 22 22 rfl _ _ (by simp [Act.eval, Act.put]; rfl) (by simp [Act.eval, Act.put]; rfl) (hcp1 _ _ _) ?_)
  all_goals
    go_wp2_with (at_builtin; refine wpList_copy_runR _ rfl (.tmp 80) (.tmp 81) 22 22 rfl _ _ rfl rfl (hcp2 _ _) ?_)
    go_ret
    refine ⟨g, c, ?_, ?_, hT.out, .inl rfl⟩
    · rw [← hlen.out]; rfl
    · rw [← hlen.out]; exact hfin.out

set_option maxHeartbeats 3200000 in
set_option maxRecDepth 100000 in
theorem insert_grow (w : World) (base g n c i : Nat) (L : List RV) (x : RV) (h : InsIn w base g n c i L x) (hroom : c < n + 1) :
    Calls Try.prog 59 #[.slice (some ⟨g, 0, none⟩) n c, .int .i64 (i : Int), .slice (some ⟨w.heap.size, 0, none⟩) 1 1] (litW w x) fun e w' => InsAns w base (.slice (some ⟨g, 0, none⟩) n c) (L.take i ++ [x] ++ L.drop i) e w' := by
  have hi := h.hi
  have hn1 := h.hl
  have hcc := h.hc
  have hO := h.own
  have hgw := (World.ownsRow.lt hO g rfl).2
  have hO2 : (litW w x).ownsRow base 46 4 (.slice (some ⟨g, 0, none⟩) n c) n (L.map rc).flatten := World.ownsRow.alloc hO _
  obtain ⟨xs, hxs⟩ : ∃ xs, xs = (L.map rc).flatten := ⟨_, rfl⟩
  have hxl : xs.length = n * 4 := by rw [hxs]; exact h.flen
  rw [← hxs] at hO hO2
  obtain ⟨V, hV⟩ := sl_any w (some ⟨g, 0, none⟩) n c i (by omega) h.hc
  obtain ⟨n1, hn1'⟩ : ∃ n1, n1 = n + 1 := ⟨_, rfl⟩
  obtain ⟨i1, hi1⟩ : ∃ i1, i1 = i + 1 := ⟨_, rfl⟩
  have hp1 : (n : Int) + 1 = (n1 : Int) := by omega
  have hp2 : (i : Int) + 1 = (i1 : Int) := by omega
  obtain ⟨k3, hk3⟩ : ∃ k3, k3 = n1 - i := ⟨_, rfl⟩
  have hp3 : (n1 : Int) - (i : Int) = (k3 : Int) := by omega
  obtain ⟨W, hW⟩ : ∃ W, W = litW w x := ⟨_, rfl⟩
  have hWs : W.heap.size = w.heap.size + 1 := by rw [hW]; simp
  rw [← hW] at hO2
  have hlc : ∀ j v, (rc x)[j]? = some v → W.cell? ⟨w.heap.size, j, none⟩ = some v := fun j v hj => by
    rw [hW, World.cell?_alloc_at _ _ _ _ rfl, ← Array.getElem?_toList]
    exact hj
  obtain ⟨i0, hi0, hz0, hz1, hz2⟩ := info_parts infoR
  have hcell : ∀ t, t < n * 4 → W.cell? ⟨g, t, none⟩ = xs[t]? := fun t ht => World.ownsRow.cellAt hO2 t ht
  have hold : (Builtin.firstCells i0.size i (.slice (some ⟨g, 0, none⟩) i c)).run Try.prog W.drew = .ok (xs.take (i * 4)).toArray W.drew := by
    rw [hz1]
    exact run_firstCells_some W.drew 4 i ⟨g, 0, none⟩ i c (xs.take (i * 4)) (by rw [List.length_take]; omega) (fun j v hj => by
      rw [add_at, Nat.zero_add]
      rw [List.getElem?_take] at hj
      split at hj
      · show W.cell? _ = _
        rw [hcell j (by omega)]; exact hj
      · cases hj)
  obtain ⟨G, hG⟩ : ∃ G, G = grownCap W n1 c 46 := ⟨_, rfl⟩
  have hGn : n1 ≤ G := by rw [hG]; exact grownCap_ge W _ _ _
  have hGm : G ≤ maxLen := by rw [hG]; exact grownCap_le_maxLen W n1 c _ (by unfold maxLen; omega)
  obtain ⟨ROW, hROW⟩ : ∃ ROW : Array Value, ROW = (xs.take (i * 4)).toArray ++ Builtin.zeroCells (Value.agg #[.int .i64 0, .slice none 0 0, .slice none 0 0, .int .i64 0]).cells (n1 - i) ++ Builtin.zeroCells (Value.agg #[.int .i64 0, .slice none 0 0, .slice none 0 0, .int .i64 0]).cells (G - n1) := ⟨_, rfl⟩
  have hik : i + (n1 - i) = n1 := by omega
  have hrz : ∀ ty, (Builtin.append_ #[22, 3] ty #[.slice (some ⟨g, 0, none⟩) i c, .int .i64 (k3 : Int)]).run Try.prog W = .ok (.slice (some ⟨W.heap.size, 0, none⟩) n1 G) (W.drew.alloc (.cells ROW 46)) := fun ty => by
    have h := Lib.run_append_grow_zeros W 22 3 ty 46 i0 _ .i64 .i64 Try.underlying22 Try.underlying3 hi0 hz0 (some ⟨g, 0, none⟩) i c (xs.take (i * 4)) hold (n1 - i) (by omega) (by omega) (by omega) (by omega) (by rw [hz2]; omega) (by rw [hz2, hik]; exact growslice_fits (by omega) (by omega))
    rw [hik, ← hG, ← hROW, ← hk3] at h
    exact h
  have hzl : ∀ k, (Builtin.zeroCells (Value.agg #[.int .i64 0, .slice none 0 0, .slice none 0 0, .int .i64 0]).cells k).size = k * 4 := fun k => by
    rw [size_zeroCells]
    rfl
  have hRs : ROW.size = G * 4 := by
    rw [hROW]
    simp only [Array.size_append, hzl, List.size_toArray, List.length_take]
    omega
  have hRt : ROW.toList.take (i * 4) = xs.take (i * 4) := by
    rw [hROW, Array.toList_append, Array.toList_append, List.append_assoc, List.take_append_of_le_length (by simp; omega)]
    rw [List.take_take, Nat.min_self]
  obtain ⟨H, hH⟩ : ∃ H, H = W.heap.size := ⟨_, rfl⟩
  obtain ⟨W2, hW2⟩ : ∃ W2, W2 = W.drew.alloc (.cells ROW 46) := ⟨_, rfl⟩
  obtain ⟨zs, hzs⟩ : ∃ zs, zs = ROW.toList.take (n1 * 4) := ⟨_, rfl⟩
  have hzsl : zs.length = n1 * 4 := by
    have hm : n1 * 4 ≤ G * 4 := Nat.mul_le_mul_right _ hGn
    rw [hzs, List.length_take, Array.length_toList, hRs]; omega
  have hzst : zs.take (i * 4) = xs.take (i * 4) := by rw [hzs, List.take_take, show min (i * 4) (n1 * 4) = i * 4 by omega, hRt]
  have hO3 : W2.ownsRow base 46 4 (.slice (some ⟨H, 0, none⟩) n1 G) n1 zs :=
    ⟨hzsl, .inr ⟨H, G, ROW, rfl, by have := h.hb; omega, by rw [hW2, hH]; exact heap_alloc_new W.drew _, hGn, hGm, hRs, hzs.symm⟩⟩
  have hHg : H ≠ g := by omega
  have hHw : H ≠ w.heap.size := by omega
  have h2g : ∀ t, t < n * 4 → W2.cell? ⟨g, t, none⟩ = xs[t]? := fun t ht => by
    rw [hW2, World.cell?_alloc_past (w := W.drew) _ g t (show g < W.heap.size by omega)]
    exact hcell t ht
  have h2l : ∀ j v, (rc x)[j]? = some v → W2.cell? ⟨w.heap.size, j, none⟩ = some v := fun j v hj => by
    rw [hW2, World.cell?_alloc_past (w := W.drew) _ w.heap.size j (show w.heap.size < W.heap.size by omega)]
    exact hlc j v hj
  rw [← hH] at hrz
  rw [← hW2] at hrz
  have hcpA : ∀ ty dc, (Builtin.copy_ #[22, 22] ty #[.slice (some ⟨H, i * 4, none⟩) (n1 - i) dc, .slice (some ⟨w.heap.size, 0, none⟩) 1 1]).run Try.prog W2 = .ok (goInt ((1 : Nat) : Int)) (W2.setCells H (i * 4) (rc x)) := fun ty dc =>
    run_copy_rows W2 _ _ ty 46 4 H (i * 4) (n1 - i) dc ⟨w.heap.size, 0, none⟩ 1 1 1 (rc x) Try.underlying22 sizeR (by simp only [Nat.min_def]; split <;> omega) rfl
      (fun j v hj => by rw [add_at, Nat.zero_add]; exact h2l j v hj)
      (fun j hj => by
        have hj : j < 4 := hj
        rw [World.ownsRow.cellAt hO3 (i * 4 + j) (by omega), List.getElem?_eq_getElem (by omega)]; rfl)
      (fun j hj => World.ownsRow.frozenAt hO3 _) (rc_one x)
  obtain ⟨W3, hW3⟩ : ∃ W3, W3 = W2.setCells H (i * 4) (rc x) := ⟨_, rfl⟩
  have hO4 : W3.ownsRow base 46 4 (.slice (some ⟨H, 0, none⟩) n1 G) n1 (over zs (i * 4) (rc x)) := by rw [hW3]; exact ownsRow_setCells (rc x) _ W2 zs hO3
  obtain ⟨cs, hcs⟩ : ∃ cs, cs = xs.drop (i * 4) := ⟨_, rfl⟩
  have hcl : cs.length = (n - i) * 4 := by rw [hcs, List.length_drop]; omega
  have hcpB : ∀ ty dc sc, (Builtin.copy_ #[22, 22] ty #[.slice (some ⟨H, i1 * 4, none⟩) (n1 - i1) dc, .slice (some ⟨g, i * 4, none⟩) (n - i) sc]).run Try.prog W3.drew = .ok (goInt ((n - i : Nat) : Int)) (W3.drew.setCells H (i1 * 4) cs) := fun ty dc sc =>
    run_copy_rows W3.drew _ _ ty 46 4 H (i1 * 4) (n1 - i1) dc ⟨g, i * 4, none⟩ (n - i) sc (n - i) cs Try.underlying22 sizeR (by simp only [Nat.min_def]; split <;> omega) hcl
      (fun j v hj => by
        rw [add_at]
        show W3.cell? _ = _
        rw [hW3, World.cell?_setCells_out _ _ _ _ _ (fun h _ => by simp at h; omega), h2g (i * 4 + j) (by have := (List.getElem?_eq_some_iff.1 hj).1; omega)]
        rw [hcs, List.getElem?_drop] at hj
        exact hj)
      (fun j hj => by
        show (W3.cell? _).isSome = true
        rw [World.ownsRow.cellAt hO4 (i1 * 4 + j) (by omega), List.getElem?_eq_getElem (by rw [over_len]; omega)]; rfl)
      (fun j hj => World.ownsRow.frozenAt hO4 _) (fun v hv => rcs_one L v (by rw [hcs, hxs] at hv; exact List.mem_of_mem_drop hv))
  rw [← hW3] at hcpA
  have hfin : Hid (RRow (W3.drew.setCells H (i1 * 4) cs) base (.slice (some ⟨H, 0, none⟩) n1 G) (L.take i ++ [x] ++ L.drop i)) := by
    have h2 := ownsRow_setCells cs (i1 * 4) W3.drew _ hO4
    have e0 : over (over zs (i * 4) (rc x)) (i1 * 4) cs = ((L.take i ++ [x] ++ L.drop i).map rc).flatten := by
      rw [over_eq _ zs _ (by rw [rc_len]; omega)]
      have e1 : (zs.take (i * 4) ++ rc x).length = i1 * 4 := by rw [List.length_append, List.length_take, rc_len]; omega
      rw [over_eq _ _ _ (by rw [List.length_append, e1, List.length_drop, hcl, rc_len]; omega)]
      rw [List.drop_of_length_le (i := i1 * 4 + cs.length) (by rw [List.length_append, e1, List.length_drop, rc_len]; omega), List.append_nil, ← e1, List.take_left, hzst, hcs, hxs, flatten_take _ _ (rcs_len L), flatten_drop _ _ (rcs_len L)]
      simp [List.map_take, List.map_drop]
    rw [e0] at h2
    show RRow _ _ _ _
    refine ⟨?_, rcs_len _⟩
    have e : ((L.take i ++ [x] ++ L.drop i).map rc).length = n1 := by have := h.hn; simp; omega
    rw [e]
    exact h2
  have hT : Hid (Turn (ownB (.slice (some ⟨g, 0, none⟩) n c)) w (W3.drew.setCells H (i1 * 4) cs)) := by
    have hno : ∀ {P : Prop}, H < w.heap.size → P := fun hh => by omega
    have t0 : Turn (ownB (.slice (some ⟨g, 0, none⟩) n c)) w W2 := by
      rw [hW2, hW]
      exact Turn.of_below (((below_drew (below1' w _))).alloc (by simp) _)
    have t1 : Turn (ownB (.slice (some ⟨g, 0, none⟩) n c)) w W3 := by rw [hW3]; exact turn_setCells (M := ownB (.slice (some ⟨g, 0, none⟩) n c)) (fun hh => hno hh) _ _ _ t0
    exact turn_setCells (M := ownB (.slice (some ⟨g, 0, none⟩) n c)) (fun hh => hno hh) _ _ _ t1.drew
  have hlen : Hid (n1 = (L.take i ++ [x] ++ L.drop i).length) := by have := h.hn; show _ = _; simp; omega
  have hHH : Hid (w.heap.size ≤ H) := by show _ ≤ _; omega
  have s34 := fun W' => sl_hi (P := Try.prog) Try.underlying22 sizeR W' (some ⟨g, 0, none⟩) n c i (by omega)
  have s43 : ∀ W', (Instr.slice 22 (.slice (some ⟨H, 0, none⟩) n1 G) (some (.int .i64 (i : Int))) none none).run Try.prog W' = .ok (.slice (some ⟨H, i * 4, none⟩) (n1 - i) (G - i)) W' := fun W' => by
    have := sl_lo (P := Try.prog) Try.underlying22 sizeR W' (some ⟨H, 0, none⟩) n1 G i (by omega) (by omega) (by omega)
    simpa [add_at] using this
  have s50 : ∀ W', (Instr.slice 22 (.slice (some ⟨H, 0, none⟩) n1 G) (some (.int .i64 (i1 : Int))) none none).run Try.prog W' = .ok (.slice (if G = i1 then some ⟨H, 0, none⟩ else some ⟨H, i1 * 4, none⟩) (n1 - i1) (G - i1)) W' := fun W' => by
    have := sl_lo (P := Try.prog) Try.underlying22 sizeR W' (some ⟨H, 0, none⟩) n1 G i1 (by omega) (by omega) (by omega)
    rw [if_neg (by omega)]
    simpa [add_at] using this
  rw [show (if G = i1 then (some ⟨H, 0, none⟩ : Option Addr) else some ⟨H, i1 * 4, none⟩) = some ⟨H, i1 * 4, none⟩ from if_neg (by omega)] at s50
  have s53 : ∀ W', (Instr.slice 22 (.slice (some ⟨g, 0, none⟩) n c) (some (.int .i64 (i : Int))) none none).run Try.prog W' = .ok (.slice (some ⟨g, i * 4, none⟩) (n - i) (c - i)) W' := fun W' => by
    have := sl_lo (P := Try.prog) Try.underlying22 sizeR W' (some ⟨g, 0, none⟩) n c i (by omega) (by omega) (by omega)
    simpa [add_at] using this
  have hz2' : ¬ ((i : Int) = (n : Int)) := by omega
  have hb1 : (c : Int) < (n1 : Int) := by omega
  have hwi : IntKind.i64.wrap (i1 : Int) = (i1 : Int) := IntWalk.i64_in _ (by omega)
  rw [← hW]
  clear hW hO hO2 hlc hcell hold hG hROW hO3 hO4 hzs hzsl hzst h2g h2l hcs hxs hxl hcl hW2 hW3 hH h hn1' hk3 hRs hRt hzl hi0 hz0 hz1 hz2 hi1 hik hWs hHg hHw hGm hgw hGn hroom hV
  go_enter Try.func59, Try.ntmps59
  go_wp2_with (first
    | (at_builtin; refine Lib.wpList_append_run _ rfl (.tmp 34) (.tmp 39) 22 3 rfl _ _ rfl rfl _ _ (hrz _) ?_)
    | (at_builtin; refine wpList_copy_runR _ rfl (.tmp 43) (.tmp 44) 22 22 rfl _ _ rfl rfl (hcpA _ _) ?_))
  go_region_law (refine step_copy_runR rfl (.tmp 50) (.tmp 53) 22 22 rfl _ _ (by simp [Act.eval, Act.put]; rfl) (by simp [Act.eval, Act.put]; rfl) (hcpB _ _ _) ?_)
  all_goals
    go_wp2
    go_ret
    refine ⟨H, G, ?_, ?_, hT.out, .inr hHH.out⟩
    · rw [← hlen.out]; rfl
    · rw [← hlen.out]; exact hfin.out

/-- slices.Insert of one range, wherever it goes -/
theorem insert_any (w : World) (base : Nat) (A : Option Addr) (n c i : Nat) (L : List RV) (x : RV) (hR : RRow w base (.slice A n c) L) (hi : i ≤ L.length) (hl : L.length ≤ 1000000) (hb : base ≤ w.heap.size) :
    Calls Try.prog 59 #[.slice A n c, .int .i64 (i : Int), .slice (some ⟨w.heap.size, 0, none⟩) 1 1] (litW w x) fun e w' => InsAns w base (.slice A n c) (L.take i ++ [x] ++ L.drop i) e w' := by
  have hn : n = L.length := hR.len
  by_cases he : i = n
  · have e1 : L.take i ++ [x] ++ L.drop i = L ++ [x] := by
      rw [List.take_of_length_le (by omega), List.drop_of_length_le (by omega), List.append_nil]
    rw [e1, he]
    exact insert_end w base A n c L x hR hl hb
  · obtain ⟨q, rfl, _⟩ := hR.at (k := i) (by omega)
    obtain ⟨A', c', e1, hnc, _, _⟩ := GRow.form hR
    have hc : n ≤ c ∧ c ≤ 9223372036854775807 := by
      rcases hR.1.2 with ⟨h', _⟩ | ⟨g', cap', cur, h', _, _, h1, h2, _⟩
      · cases h'
      · obtain ⟨_, e2, e3⟩ := Value.slice.inj h'
        subst e3
        rw [List.length_map] at h1
        unfold maxLen at h2
        omega
    have h : InsIn w base q n c i L x := ⟨hR, hn, by omega, by omega, hb, hc.1⟩
    by_cases hroom : n + 1 ≤ c
    · exact insert_shift w base q n c i L x h hroom hc.2
    · exact insert_grow w base q n c i L x h (by omega)
end Go.Proofs.Ytninjoepdchmiaa
