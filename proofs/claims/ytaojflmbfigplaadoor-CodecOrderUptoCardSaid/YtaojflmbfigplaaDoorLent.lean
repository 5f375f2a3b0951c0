/-
  The contracts of the law's lent and stays; copy and cuts of bytes.
-/
import Derived.Test.YtaojflmbfigplaaDoorSpoil
import Derived.Laws.CopyOwn
import Derived.Deep.QuietTactic
import Derived.BigQuiet
namespace Go.Proofs.YtaojflmbfigplaaDoor
open Go.RowKit

theorem info8s : (Tryd.prog.info? 5).map (·.size) = some 1 := by kernel_rfl

/-- copy(v, xs): over the first bytes of what the call owns -/
theorem copy_bytes {ops : Array Oper} {rest : List Oper} {o : Oper} {a : Act} {Q : Exit → Act → World → Prop} (w : World) (base g n c : Nat) (l m : List UInt8) (A : Option Addr) (c' : Nat) (hgd : o.guard = none) (d s : Operand)
    (ho : o.op = .call { callee := .builtin .copy, args := #[d, s], argTypes := #[23, 23] })
    (hd : a.eval d = .slice (some ⟨g, 0, none⟩) n c) (hs : a.eval s = .slice A m.length c') (hown : Own w base (.slice (some ⟨g, 0, none⟩) n c) l) (hr : Rd w w.heap.size A m) (hlen : m.length ≤ l.length)
    (h : ∀ w', Own w' base (.slice (some ⟨g, 0, none⟩) n c) (m ++ l.drop m.length) → Below base w w' → w.heap.size ≤ w'.heap.size → wpList Tryd.prog ops Q rest (a.put o.dst (goInt m.length)) w') : wpList Tryd.prog ops Q (o :: rest) a w := by
  have hk := hown
  rcases hown.2 with ⟨he, _⟩ | ⟨g', cap, cur, he, hb, hg, hnc, hcm, hcs, htake⟩
  · cases he
  · have hn : n = l.length := by injection he
    have hgg : g' = g := by injection he with h1 h2 h3; injection h1 with h1; injection h1 with h1; exact h1.symm
    have hcc : cap = c := by injection he with h1 h2 h3; exact h3.symm
    subst hn hgg hcc
    have hcl : cur.size = cap := by simpa using hcs
    have htake' : cur.toList.take l.length = l.map bv := by simpa using htake
    refine wpList_copy_splice hgd d s 23 23 ho 5 Tryd.underlying23 info8s (some ⟨g', 0, none⟩) A l.length cap m.length c' hd hs g' 0 cur.toList 5 (by simpa using hg) (m.map bv) (by rw [List.length_map]; exact (Nat.min_eq_left hlen).symm) ?_ (by simp; omega) ?_ base w (Below.refl _ _) hb ?_
    · intro hpos
      refine ⟨rfl, ?_⟩
      rcases hr with rfl | ⟨gr, off, rfl, _, hc⟩
      · simp at hpos
      · refine ⟨_, rfl, fun j v hj => ?_⟩
        have hjl : j < m.length := by
          rcases Nat.lt_or_ge j m.length with h | h
          · exact h
          · simp [List.getElem?_eq_none h] at hj
        rw [add_at, hc j hjl]
        simp [List.getElem?_eq_getElem hjl] at hj
        rw [hj]
    · intro v hv
      obtain ⟨b, _, rfl⟩ := List.mem_map.1 hv
      exact bv_one b
    · intro w' hg' hbel
      rw [List.length_map]
      refine h w' ?_ hbel hbel.size
      have hl' : (m ++ l.drop m.length).length = l.length := by simp; omega
      unfold Own World.ownsRow
      refine ⟨by simp, .inr ⟨g', cap, (splice cur.toList 0 (m.map bv)).toArray, by rw [hl'], hb, hg'.out, by omega, hcm, ?_, ?_⟩⟩
      · rw [List.size_toArray, length_splice _ _ _ (by simp; omega)]
        simpa using hcs
      · rw [hl', Nat.mul_one]
        simp only [splice, List.take_zero, List.nil_append, Nat.zero_add, List.length_map]
        rw [List.take_append, List.length_map, List.take_of_length_le (by simp; omega), List.take_drop, show m.length + (l.length - m.length) = l.length by omega, htake', List.map_append, List.map_drop]

theorem bv177 : Value.int .u8 177 = bv 177 := rfl
theorem bv178 : Value.int .u8 178 = bv 178 := rfl
theorem set_two (l : List UInt8) : ((l ++ [0, 0]).set l.length 177).set (l.length + 1) 178 = l ++ [177, 178] := by
  rw [List.set_append_right _ _ (by omega), List.set_append_right _ _ (by omega)]
  simp

set_option maxHeartbeats 800000 in
set_option maxRecDepth 100000 in
theorem lent_any (A : Option Addr) (c : Nat) (l : List UInt8) (w : World) (hr : Rd w w.heap.size A l) (hl : l.length ≤ 140737488351232) :
    Calls Tryd.prog 18 #[.slice A l.length c] w fun e w' => e = .returned (.slice (some ⟨w.heap.size, 0, none⟩) (l.length + 2) (l.length + 2)) ∧ Own w' w.heap.size (.slice (some ⟨w.heap.size, 0, none⟩) (l.length + 2) (l.length + 2)) (l ++ [177, 178]) ∧ Below w.heap.size w w' := by
  have HR := Lib.hid hr
  clear hr
  go_enter Tryd.func18, Tryd.ntmps18
  go_wp2_with (at_make; refine make_zeros _ (l.length + 2) _ _ (by omega) (by omega) rfl _ _ rfl rfl rfl (by omega) ?_)
  intro w1 o1 hb1 hlt
  go_wp2_with (with_reducible refine copy_bytes w1 w.heap.size w.heap.size (l.length + 2) (l.length + 2) (List.replicate (l.length + 2) 0) l A c rfl (.tmp 8) (.tmp 9) rfl rfl rfl o1 ((HR.out.below hb1).more hb1.size) ?e1 ?_)
  case e1 => simp
  intro w2 o2 hb2 hs2
  have o3 := o2.set l.length 177
  have o4 := o3.set (l.length + 1) 178
  rw [set_two] at o4
  have c1 : w2.cell? ⟨w.heap.size, l.length, none⟩ = some (.int .u8 0) := by
    rw [o2.cell l.length (by simp)]
    simp [bv]
  have f1 := o2.free l.length
  have c2 : (w2.setCell ⟨w.heap.size, l.length, none⟩ (bv 177)).cell? ⟨w.heap.size, l.length + 1, none⟩ = some (.int .u8 0) := by
    rw [o3.cell (l.length + 1) (by simp)]
    simp [bv, List.set_append_right]
  have f2 := o3.free (l.length + 1)
  rw [← bv177] at c2 f2
  rw [← bv177, ← bv178] at o4
  clear o3
  go_wp2
  go_ret
  exact ⟨rfl, o4, (((hb1.trans (hb2.mono (Nat.le_refl _))).setCell (Nat.le_refl _) _).setCell (Nat.le_refl _) _)⟩

theorem rd_pre {w : World} {B : Nat} {g o : Nat} {l m : List UInt8} (h : Rd w B (some ⟨g, o, none⟩) (l ++ m)) : Rd w B (some ⟨g, o, none⟩) l := by
  rcases h with h | ⟨g', o', e, hb, hc⟩
  · simp at h; exact .inl h.1
  · refine .inr ⟨g', o', e, hb, fun i hi => ?_⟩
    rw [hc i (by simp; omega), List.getElem_append_left hi]

set_option maxHeartbeats 800000 in
set_option maxRecDepth 100000 in
theorem stays_any (g c c' B B' : Nat) (A : Option Addr) (l : List UInt8) (w : World) (h1 : Rd w B (some ⟨g, 0, none⟩) (l ++ [177, 178])) (h2 : Rd w B' A l) (hc : l.length + 2 ≤ c) (hl : l.length ≤ 140737488351232) :
    Calls Tryd.prog 28 #[.slice (some ⟨g, 0, none⟩) (l.length + 2) c, .slice A l.length c'] w fun e w' => e = .returned (.bool true) ∧ ∃ n, w' = w.drewN n := by
  have s1 : ∀ (nq c1 : Nat), (convert 23 9 (.slice (some ⟨g, 0, none⟩) l.length c1)).run Tryd.prog (w.drewN nq) = .ok (.string ⟨l.toArray⟩) (w.drewN nq) := fun nq c1 => str_of ((rd_pre h1).drewN nq) c1
  have s2 : ∀ nq : Nat, (convert 23 9 (.slice A l.length c')).run Tryd.prog (w.drewN nq) = .ok (.string ⟨l.toArray⟩) (w.drewN nq) := fun nq => str_of (h2.drewN nq) c'
  have d1 : w.cell? ⟨g, l.length, none⟩ = some (.int .u8 177) := by
    rcases h1 with h | ⟨g', o', e, hb, hc⟩
    · simp at h
    · injection e with e; injection e with e1 e2; subst e1 e2
      have := hc l.length (by simp)
      rw [Nat.zero_add] at this
      rw [this]
      simp [bv]
  have d2 : w.cell? ⟨g, l.length + 1, none⟩ = some (.int .u8 178) := by
    rcases h1 with h | ⟨g', o', e, hb, hc⟩
    · simp at h
    · injection e with e; injection e with e1 e2; subst e1 e2
      have := hc (l.length + 1) (by simp)
      rw [Nat.zero_add] at this
      rw [this]
      simp [bv, List.getElem_append_right]
  clear h1 h2
  go_enter Tryd.func28, Tryd.ntmps28
  go_wp2
  go_quiet (fail)
  go_wp2
  go_ret
  exact ⟨rfl, _, rfl⟩
end Go.Proofs.YtaojflmbfigplaaDoor
