/-
  putBool, truth, Text; rows laid at once.
-/
import Derived.Test.YtekgmgiokmbliaaCounts
import Derived.Test.YtekgmgiokmbliaaEnts
set_option linter.unusedVariables false
namespace Go.Proofs.Ytekgmgiokmbliaa
open Go.RowKit

def tb (b : Bool) : UInt8 := if b then 1 else 0

set_option maxRecDepth 100000 in
theorem putbool_any (b : Bool) (base : Nat) (v : Value) (l : List UInt8) (w : World) (ho : Own w base v l) (hl : l.length ≤ 70368744170000) (hbase : base ≤ w.heap.size) :
    Calls Try.prog 42 #[v, .bool b] w fun e w' => ∃ v', e = .returned v' ∧ Own w' base v' (l ++ [tb b]) ∧ w.grownBy w' v.ownBlock ∧ Lies w v v' := by
  obtain ⟨lA, lc, rfl, _⟩ := ho.rd
  have HO := Lib.hid ho
  have hl2 : Hid (l.length + 1 ≤ 70368744177664) := by show _ ≤ _; omega
  have HB := Lib.hid hbase
  clear ho
  cases b with
  | true =>
    go_enter Try.func42, Try.ntmps42
    go_wp2_with (at_builtin; refine app_byte w base _ l 1 _ rfl rfl (.tmp 6) (.tmp 7) rfl rfl w.heap.size rfl rfl HO.out hl2.out HB.out ?_)
    intro gq cap w6 O6 hg6 hl6
    go_wp2
    go_ret
    exact ⟨_, rfl, O6, hg6, hl6⟩
  | false =>
    go_enter Try.func42, Try.ntmps42
    go_wp2_with (at_builtin; refine app_byte w base _ l 0 _ rfl rfl (.tmp 9) (.tmp 10) rfl rfl w.heap.size rfl rfl HO.out hl2.out HB.out ?_)
    intro gq cap w6 O6 hg6 hl6
    go_wp2
    go_ret
    exact ⟨_, rfl, O6, hg6, hl6⟩
set_option maxRecDepth 100000 in
theorem truth_any (b : Bool) (base : Nat) (v : Value) (l : List UInt8) (w : World) (ho : Own w base v l) (hl : l.length ≤ 70368744170000) (hbase : base ≤ w.heap.size) :
    Calls Try.prog 44 #[v, .bool b] w fun e w' => ∃ v', e = .returned v' ∧ Own w' base v' (l ++ [tb b]) ∧ w.grownBy w' v.ownBlock ∧ Lies w v v' := by
  obtain ⟨lA, lc, rfl, _⟩ := ho.rd
  have HO := Lib.hid ho
  have hl2 : Hid (l.length + 1 ≤ 70368744177664) := by show _ ≤ _; omega
  have HB := Lib.hid hbase
  clear ho
  cases b with
  | true =>
    go_enter Try.func44, Try.ntmps44
    go_wp2_with (at_builtin; refine app_byte w base _ l 1 _ rfl rfl (.tmp 6) (.tmp 7) rfl rfl w.heap.size rfl rfl HO.out hl2.out HB.out ?_)
    intro gq cap w6 O6 hg6 hl6
    go_wp2
    go_ret
    exact ⟨_, rfl, O6, hg6, hl6⟩
  | false =>
    go_enter Try.func44, Try.ntmps44
    go_wp2_with (at_builtin; refine app_byte w base _ l 0 _ rfl rfl (.tmp 9) (.tmp 10) rfl rfl w.heap.size rfl rfl HO.out hl2.out HB.out ?_)
    intro gq cap w6 O6 hg6 hl6
    go_wp2
    go_ret
    exact ⟨_, rfl, O6, hg6, hl6⟩

set_option maxHeartbeats 800000 in
set_option maxRecDepth 100000 in
theorem rtext_any (d : List UInt8) (A : Option Addr) (n c base : Nat) (v : Value) (l : List UInt8) (w : World) (hn : n = d.length) (hr : Rd w base A d) (hd : n ≤ 1048576) (ho : Own w base v l) (hl : l.length ≤ 70368744100000) (hbase : base ≤ w.heap.size) :
    Calls Try.prog 45 #[v, .slice A n c] w fun e w' => ∃ v', e = .returned v' ∧ Own w' base v' (l ++ vb n ++ d) ∧ Below base w w' := by
  have VA := Lib.hid (rvar_any n base v l w (by omega) ho (by omega) hbase)
  have HR := Lib.hid hr
  have HO := Lib.hid ho
  have HB := Lib.hid hbase
  have HV := Lib.hid (vb_nine (n := n) (by omega))
  have HN := Lib.hid hn
  obtain ⟨lA, lc, rfl, _⟩ := ho.rd
  clear hr ho hn
  go_enter Try.func45, Try.ntmps45
  go_wp2_with fail
  refine VA.out.mono ?_
  rintro e w2 ⟨v2, rfl, O2, g2, _⟩
  have h2 : Below base w w2 := grown_below g2 HO.out (Nat.le_refl _) HB.out
  have HR2 := Lib.hid ((HR.out.below h2).more (Nat.le_trans HB.out h2.size))
  have HO2 := Lib.hid O2
  have HB2 := Lib.hid (Nat.le_trans HB.out h2.size)
  have hlen : Hid ((l ++ vb n).length + d.length ≤ 225179981368000) := by show _ ≤ _; rw [List.length_append]; have := HV.out; have := HN.out; omega
  obtain ⟨v2A, v2c, rfl, _⟩ := O2.rd
  have Hb2 := Lib.hid h2
  obtain ⟨n2, hn2⟩ : ∃ n2, n2 = (l ++ vb n).length := ⟨_, rfl⟩
  rw [← hn2]
  replace HO2 := HO2.out
  rw [← hn2] at HO2
  replace HO2 := Lib.hid HO2
  clear g2 O2 h2 hn2
  go_wp2_with (at_builtin; refine app_bytes w2 base (.slice v2A n2 v2c) (l ++ vb n) d A c rfl (.tmp 9) (.tmp 10) rfl rfl (by rw [← HN.out]; rfl) HO2.out HR2.out hlen.out HB2.out ?_)
  intro v3 w3 o3 b3 _
  obtain ⟨v3A, v3c, rfl, _⟩ := o3.rd
  obtain ⟨n3, hn3⟩ : ∃ n3, n3 = (l ++ (vb n ++ d)).length := ⟨_, rfl⟩
  rw [← hn3] at o3
  rw [← hn3]
  have HF := Lib.hid (And.intro o3 (Hb2.out.trans b3))
  clear o3 b3 hn3
  go_wp2
  go_ret
  exact ⟨_, rfl, by rw [List.append_assoc]; exact HF.out.1, HF.out.2⟩

/-- a row laid at once is one's own -/
theorem own_lit (w : World) (l : List UInt8) (C : Array Value) (hC : C.toList = l.map bv) (hl : l.length ≤ 1000) : Own (w.alloc (.cells C 5)) w.heap.size (.slice (some ⟨w.heap.size, 0, none⟩) l.length l.length) l := by
  have hs : C.size = l.length := by rw [← Array.length_toList, hC]; simp
  exact ⟨by simp, .inr ⟨w.heap.size, l.length, C, rfl, Nat.le_refl _, heap_alloc_new w _, Nat.le_refl _, by unfold maxLen; omega, by omega, by rw [hC, List.take_of_length_le (by simp)]⟩⟩
theorem rdI_lit (w : World) (L : List Int) (C : Array Value) (hC : C.toList = L.map iv) : RdI (w.alloc (.cells C 3)) (w.heap.size + 1) (some ⟨w.heap.size, 0, none⟩) L := by
  refine .inr ⟨w.heap.size, 0, rfl, by omega, fun i hi => ?_⟩
  rw [World.cell?_alloc_at _ _ _ _ rfl, Nat.zero_add, ← Array.getElem?_toList, hC]
  simp [List.getElem?_map, List.getElem?_eq_getElem hi, iv]
theorem RdI.grown {w w' : World} {A : Option Addr} {L : List Int} {v : Value} (h : RdI w w.heap.size A L) (hg : w.grownBy w' v.ownBlock) (hq : ∀ q o, A = some ⟨q, o, none⟩ → v.ownBlock ≠ some q) : RdI w' w'.heap.size A L := by
  rcases h with h | ⟨g, o, hA, hlt, hc⟩
  · exact .inl h
  · exact .inr ⟨g, o, hA, Nat.lt_of_lt_of_le hlt hg.size, fun i hi => (hg.cell_far _ hlt (fun e => hq g o hA e.symm)).trans (hc i hi)⟩
end Go.Proofs.Ytekgmgiokmbliaa
