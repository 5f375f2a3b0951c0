/-
  The contract of the law's spoil: it writes over what the call itself has made, and nothing else.
-/
import Derived.Test.YtaojflmbfigplaaDoorShown
namespace Go.Proofs.YtaojflmbfigplaaDoor
open Go.RowKit

theorem Own.below {w w' : World} {base : Nat} {v : Value} {l : List UInt8} (h : Own w base v l) (hb : Below w.heap.size w w') : Own w' base v l := by
  unfold Own at h ⊢
  refine ⟨h.1, ?_⟩
  rcases h.2 with hn | ⟨g, cap, cur, hv, hg, hh, r⟩
  · exact .inl hn
  · exact .inr ⟨g, cap, cur, hv, hg, (hb.block g (Array.getElem?_eq_some_iff.1 hh).1).trans hh, r⟩

theorem gtrans {a b c : World} {r : Option Nat} (h : a.grownBy b r) (k : b.grownBy c r) : a.grownBy c r :=
  ⟨k.os.trans h.os, k.tape.trans h.tape, k.output.trans h.output, Nat.le_trans h.size k.size, fun i hi hne => (k.block i (Nat.lt_of_lt_of_le hi h.size) hne).trans (h.block i hi hne)⟩
theorem Own.grown {w w' : World} {base : Nat} {v : Value} {l : List UInt8} {row : Option Nat} (h : Own w base v l) (hg : w.grownBy w' row) (hne : ∀ g, row = some g → g < base) : Own w' base v l :=
  World.ownsRow.kept h hg (by
    cases hv : v.ownBlock with
    | none => exact .inl rfl
    | some k =>
      refine .inr fun e => ?_
      have h1 := (World.ownsRow.lt h k hv).1
      have h2 := hne k e.symm
      omega)

set_option maxHeartbeats 800000 in
set_option maxRecDepth 100000 in
theorem spoil_some (g c B : Nat) (l : List UInt8) (w : World) (hown : Own w B (.slice (some ⟨g, 0, none⟩) l.length c) l) (hB : B ≤ w.heap.size) (hl : l.length + 2 ≤ 225179981368000) :
    Calls Tryd.prog 17 #[.slice (some ⟨g, 0, none⟩) l.length c] w fun e w' => (∃ x, e = .returned x) ∧ w.grownBy w' (some g) := by
  have hg := hown.lt
  have HO := Lib.hid hown
  clear hown
  go_enter Tryd.func17, Tryd.ntmps17
  go_wp2
  go_loopw [3] (fun i wr => ∃ (k : Nat) (m : List UInt8), k ≤ l.length ∧ i = .int .i64 k ∧ m.length = l.length ∧ Own wr B (.slice (some ⟨g, 0, none⟩) l.length c) m ∧ w.grownBy wr (some g)) (fun i _ => l.length - (intOf i).toNat)
  case atStart => exact ⟨0, l, by omega, rfl, rfl, HO.out, World.grownBy.refl w _⟩
  case round =>
    obtain ⟨k, m, hk, rfl, hm, hown, hbel⟩ := hrel
    have HM := Lib.hid hm
    by_cases h : k < l.length
    · obtain ⟨X, c1⟩ : ∃ X, wr.cell? ⟨g, k, none⟩ = some (.int .u8 X) := ⟨_, hown.cell k (by omega)⟩
      have c2 := hown.free k
      have hown' : wr.ownsRow B 5 1 (.slice (some ⟨g, 0, none⟩) l.length c) l.length (m.map bv) := by have := hown; unfold Own at this; rw [hm] at this; exact this
      clear hm
      go_wp2
      go_roundw
      case rel => exact ⟨k + 1, _, by omega, by go_num, by rw [List.length_set]; exact HM.out, hown.set k (by8 77), gtrans hbel (World.ownsRow.stored hown' k (bv (by8 77))).2⟩
      case measure => simp [intOf]; omega
    · clear hm
      have HW := Lib.hid hbel
      go_wp2_with (at_builtin; refine app_bytes _ B _ m [78, 79] (some ⟨wr.heap.size, 0, none⟩) 2 rfl (.tmp 13) (.tmp 14) rfl rfl rfl (hown.alloc _) ((rd_lit wr [78, 79] _ rfl).more (by simp)) ?e1 ?e2 ?_)
      case e1 => rw [HM.out]; simp; omega
      case e2 => have := hbel.size; simp; omega
      intro v' w' h1 h2 h3
      obtain ⟨A1, c1, rfl, _⟩ := h1.rd
      go_wp2
      go_ret
      exact ⟨⟨_, rfl⟩, gtrans (gtrans hbel (World.grownBy_alloc wr _ _)) h3⟩

theorem spoil_nil (w : World) : Calls Tryd.prog 17 #[.slice none 0 0] w fun e w' => (∃ x, e = .returned x) ∧ w.grownBy w' none := by
  go_enter Tryd.func17, Tryd.ntmps17
  go_wp2
  refine wp_loop_rounds 1 ?_
  rw [rounds_succ]
  go_wp2_with (at_builtin; refine app_bytes _ w.heap.size _ [] [78, 79] (some ⟨w.heap.size, 0, none⟩) 2 rfl (.tmp 13) (.tmp 14) rfl rfl rfl (Own.nil_ _ _) ((rd_lit w [78, 79] _ rfl).more (by simp)) ?e1 ?e2 ?_)
  case e1 => decide
  case e2 => simp
  intro v' w' h1 h2 h3
  obtain ⟨A1, c1, rfl, _⟩ := h1.rd
  go_wp2
  go_ret
  exact ⟨⟨_, rfl⟩, gtrans (World.grownBy_alloc w _ none) h3⟩

theorem spoil_any (B : Nat) (v : Value) (l : List UInt8) (w : World) (hown : Own w B v l) (hB : B ≤ w.heap.size) (hl : l.length + 2 ≤ 225179981368000) :
    Calls Tryd.prog 17 #[v] w fun e w' => (∃ x, e = .returned x) ∧ Below B w w' ∧ w.grownBy w' v.ownBlock := by
  have hr : ∀ w', w.grownBy w' v.ownBlock → Below B w w' := fun w' hg => (Below.refl _ _).grown hg hB fun k hk => (World.ownsRow.lt hown k hk).1
  rcases hown.2 with ⟨rfl, hn⟩ | ⟨g, cap, cur, rfl, _⟩
  · exact (spoil_nil w).mono fun e w' ⟨h, hb⟩ => ⟨h, hr w' hb, hb⟩
  · exact (spoil_some g cap B l w hown hB hl).mono fun e w' ⟨h, hb⟩ => ⟨h, hr w' hb, hb⟩
end Go.Proofs.YtaojflmbfigplaaDoor
