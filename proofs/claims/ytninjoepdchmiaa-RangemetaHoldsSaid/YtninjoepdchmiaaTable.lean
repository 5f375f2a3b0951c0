/-
  The table: what it is in memory; New, List, Find, Cut; what a split makes of it.
-/
import Derived.Test.YtninjoepdchmiaaCutR
import Derived.Test.YtninjoepdchmiaaInsert
import Derived.Test.YtninjoepdchmiaaIndex
import Derived.Test.YtninjoepdchmiaaBEqual
set_option linter.unusedVariables false
namespace Go.Proofs.Ytninjoepdchmiaa
open Go.RowKit

/-- the blocks that a table may turn -/
def tbM (p : Nat) (v : Value) (k : Nat) : Prop := k = p ∨ v.ownBlock = some k
structure Tb (w : World) (B p : Nat) (A : Option Addr) (n c : Nat) (L : List RV) : Prop where
  cell : Cell w p 0 (.slice A n c)
  row : RRow w B (.slice A n c) L
  tx : ∀ x ∈ L, RTs w (tbM p (.slice A n c)) x
  ne : (Value.slice A n c).ownBlock ≠ some p
  pb : B ≤ p
theorem Tb.keep {w w' : World} {B p n c : Nat} {A : Option Addr} {L : List RV} (h : Tb w B p A n c L) (hb : Below w.heap.size w w') : Tb w' B p A n c L :=
  ⟨h.cell.keep hb, GRow.keep h.row hb, fun x hx => (h.tx x hx).keep hb, h.ne, h.pb⟩
theorem Tb.rd {w : World} {B p n c : Nat} {A : Option Addr} {L : List RV} (h : Tb w B p A n c L) : RsRd w w.heap.size A L := h.row.rd h.tx
theorem Tb.len {w : World} {B p n c : Nat} {A : Option Addr} {L : List RV} (h : Tb w B p A n c L) : n = L.length := h.row.len
theorem Tb.cap {w : World} {B p n c : Nat} {A : Option Addr} {L : List RV} (h : Tb w B p A n c L) : n ≤ c := by
  obtain ⟨A', c', e, hc, _⟩ := GRow.form h.row
  obtain ⟨_, e2, e3⟩ := Value.slice.inj e
  omega
theorem Tb.mb {w : World} {B p n c : Nat} {A : Option Addr} {L : List RV} (h : Tb w B p A n c L) : ∀ k, tbM p (.slice A n c) k → B ≤ k ∧ k < w.heap.size := fun k hk => by
  rcases hk with rfl | hk
  · exact ⟨h.pb, h.cell.lt⟩
  · exact GRow.lt h.row k hk

set_option maxRecDepth 100000 in
theorem new_any (w : World) :
    Calls Try.prog 19 #[] w fun e w' => ∃ p A n c L, e = .returned (.pointer (some ⟨p, 0, none⟩)) ∧ Tb w' w.heap.size p A n c L ∧ L.map (·.d) = [⟨1, 1, [], []⟩] ∧ Below w.heap.size w w' := by
  have hb : Below w.heap.size w ((w.alloc (.cells #[.int .i64 1, .slice none 0 0, .slice none 0 0, .int .i64 1] 46)).alloc (.cells #[.slice (some ⟨w.heap.size, 0, none⟩) 1 1] 96)) := (below1' w _).alloc (by simp) _
  have hO : (w.alloc (.cells #[.int .i64 1, .slice none 0 0, .slice none 0 0, .int .i64 1] 46)).ownsRow w.heap.size 46 4 (.slice (some ⟨w.heap.size, 0, none⟩) 1 1) 1 (rc ⟨⟨1, 1, [], []⟩, none, 0, none, 0⟩) :=
    ⟨rfl, .inr ⟨w.heap.size, 1, #[.int .i64 1, .slice none 0 0, .slice none 0 0, .int .i64 1], rfl, Nat.le_refl _, heap_alloc_new w _, Nat.le_refl _, by unfold maxLen; omega, rfl, rfl⟩⟩
  have hC := Cell.new (w.alloc (.cells #[.int .i64 1, .slice none 0 0, .slice none 0 0, .int .i64 1] 46)) #[.slice (some ⟨w.heap.size, 0, none⟩) 1 1] 96 0 _ rfl
  have hT : Tb ((w.alloc (.cells #[.int .i64 1, .slice none 0 0, .slice none 0 0, .int .i64 1] 46)).alloc (.cells #[.slice (some ⟨w.heap.size, 0, none⟩) 1 1] 96)) w.heap.size (w.heap.size + 1) (some ⟨w.heap.size, 0, none⟩) 1 1 [⟨⟨1, 1, [], []⟩, none, 0, none, 0⟩] := by
    refine ⟨?_, ⟨by simpa using World.ownsRow.alloc hO _, rcs_len _⟩, fun x hx => ?_, ?_, by omega⟩
    · rw [show (w.alloc (.cells #[.int .i64 1, .slice none 0 0, .slice none 0 0, .int .i64 1] 46)).heap.size = w.heap.size + 1 by simp] at hC
      exact hC
    · rw [List.mem_singleton.1 hx]
      exact ⟨⟨.inl rfl, fun h => absurd rfl h⟩, ⟨.inl rfl, fun h => absurd rfl h⟩, Nat.zero_le _, Nat.zero_le _, fun _ => rfl, fun _ => rfl⟩
    · intro h
      injection h with h
      have : w.heap.size = w.heap.size + 1 := h
      omega
  have HT := Lib.hid hT
  clear hO hC hT
  go_enter Try.func19, Try.ntmps19
  go_wp2
  go_ret
  exact ⟨w.heap.size + 1, _, _, _, _, rfl, HT.out, rfl, hb⟩

set_option maxHeartbeats 800000 in
set_option maxRecDepth 100000 in
theorem list_any (B p n c : Nat) (A : Option Addr) (L : List RV) (w : World) (h : Tb w B p A n c L) (hl : n ≤ 1000000) :
    Calls Try.prog 18 #[.pointer (some ⟨p, 0, none⟩)] w fun e w' => ∃ A' c', e = .returned (.slice A' n c') ∧ ∃ L', L'.map (·.d) = L.map (·.d) ∧ RRow w' w.heap.size (.slice A' n c') L' ∧ (∀ x ∈ L', RTs w' (ownB (.slice A' n c')) x) ∧ Below w.heap.size w w' := by
  have C := Lib.hid (cloneall_any L A n c w h.len h.rd (by omega))
  have x0 := h.cell.1
  clear h
  go_enter Try.func18, Try.ntmps18
  go_wp2_with fail
  refine C.out.mono ?_
  rintro e w2 ⟨A', c', rfl, L', h1, h2, h3, h4⟩
  have HF := Lib.hid (And.intro h1 (And.intro h2 (And.intro h3 h4)))
  clear h1 h2 h3 h4 C
  go_wp2
  go_ret
  exact ⟨A', c', rfl, L', HF.out.1, HF.out.2.1, HF.out.2.2.1, HF.out.2.2.2⟩

set_option maxHeartbeats 800000 in
set_option maxRecDepth 100000 in
theorem tcut_any (B p n c : Nat) (A : Option Addr) (L : List RV) (G U : Option Addr) (ng gc nu uc : Nat) (g u : List UInt8) (w : World) (h : Tb w B p A n c L) (hl : n ≤ 1000000) (hm : Mono (L.map (·.d))) (hg : Src w G ng gc g) (hu : Src w U nu uc u) :
    Calls Try.prog 25 #[.pointer (some ⟨p, 0, none⟩), .agg #[.slice G ng gc, .slice U nu uc]] w fun e w' => (∃ A' n' c', e = .returned (.slice A' n' c') ∧ ∃ L', L'.map PV.d = cutD (L.map (·.d)) g u ∧ PRow w' w.heap.size (.slice A' n' c') L' ∧ ∀ x ∈ L', PTs w' (ownB (.slice A' n' c')) x) ∧ Below w.heap.size w w' := by
  have hb := below1' w (.cells #[.slice G ng gc, .slice U nu uc] 39)
  obtain ⟨W, hW⟩ : ∃ W, W = w.alloc (.cells #[.slice G ng gc, .slice U nu uc] 39) := ⟨_, rfl⟩
  have B0 := (Cell.new w #[.slice G ng gc, .slice U nu uc] 39 0 _ rfl).1
  have B1 := (Cell.new w #[.slice G ng gc, .slice U nu uc] 39 1 _ rfl).1
  rw [← hW] at hb B0 B1
  have h2 := (h.keep hb).keep (below_drew (Below.refl _ W))
  have hg2 := (hg.keep hb).keep (below_drew (Below.refl _ W))
  have hu2 := (hu.keep hb).keep (below_drew (Below.refl _ W))
  have C := Lib.hid (cut_any L A n c G U ng gc nu uc g u W.drew h2.len h2.rd hl h2.cap hm hg2 hu2)
  have x0 := (h.keep hb).cell.1
  have HB := Lib.hid hb
  obtain ⟨u0, hu0⟩ : ∃ u, u = w.heap.size := ⟨_, rfl⟩
  rw [← hu0] at B0 B1
  clear h h2 hg hu hm hb hg2 hu2
  go_enter Try.func25, Try.ntmps25
  go_upto_region 1 with fail
  rw [← hu0, ← hW]
  clear hW hu0
  go_region_law (go_simp; go_at_call 62; refine C.out.mono ?_; rintro e w2 ⟨⟨A', n', c', rfl, L', h1, h2, h3⟩, h4⟩; have HF := Lib.hid (And.intro h1 (And.intro (GRow.lower h2 HB.out.size) (And.intro h3 (HB.out.trans (below_of_drew ((show Below W.heap.size W.drew w2 from h4).mono HB.out.size))))));  clear h1 h2 h3 h4)
  all_goals
    go_wp2
    go_ret
    exact ⟨⟨A', n', c', rfl, L', HF.out.1, HF.out.2.1, HF.out.2.2.1⟩, HF.out.2.2.2⟩
end Go.Proofs.Ytninjoepdchmiaa
