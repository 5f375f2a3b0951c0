/-
  The contracts of slices.Clone of bytes, and of clone of an envelope.
-/
import Derived.Test.YtekgmgiokmbliaaCut
import Derived.Test.YtekgmgiokmbliaaCell
import Derived.Lib.SliceRun
set_option linter.unusedVariables false
namespace Go.Proofs.Ytekgmgiokmbliaa
open Go.RowKit

theorem below1' (w : World) (o : Obj) : Below w.heap.size w (w.alloc o) := (Below.refl _ _).alloc (Nat.le_refl _) o
theorem own_made (w : World) : Own (w.alloc (.cells #[] 5)) w.heap.size (.slice (some ⟨w.heap.size, 0, none⟩) 0 0) [] := World.ownsRow_made w #[] 0 (Nat.le_refl _) (by unfold maxLen; omega) rfl

set_option maxHeartbeats 400000 in
set_option maxRecDepth 100000 in
theorem sclone_any (A : Option Addr) (n c : Nat) (l : List UInt8) (w : World) (hn : n = l.length) (hr : Rd w w.heap.size A l) (hl : l.length ≤ 140737488351232) (hA : A = none → c = 0) :
    Calls Try.prog 55 #[.slice A n c] w fun e w' => ∃ v, e = .returned v ∧ Own w' w.heap.size v l ∧ Below w.heap.size w w' := by
  cases A with
  | none =>
    have h0 : l = [] := by rcases hr with h | ⟨g, o, e, _⟩; exact h; cases e
    subst h0
    obtain rfl : n = 0 := by simpa using hn
    obtain rfl : c = 0 := hA rfl
    clear hr hn hA hl
    have he := fun w => Lib.run_eql_slice_nil (P := Try.prog) w 30 5 none 0 0 0 0 Try.underlying30
    go_enter Try.func55, Try.ntmps55
    go_wp2
    go_ret
    exact ⟨_, rfl, Own.nil_ _ _, Below.refl _ _⟩
  | some a =>
    have HR := Lib.hid hr
    subst hn
    clear hr hA
    have he := fun w => Lib.run_eql_slice_nil (P := Try.prog) w 30 5 (some a) l.length c 0 0 Try.underlying30
    go_enter Try.func55, Try.ntmps55
    go_wp2_with (at_builtin; refine app_bytes _ w.heap.size _ [] l (some a) c rfl (.tmp 5) (.tmp 6) rfl rfl rfl (own_made w) ((HR.out.below (below1' w _)).more (below1' w _).size) ?e1 ?e2 ?_)
    case e1 => simp; omega
    case e2 => simp
    intro v2 w2 o2 hb2 _
    go_wp2
    go_ret
    exact ⟨_, rfl, by simpa using o2, (below1' w _).trans hb2⟩

set_option maxHeartbeats 800000 in
set_option maxRecDepth 100000 in
theorem clone_any (i f t k : Int) (A : Option Addr) (n c : Nat) (l : List UInt8) (w : World) (hn : n = l.length) (hr : Rd w w.heap.size A l) (hl : l.length ≤ 140737488351232) (hA : A = none → c = 0) :
    Calls Try.prog 32 #[.agg #[.int .i64 i, .int .i64 f, .int .i64 t, .int .i64 k, .slice A n c]] w fun e w' => ∃ v, e = .returned (.agg #[.int .i64 i, .int .i64 f, .int .i64 t, .int .i64 k, v]) ∧ Own w' w.heap.size v l ∧ Below w.heap.size w w' := by
  have hb0 : Below w.heap.size w ((w.alloc (.cells #[.int .i64 i, .int .i64 f, .int .i64 t, .int .i64 k, .slice A n c] 32)).alloc (.cells #[.int .i64 0, .int .i64 0, .int .i64 0, .int .i64 0, .slice none 0 0] 32)) := (below1' w _).alloc (by simp) _
  have C1 := Lib.hid (sclone_any A n c l _ hn ((hr.below hb0).more hb0.size) hl hA)
  have B0 := (Cell.new w #[.int .i64 i, .int .i64 f, .int .i64 t, .int .i64 k, .slice A n c] 32 0 _ rfl).alloc (.cells #[.int .i64 0, .int .i64 0, .int .i64 0, .int .i64 0, .slice none 0 0] 32)
  have B1 := (Cell.new w #[.int .i64 i, .int .i64 f, .int .i64 t, .int .i64 k, .slice A n c] 32 1 _ rfl).alloc (.cells #[.int .i64 0, .int .i64 0, .int .i64 0, .int .i64 0, .slice none 0 0] 32)
  have B2 := (Cell.new w #[.int .i64 i, .int .i64 f, .int .i64 t, .int .i64 k, .slice A n c] 32 2 _ rfl).alloc (.cells #[.int .i64 0, .int .i64 0, .int .i64 0, .int .i64 0, .slice none 0 0] 32)
  have B3 := (Cell.new w #[.int .i64 i, .int .i64 f, .int .i64 t, .int .i64 k, .slice A n c] 32 3 _ rfl).alloc (.cells #[.int .i64 0, .int .i64 0, .int .i64 0, .int .i64 0, .slice none 0 0] 32)
  have B4 := (Cell.new w #[.int .i64 i, .int .i64 f, .int .i64 t, .int .i64 k, .slice A n c] 32 4 _ rfl).alloc (.cells #[.int .i64 0, .int .i64 0, .int .i64 0, .int .i64 0, .slice none 0 0] 32)
  have R := fun (j : Nat) (x : Value) (h : (#[.int .i64 0, .int .i64 0, .int .i64 0, .int .i64 0, .slice none 0 0] : Array Value)[j]? = some x) => Cell.new (w.alloc (.cells #[.int .i64 i, .int .i64 f, .int .i64 t, .int .i64 k, .slice A n c] 32)) #[.int .i64 0, .int .i64 0, .int .i64 0, .int .i64 0, .slice none 0 0] 32 j x h
  rw [show (w.alloc (.cells #[.int .i64 i, .int .i64 f, .int .i64 t, .int .i64 k, .slice A n c] 32)).heap.size = w.heap.size + 1 by simp] at R
  have R0 := R 0 _ rfl
  have R1 := R 1 _ rfl
  have R2 := R 2 _ rfl
  have R3 := R 3 _ rfl
  have R4 := R 4 _ rfl
  have b4 := B4.1
  obtain ⟨q, hq⟩ : ∃ q, q = l.length := ⟨_, rfl⟩
  rw [← hq] at hn
  subst hn
  replace hq := Lib.hid hq
  clear hr hA R
  go_enter Try.func32, Try.ntmps32
  go_wp2_with fail
  refine C1.out.mono ?_
  rintro e w1 ⟨v, rfl, ho, hb1⟩
  have B0 := B0.keep hb1
  have B1 := B1.keep hb1
  have B2 := B2.keep hb1
  have B3 := B3.keep hb1
  have B4 := B4.keep hb1
  have R0 := R0.keep hb1
  have R1 := R1.keep hb1
  have R2 := R2.keep hb1
  have R3 := R3.keep hb1
  have R4 := R4.keep hb1
  have hb := hb0.trans (hb1.mono hb0.size)
  have hs1 := hb1.size
  clear hb1 hb0 b4 C1
  obtain ⟨b0, _⟩ := B0
  obtain ⟨b1, _⟩ := B1
  obtain ⟨b2, _⟩ := B2
  obtain ⟨b3, _⟩ := B3
  obtain ⟨b4, f4⟩ := B4
  obtain ⟨r0, g0⟩ := R0
  obtain ⟨r1, g1⟩ := R1
  obtain ⟨r2, g2⟩ := R2
  obtain ⟨r3, g3⟩ := R3
  obtain ⟨r4, g4⟩ := R4
  obtain ⟨A2, c2, hv, _⟩ := ho.rd
  rw [← hq.out] at hv
  subst hv
  replace ho := Lib.hid ho
  go_wp2
  refine bodyPost_ret (v := .agg #[.int .i64 i, .int .i64 f, .int .i64 t, .int .i64 k, .slice A2 n c2]) (by rw [results_cell1 rfl]; go_simp) rfl ?_
  refine ⟨_, rfl, ?_, ?_⟩
  · have := ho.out
    refine Own.mono (b := w.heap.size + 2) ?_ (by omega)
    rw [show ((w.alloc (.cells #[.int .i64 i, .int .i64 f, .int .i64 t, .int .i64 k, .slice A n c] 32)).alloc (.cells #[.int .i64 0, .int .i64 0, .int .i64 0, .int .i64 0, .slice none 0 0] 32)).heap.size = w.heap.size + 2 by simp] at this
    repeat (refine Own.setFar ?_ (by first | exact Nat.lt_add_of_pos_right (by decide) | exact Nat.lt_succ_self _) _)
    exact this
  · repeat (refine Below.setCell ?_ (by first | exact Nat.le_refl _ | exact Nat.le_succ _) _)
    exact hb
end Go.Proofs.Ytekgmgiokmbliaa
