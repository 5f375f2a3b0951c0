/-
  The contracts of slices.Clone of bytes, (of whatever package).
-/
import Derived.Test.YtninjoepdchmiaaCut
import Derived.Test.YtninjoepdchmiaaCell
import Derived.Lib.SliceRun
set_option linter.unusedVariables false
namespace Go.Proofs.Ytninjoepdchmiaa
open Go.RowKit

theorem below1' (w : World) (o : Obj) : Below w.heap.size w (w.alloc o) := (Below.refl _ _).alloc (Nat.le_refl _) o
theorem own_made (w : World) : Own (w.alloc (.cells #[] 5)) w.heap.size (.slice (some ⟨w.heap.size, 0, none⟩) 0 0) [] := World.ownsRow_made w #[] 0 (Nat.le_refl _) (by unfold maxLen; omega) rfl

set_option maxHeartbeats 400000 in
set_option maxRecDepth 100000 in
theorem sclone_any (A : Option Addr) (n c : Nat) (l : List UInt8) (w : World) (hn : n = l.length) (hr : Rd w w.heap.size A l) (hl : l.length ≤ 140737488351232) (hA : A = none → c = 0) :
    Calls Try.prog 58 #[.slice A n c] w fun e w' => ∃ v, e = .returned v ∧ Own w' w.heap.size v l ∧ Below w.heap.size w w' := by
  cases A with
  | none =>
    have h0 : l = [] := by rcases hr with h | ⟨g, o, e, _⟩; exact h; cases e
    subst h0
    obtain rfl : n = 0 := by simpa using hn
    obtain rfl : c = 0 := hA rfl
    clear hr hn hA hl
    have he := fun w => Lib.run_eql_slice_nil (P := Try.prog) w 24 5 none 0 0 0 0 Try.underlying24
    go_enter Try.func58, Try.ntmps58
    go_wp2
    go_ret
    exact ⟨_, rfl, Own.nil_ _ _, Below.refl _ _⟩
  | some a =>
    have HR := Lib.hid hr
    subst hn
    clear hr hA
    have he := fun w => Lib.run_eql_slice_nil (P := Try.prog) w 24 5 (some a) l.length c 0 0 Try.underlying24
    go_enter Try.func58, Try.ntmps58
    go_wp2_with (at_builtin; refine app_bytes _ w.heap.size _ [] l (some a) c rfl (.tmp 5) (.tmp 6) rfl rfl rfl (own_made w) ((HR.out.below (below1' w _)).more (below1' w _).size) ?e1 ?e2 ?_)
    case e1 => simp; omega
    case e2 => simp
    intro v2 w2 o2 hb2 _
    go_wp2
    go_ret
    exact ⟨_, rfl, by simpa using o2, (below1' w _).trans hb2⟩
end Go.Proofs.Ytninjoepdchmiaa
