/-
  bytes.Equal.
-/
import Derived.Test.YtfnifpgaieggbaaDoorTakeBat
set_option linter.unusedVariables false
namespace Go.Proofs.YtfnifpgaieggbaaDoor
open Go.RowKit

set_option maxHeartbeats 800000 in
set_option maxRecDepth 100000 in
theorem equal_any (l l' : List UInt8) (A : Option Addr) (c : Nat) (A' : Option Addr) (c' : Nat) (w : World) (h1 : Rd w w.heap.size A l) (h2 : Rd w w.heap.size A' l') :
    Calls Tryd.prog 40 #[.slice A l.length c, .slice A' l'.length c'] w fun e w' => e = .returned (.bool (decide (l = l'))) ∧ Below w.heap.size w w' := by
  have hb := Below.refl w.heap.size w
  have s1 := str_of h1 c
  have s2 := str_of h2 c'
  clear h1 h2
  by_cases e5 : l = l'
  · subst e5
    go_enter Tryd.func40, Tryd.ntmps40
    go_wp2
    go_ret
    exact ⟨by simp, hb⟩
  · skip
    go_enter Tryd.func40, Tryd.ntmps40
    go_wp2
    go_ret
    exact ⟨by simp [e5], hb⟩
end Go.Proofs.YtfnifpgaieggbaaDoor
