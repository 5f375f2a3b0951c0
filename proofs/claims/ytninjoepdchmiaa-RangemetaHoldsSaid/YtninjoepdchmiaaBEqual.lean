/-
  bytes.Equal (of whatever package).
-/
import Derived.Test.YtninjoepdchmiaaCut
set_option linter.unusedVariables false
namespace Go.Proofs.Ytninjoepdchmiaa
open Go.RowKit

set_option maxHeartbeats 800000 in
set_option maxRecDepth 100000 in
theorem equal_any (l l' : List UInt8) (A : Option Addr) (c : Nat) (A' : Option Addr) (c' : Nat) (w : World) (h1 : Rd w w.heap.size A l) (h2 : Rd w w.heap.size A' l') :
    Calls Try.prog 48 #[.slice A l.length c, .slice A' l'.length c'] w fun e w' => e = .returned (.bool (decide (l = l'))) ∧ Below w.heap.size w w' := by
  have hb := Below.refl w.heap.size w
  have s1 := str_of h1 c
  have s2 := str_of h2 c'
  clear h1 h2
  by_cases e5 : l = l'
  · subst e5
    go_enter Try.func48, Try.ntmps48
    go_wp2
    go_ret
    exact ⟨by simp, hb⟩
  · skip
    go_enter Try.func48, Try.ntmps48
    go_wp2
    go_ret
    exact ⟨by simp [e5], hb⟩
theorem equal_at (l l' : List UInt8) (A : Option Addr) (n c : Nat) (A' : Option Addr) (n' c' : Nat) (w : World) (hn : n = l.length) (hn' : n' = l'.length) (h1 : Rd w w.heap.size A l) (h2 : Rd w w.heap.size A' l') :
    Calls Try.prog 48 #[.slice A n c, .slice A' n' c'] w fun e w' => e = .returned (.bool (decide (l = l'))) ∧ Below w.heap.size w w' := by
  subst hn hn'
  exact equal_any l l' A c A' c' w h1 h2
end Go.Proofs.Ytninjoepdchmiaa
