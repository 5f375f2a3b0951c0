/-
  The contracts of codec.Text, codec.fresh, codec.TakeText and of the reference's Text.
-/
import Derived.Test.YtfnifpgaieggbaaDoorRefNumber
import Derived.Test.YtfnifpgaieggbaaDoorCut
import Derived.Test.YtfnifpgaieggbaaDoorCell
import Derived.Deep.QuietTactic
import Derived.BigQuiet
namespace Go.Proofs.YtfnifpgaieggbaaDoor
open Go.RowKit

theorem below1' (w : World) (o : Obj) : Below w.heap.size w (w.alloc o) := (Below.refl _ _).alloc (Nat.le_refl _) o
theorem Own.below {w w' : World} {base : Nat} {v : Value} {l : List UInt8} (h : Own w base v l) (hb : Below w.heap.size w w') : Own w' base v l := Own.belowFar h hb
theorem own_made (w : World) : Own (w.alloc (.cells #[] 5)) w.heap.size (.slice (some ⟨w.heap.size, 0, none⟩) 0 0) [] := World.ownsRow_made w #[] 0 (Nat.le_refl _) (by unfold maxLen; omega) rfl

set_option maxHeartbeats 800000 in
set_option maxRecDepth 100000 in
theorem text_ok (A : Option Addr) (c : Nat) (s : List UInt8) (w : World) (hr : Rd w w.heap.size A s) (hl : s.length ≤ 2097152) :
    Calls Tryd.prog 32 #[.slice A s.length c] w fun e w' => ∃ v, e = .returned (.tuple #[v, .int .i64 0]) ∧ Own w' w.heap.size v (num s.length ++ s) ∧ Below w.heap.size w w' := by
  have HR := Lib.hid hr
  have hnl := num_len s.length
  clear hr
  go_enter Tryd.func32, Tryd.ntmps32
  go_wp2_with fail
  refine (number_any s.length w (Nat.lt_of_le_of_lt hl (by decide))).mono ?_
  rintro e w1 ⟨v1, rfl, o1, hb1⟩
  go_wp2_with (at_builtin; refine app_bytes _ w.heap.size _ (num s.length) s A c rfl (.tmp 10) (.tmp 11) rfl rfl rfl o1 ((HR.out.below hb1).more hb1.size) ?e1 ?e2 ?_)
  case e1 => omega
  case e2 => exact hb1.size
  intro v2 w2 o2 hb2 _
  go_wp2
  go_ret2
  exact ⟨_, rfl, o2, hb1.trans hb2⟩
set_option maxHeartbeats 800000 in
set_option maxRecDepth 100000 in
theorem text_long (A : Option Addr) (c n : Nat) (w : World) (hl : 2097152 < n) :
    Calls Tryd.prog 32 #[.slice A n c] w fun e w' => e = .returned (.tuple #[.slice none 0 0, .int .i64 12]) ∧ w = w' := by
  go_enter Tryd.func32, Tryd.ntmps32
  go_wp2
  go_ret2
  exact ⟨rfl, rfl⟩
set_option maxHeartbeats 800000 in
set_option maxRecDepth 100000 in
theorem rtext_ok (A : Option Addr) (c : Nat) (s : List UInt8) (w : World) (hr : Rd w w.heap.size A s) (hl : s.length ≤ 2097152) :
    Calls Tryd.prog 30 #[.slice A s.length c] w fun e w' => ∃ v, e = .returned (.tuple #[v, .int .i64 0]) ∧ Own w' w.heap.size v (num s.length ++ s) ∧ Below w.heap.size w w' := by
  have HR := Lib.hid hr
  have hnl := num_len s.length
  clear hr
  go_enter Tryd.func30, Tryd.ntmps30
  go_wp2_with fail
  refine (rnumber_any s.length w (Nat.le_trans hl (by decide))).mono ?_
  rintro e w1 ⟨v1, rfl, o1, hb1⟩
  go_wp2_with (at_builtin; refine app_bytes _ w.heap.size _ (num s.length) s A c rfl (.tmp 12) (.tmp 13) rfl rfl rfl o1 ((HR.out.below hb1).more hb1.size) ?e1 ?e2 ?_)
  case e1 => omega
  case e2 => exact hb1.size
  intro v2 w2 o2 hb2 _
  go_wp2
  go_ret2
  exact ⟨_, rfl, o2, hb1.trans hb2⟩
set_option maxHeartbeats 800000 in
set_option maxRecDepth 100000 in
theorem rtext_long (A : Option Addr) (c n : Nat) (w : World) (hl : 2097152 < n) :
    Calls Tryd.prog 30 #[.slice A n c] w fun e w' => e = .returned (.tuple #[.slice none 0 0, .int .i64 12]) ∧ w = w' := by
  go_enter Tryd.func30, Tryd.ntmps30
  go_wp2
  go_ret2
  exact ⟨rfl, rfl⟩

set_option maxRecDepth 100000 in
theorem fresh_any (A : Option Addr) (c : Nat) (s : List UInt8) (w : World) (hr : Rd w w.heap.size A s) (hl : s.length ≤ 225179981368000) :
    Calls Tryd.prog 38 #[.slice A s.length c] w fun e w' => ∃ v, e = .returned v ∧ Own w' w.heap.size v s ∧ Below w.heap.size w w' := by
  have HR := Lib.hid hr
  clear hr
  go_enter Tryd.func38, Tryd.ntmps38
  go_wp2_with (at_builtin; refine app_bytes _ w.heap.size _ [] s A c rfl (.tmp 3) (.tmp 4) rfl rfl rfl (own_made w) ((HR.out.below ((Below.refl _ _).alloc (Nat.le_refl _) _)).more (by simp)) ?e1 ?e2 ?_)
  case e1 => simpa using hl
  case e2 => simp
  intro v2 w2 o2 hb2 _
  go_wp2
  go_ret
  exact ⟨_, rfl, by simpa using o2, ((Below.refl w.heap.size w).alloc (Nat.le_refl _) _).trans hb2⟩

end Go.Proofs.YtfnifpgaieggbaaDoor
