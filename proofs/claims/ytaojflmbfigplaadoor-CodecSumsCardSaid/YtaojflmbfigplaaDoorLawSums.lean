/-
  The walk of the law CodecSums.
-/
import Derived.Test.YtaojflmbfigplaaDoorShown
import Derived.Test.YtaojflmbfigplaaDoorRefSum
namespace Go.Proofs.YtaojflmbfigplaaDoor
open Go.RowKit

set_option maxHeartbeats 800000 in
set_option maxRecDepth 100000 in
theorem law_sums (A : Option Addr) (c : Nat) (s : List UInt8) (w : World) (hs : Rd w w.heap.size A s) (ls : s.length ≤ 9223372036854775807)
    (hT : Tab w) (h0 : 0 < w.heap.size) :
    Calls Tryd.prog 6 #[.slice A s.length c] w fun e w' => e = .returned (.bool true) ∧ Below w.heap.size w w' := by
  have HS := Lib.hid hs
  have HTab := Lib.hid hT
  clear hs hT
  go_enter Tryd.func6, Tryd.ntmps6
  go_wp2_with fail
  refine (shown_any w HTab.out h0).mono ?_
  rintro e w1 ⟨rfl, hb1⟩
  go_wp2_with fail
  refine (rSum_any c _ A s w1 (HS.out.below hb1) ls).mono ?_
  rintro e w2 ⟨rfl, rfl⟩
  go_wp2_with fail
  refine (sum_any c _ A s w1 (HTab.out.below hb1 h0) (HS.out.below hb1) ls).mono ?_
  rintro e w3 ⟨rfl, rfl⟩
  go_wp2
  go_ret
  exact ⟨by simp, hb1⟩
end Go.Proofs.YtaojflmbfigplaaDoor
