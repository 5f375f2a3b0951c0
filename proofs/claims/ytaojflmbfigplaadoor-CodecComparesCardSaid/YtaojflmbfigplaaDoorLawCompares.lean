/-
  The walk of the law CodecCompares.
-/
import Derived.Test.YtaojflmbfigplaaDoorShown
import Derived.Test.YtaojflmbfigplaaDoorCompare
import Derived.Test.YtaojflmbfigplaaDoorRefCompare
namespace Go.Proofs.YtaojflmbfigplaaDoor
open Go.RowKit

set_option maxHeartbeats 800000 in
set_option maxRecDepth 100000 in
theorem law_compares (A A' : Option Addr) (c c' : Nat) (s t : List UInt8) (w : World) (hs : Rd w w.heap.size A s) (ht : Rd w w.heap.size A' t) (ls : s.length ≤ 9223372036854775807) (lt : t.length ≤ 9223372036854775807)
    (hT : Tab w) (h0 : 0 < w.heap.size) :
    Calls Tryd.prog 9 #[.slice A s.length c, .slice A' t.length c'] w fun e w' => e = .returned (.bool true) ∧ Below w.heap.size w w' := by
  have HS := Lib.hid hs
  have HT := Lib.hid ht
  have HTab := Lib.hid hT
  have HW := Lib.hid (cmp_swap s t)
  have hr := cmp_rng s t
  have HR := Lib.hid hr
  clear hs ht hT hr
  go_enter Tryd.func9, Tryd.ntmps9
  go_wp2_with fail
  refine (shown_any w HTab.out h0).mono ?_
  rintro e w1 ⟨rfl, hb1⟩
  go_wp2_with fail
  refine (compare_any A A' c c' _ _ s t w1 (HS.out.below hb1) (HT.out.below hb1) ls lt).mono ?_
  rintro e w2 ⟨rfl, hb2⟩
  have hb12 := hb1.trans (hb2.mono hb1.size)
  go_wp2_with fail
  refine (compare_any A' A c' c _ _ t s w2 (HT.out.below hb12) (HS.out.below hb12) lt ls).mono ?_
  rintro e w3 ⟨rfl, hb3⟩
  have hb13 := hb12.trans (hb3.mono hb12.size)
  rw [HW.out]
  go_wp2_with fail
  refine (rcompare_any A A' c c' _ _ s t w3 (HS.out.below hb13) (HT.out.below hb13) ls lt).mono ?_
  rintro e w4 ⟨rfl, hb4⟩
  have hb14 := hb13.trans (hb4.mono hb13.size)
  have r0 : -1 ≤ cmp s t := by rcases HR.out with h | h | h <;> omega
  have r1 : cmp s t ≤ 1 := by rcases HR.out with h | h | h <;> omega
  go_wp2
  go_ret
  exact ⟨by simp, hb14⟩
end Go.Proofs.YtaojflmbfigplaaDoor
