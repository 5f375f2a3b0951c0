/-
  The walk of the law BloomAsks.
-/
import Derived.Test.YtogfojohflkdnaaRefMay
import Derived.Test.YtogfojohflkdnaaShown
namespace Go.Proofs.Ytogfojohflkdnaa
open Go.RowKit

set_option maxHeartbeats 800000 in
set_option maxRecDepth 100000 in
theorem law_asks (F : Option Addr) (c : Nat) (l : List UInt8) (A : Option Addr) (cc : Nat) (key : List UInt8) (w : World) (hf : Rd w w.heap.size F l) (hk : Rd w w.heap.size A key) (hl : l.length ≤ 140737488351232) (hkl : key.length ≤ 140737488351232) :
    Calls Try.prog 5 #[.slice F l.length c, .slice A key.length cc] w fun e w' => e = .returned (.bool true) ∧ Below w.heap.size w w' := by
  have HF := Lib.hid hf
  have HK := Lib.hid hk
  have C1 := Lib.hid (fun w hf hk => rmay_any F c w.heap.size l A cc key w (Nat.le_refl _) hf hk (by omega) (by omega))
  have C2 := Lib.hid (fun w hf hk => may_any F c w.heap.size l A cc key w hf hk (by omega) (by omega))
  obtain ⟨h, hh⟩ : ∃ h, h = mayB l key := ⟨_, rfl⟩
  rw [← hh] at C1 C2
  clear hf hk hh
  go_enter Try.func5, Try.ntmps5
  go_wp2_with fail
  refine (shown_any _).mono ?_
  rintro e w1 ⟨rfl, hb⟩
  go_wp2_with fail
  refine (C1.out _ ((HF.out.below hb).more hb.size) ((HK.out.below hb).more hb.size)).mono ?_
  rintro e w2 ⟨rfl, hb2⟩
  have hb := hb.trans (hb2.mono hb.size)
  clear hb2
  go_wp2_with fail
  refine (C2.out _ ((HF.out.below hb).more hb.size) ((HK.out.below hb).more hb.size)).mono ?_
  rintro e w3 ⟨rfl, rfl⟩
  go_wp2
  go_ret
  exact ⟨by simp, hb⟩
end Go.Proofs.Ytogfojohflkdnaa
