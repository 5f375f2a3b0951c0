/-
  The walk of the law BloomHashes.
-/
import Derived.Test.YtogfojohflkdnaaShown
namespace Go.Proofs.Ytogfojohflkdnaa
open Go.RowKit

set_option maxHeartbeats 800000 in
set_option maxRecDepth 100000 in
theorem law_hashes (A : Option Addr) (c : Nat) (l : List UInt8) (w : World) (hr : Rd w w.heap.size A l) (hl : l.length ≤ 140737488351232) :
    Calls Try.prog 3 #[.slice A l.length c] w fun e w' => e = .returned (.bool true) ∧ Below w.heap.size w w' := by
  have HR := Lib.hid hr
  have C1 := Lib.hid (fun w hr => hash_any A c w.heap.size l w hr (by omega))
  have C2 := Lib.hid (fun w hr => rhash_any A c w.heap.size l w hr (by omega))
  obtain ⟨h, hh⟩ : ∃ h, h = hash l := ⟨_, rfl⟩
  rw [← hh] at C1 C2
  clear hr hh
  go_enter Try.func3, Try.ntmps3
  go_wp2_with fail
  refine (shown_any _).mono ?_
  rintro e w1 ⟨rfl, hb⟩
  go_wp2_with fail
  refine (C2.out _ ((HR.out.below hb).more hb.size)).mono ?_
  rintro e w2 ⟨rfl, rfl⟩
  go_wp2_with fail
  refine (C1.out _ ((HR.out.below hb).more hb.size)).mono ?_
  rintro e w2 ⟨rfl, rfl⟩
  go_wp2
  go_ret
  exact ⟨by simp, hb⟩
end Go.Proofs.Ytogfojohflkdnaa
