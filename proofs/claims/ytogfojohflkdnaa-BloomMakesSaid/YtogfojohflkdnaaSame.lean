/-
  The contract of the law's same.
-/
import Derived.Test.YtogfojohflkdnaaLent
import Derived.Test.YtogfojohflkdnaaCut
set_option linter.unusedVariables false
namespace Go.Proofs.Ytogfojohflkdnaa
open Go.RowKit

theorem str_at {w : World} {B : Nat} {A : Option Addr} {l : List UInt8} (h : Rd w B A l) (c n : Nat) (hn : n = l.length) : (convert 22 9 (.slice A n c)).run Try.prog w = .ok (.string ⟨l.toArray⟩) w := by
  subst hn
  exact str_of h c

set_option maxHeartbeats 1600000 in
set_option maxRecDepth 100000 in
theorem same_any (K K' : Option Addr) (c c' B : Nat) (ks : List (List UInt8)) (w : World) (hk : RdK w B K ks) (hk' : RdK w B K' ks) (hl : ks.length ≤ 5864062014634) :
    Calls Try.prog 14 #[.slice K ks.length c, .slice K' ks.length c'] w fun e w' => e = .returned (.bool true) ∧ Below w.heap.size w w' := by
  have HK := Lib.hid hk
  have HK' := Lib.hid hk'
  obtain ⟨n, hn⟩ : ∃ n, n = ks.length := ⟨_, rfl⟩
  rw [← hn] at hl ⊢
  have HN := Lib.hid hn
  clear hk hk' hn
  go_enter Try.func14, Try.ntmps14
  go_wp2
  go_loopw [5] (fun i wr => ∃ k : Nat, k ≤ n ∧ i = .int .i64 k ∧ Below w.heap.size w wr ∧ RdK wr B K ks ∧ RdK wr B K' ks) (fun i _ => n - (intOf i).toNat)
  case atStart => exact ⟨0, by omega, rfl, Below.refl _ _, HK.out, HK'.out⟩
  case round =>
    obtain ⟨k, hk, rfl, hb, hr, hr'⟩ := hrel
    by_cases hlt : k < n
    · have hkl : k < ks.length := by have := HN.out; omega
      have h1 := Lib.hid hr
      have h2 := Lib.hid hr'
      rcases hr with hnil | ⟨g, o, rfl, hg, hcell⟩
      · rw [hnil] at hkl; simp at hkl
      rcases hr' with hnil | ⟨g', o', rfl, hg', hcell'⟩
      · rw [hnil] at hkl; simp at hkl
      obtain ⟨a, ca, hc1, hc2, hc3⟩ := hcell k hkl
      obtain ⟨a', ca', hd1, hd2, hd3⟩ := hcell' k hkl
      obtain ⟨key, hkey⟩ : ∃ key, key = ks[k] := ⟨_, rfl⟩
      rw [← hkey] at hc1 hc2 hd1 hd2 hc3
      have q1 := fun N => str_of (Rd.drewN hc2 N) ca
      have q2 := fun N => str_of (Rd.drewN hd2 N) ca'
      obtain ⟨m, hm⟩ : ∃ m, m = key.length := ⟨_, rfl⟩
      rw [← hm] at hc1 hd1 hc3 q1 q2
      clear hcell hcell' hkey hc2 hd2 hm hd3
      go_wp2_with fail
      go_quiet (fail)
      go_wp2
      go_roundw
      case rel => exact ⟨k + 1, by omega, by go_num, below_drewN hb _, h1.out.below (below_drewN (Below.refl _ _) _), h2.out.below (below_drewN (Below.refl _ _) _)⟩
      case measure => simp [intOf]; omega
    · go_wp2
      go_ret
      exact ⟨rfl, hb⟩
end Go.Proofs.Ytogfojohflkdnaa
