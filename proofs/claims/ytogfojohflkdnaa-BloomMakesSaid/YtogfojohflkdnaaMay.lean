/-
  The contract of bloom.May.
-/
import Derived.Test.YtogfojohflkdnaaProbe
namespace Go.Proofs.Ytogfojohflkdnaa
open Go.RowKit

def mayB (l key : List UInt8) : Bool :=
  if l.length < 9 ∨ l.length % 8 ≠ 1 ∨ at8 l 0 < 1 ∨ 30 < at8 l 0 then true else askN (at8 l 0) (hash key) (step (hash key)) ((l.length - 1) * 8) l

set_option maxHeartbeats 800000 in
set_option maxRecDepth 100000 in
theorem may_any (F : Option Addr) (c B : Nat) (l : List UInt8) (A : Option Addr) (cc : Nat) (key : List UInt8) (w : World) (hf : Rd w B F l) (hk : Rd w B A key) (hM : l.length ≤ 140737488355327) (hkl : key.length ≤ 9223372036854775807) :
    Calls Try.prog 16 #[.slice F l.length c, .slice A key.length cc] w fun e w' => e = .returned (.bool (mayB l key)) ∧ w = w' := by
  unfold mayB
  by_cases h1 : l.length < 9
  · rw [if_pos (.inl h1)]
    go_enter Try.func16, Try.ntmps16
    go_wp2
    go_ret
    exact ⟨rfl, rfl⟩
  · have HP := Lib.hid (fun N (hl : l.length = N + 1) => probe_see F N c B l A cc key w hf hl hk (by omega) (by omega) hkl)
    rcases hf with h | ⟨g, o, rfl, hg, hcell⟩
    · rw [h] at h1; simp at h1
    have c0 := rd_at8 hcell (i := 0) (by omega)
    rw [Nat.add_zero] at c0
    obtain ⟨P, hP⟩ : ∃ P, P = at8 l 0 := ⟨_, rfl⟩
    rw [← hP] at HP c0
    rw [← hP]
    clear hP hcell
    by_cases h2 : l.length % 8 = 1
    · have h2d : ((l.length : Int) % 8 != 1) = false := by rw [bne_eq_false_iff_eq]; omega
      by_cases h3 : P < 1
      · rw [if_pos (.inr (.inr (.inl h3)))]
        go_enter Try.func16, Try.ntmps16
        go_wp2
        go_ret
        exact ⟨rfl, rfl⟩
      · by_cases h4 : 30 < P
        · rw [if_pos (.inr (.inr (.inr h4)))]
          go_enter Try.func16, Try.ntmps16
          go_wp2
          go_ret
          exact ⟨rfl, rfl⟩
        · rw [if_neg (by omega)]
          obtain ⟨N, hN⟩ : ∃ N, l.length = N + 1 := ⟨l.length - 1, by omega⟩
          have HQ := HP.out N hN
          have e : l.length - 1 = N := by omega
          rw [e]
          have H := Lib.hid HQ
          have h2e : (((N : Int) + 1) % 8 != 1) = false := by rw [bne_eq_false_iff_eq]; omega
          rw [hN] at h1
          rw [hN]
          clear HP HQ e h2 hN h2d
          go_enter Try.func16, Try.ntmps16
          go_wp2_with (go_at_call 18; refine H.out.mono ?_; rintro e w1 ⟨rfl, rfl⟩)
          go_ret
          exact ⟨rfl, rfl⟩
    · have h2d : ((l.length : Int) % 8 != 1) = true := by rw [bne_iff_ne]; omega
      rw [if_pos (.inr (.inl h2))]
      clear h2
      go_enter Try.func16, Try.ntmps16
      go_wp2
      go_ret
      exact ⟨rfl, rfl⟩
end Go.Proofs.Ytogfojohflkdnaa
