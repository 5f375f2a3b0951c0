/-
  The reference's SameOps of two lists that are the same.
-/
import Derived.Test.YtfnifpgaieggbaaDoorOps
set_option linter.unusedVariables false
namespace Go.Proofs.YtfnifpgaieggbaaDoor
open Go.RowKit

set_option maxHeartbeats 3200000 in
set_option maxRecDepth 100000 in
theorem sameops_yes (l : List OpD) (A1 A2 : Option Addr) (c1 c2 : Nat) (w : World) (h1 : OpsRd w w.heap.size A1 l) (h2 : OpsRd w w.heap.size A2 l) (hl : l.length ≤ 2513169434843) :
    Calls Tryd.prog 22 #[.slice A1 l.length c1, .slice A2 l.length c2] w fun e w' => e = .returned (.bool true) ∧ Below w.heap.size w w' := by
  have HAt : ∀ A, OpsRd w w.heap.size A l → Hid (∀ k (hk : k < l.length), ∃ q o, A = some ⟨q, o, none⟩ ∧ ∃ K kc V vc, w.cell? ⟨q, o + k * 3, none⟩ = some (.bool l[k].del) ∧ w.cell? ⟨q, o + k * 3 + 1, none⟩ = some (.slice K l[k].key.length kc) ∧ w.cell? ⟨q, o + k * 3 + 2, none⟩ = some (.slice V l[k].val.length vc) ∧ Rd w w.heap.size K l[k].key ∧ Rd w w.heap.size V l[k].val) := fun A h k hk => by
    rcases h with h | ⟨q, o, hA, _, hc⟩
    · rw [h] at hk; simp at hk
    · exact ⟨q, o, hA, hc k hk⟩
  have H1 := HAt A1 h1
  have H2 := HAt A2 h2
  obtain ⟨n, hn⟩ : ∃ n, n = l.length := ⟨_, rfl⟩
  have HN := Lib.hid hn
  rw [← hn] at hl
  rw [← hn]
  clear h1 h2 hn HAt
  go_enter Tryd.func22, Tryd.ntmps22
  go_wp2
  go_loopw [5] (fun s5 wr => ∃ k : Nat, s5 = .int .i64 k ∧ k ≤ n ∧ Below w.heap.size w wr ∧ ∃ d, wr = w.drewN d) (fun s5 _ => n - (intOf s5).toNat)
  case atStart => exact ⟨0, rfl, by omega, Below.refl _ _, 0, rfl⟩
  case round =>
    obtain ⟨k, rfl, hk, hb, d, rfl⟩ := hrel
    by_cases hlt : k < n
    · have hkl : k < l.length := by have := HN.out; omega
      obtain ⟨q1, o1, rfl, K1, k1, V1, v1, a0, a1, a2, r1, s1⟩ := H1.out k hkl
      obtain ⟨q2, o2, rfl, K2, k2, V2, v2, b0, b1, b2, r2, s2⟩ := H2.out k hkl
      obtain ⟨y, hy⟩ : ∃ y, y = l[k] := ⟨_, rfl⟩
      rw [← hy] at a0 a1 a2 b0 b1 b2 r1 r2 s1 s2
      clear hy
      obtain ⟨yd, yk, yv⟩ := y
      simp only at a0 a1 a2 b0 b1 b2 r1 r2 s1 s2
      have t1 := fun N => str_of (w := w.drewN N) (B := w.heap.size) (A := K1) (l := yk) r1 k1
      have t2 := fun N => str_of (w := w.drewN N) (B := w.heap.size) (A := K2) (l := yk) r2 k2
      have u1 := fun N => str_of (w := w.drewN N) (B := w.heap.size) (A := V1) (l := yv) s1 v1
      have u2 := fun N => str_of (w := w.drewN N) (B := w.heap.size) (A := V2) (l := yv) s2 v2
      obtain ⟨m, hm⟩ : ∃ m, m = yk.length := ⟨_, rfl⟩
      obtain ⟨z, hz⟩ : ∃ z, z = yv.length := ⟨_, rfl⟩
      rw [← hm] at a1 b1 t1 t2
      rw [← hz] at a2 b2 u1 u2
      clear hm hz r1 r2 s1 s2
      have x0 : (w.drewN d).cell? ⟨q1, o1 + k * 3, none⟩ = some (.bool yd) := a0
      have x1 : (w.drewN d).cell? ⟨q1, o1 + k * 3 + 1, none⟩ = some (.slice K1 m k1) := a1
      have x2 : (w.drewN d).cell? ⟨q1, o1 + k * 3 + 2, none⟩ = some (.slice V1 z v1) := a2
      have y0 : (w.drewN d).cell? ⟨q2, o2 + k * 3, none⟩ = some (.bool yd) := b0
      have y1 : (w.drewN d).cell? ⟨q2, o2 + k * 3 + 1, none⟩ = some (.slice K2 m k2) := b1
      have y2 : (w.drewN d).cell? ⟨q2, o2 + k * 3 + 2, none⟩ = some (.slice V2 z v2) := b2
      have i1 : (k : Int) < (n : Int) := by omega
      go_wp2
      go_quiet (fail)
      go_wp2
      go_roundw
      case rel => exact ⟨k + 1, by go_num, by omega, below_drewN (Below.refl _ _) _, d + nq, by simp⟩
      case measure => simp [intOf]; omega
    · have hkn : k = n := by omega
      subst hkn
      go_wp2
      go_ret
      exact ⟨rfl, hb⟩
end Go.Proofs.YtfnifpgaieggbaaDoor
