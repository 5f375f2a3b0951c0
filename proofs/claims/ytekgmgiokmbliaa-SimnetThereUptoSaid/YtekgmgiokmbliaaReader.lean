/-
  The reader of the program: byte.
-/
import Derived.Test.YtekgmgiokmbliaaVar
import Derived.Test.YtekgmgiokmbliaaCell
set_option linter.unusedVariables false
namespace Go.Proofs.Ytekgmgiokmbliaa
open Go.RowKit

/-- what a reader has: the bytes that are left, whether they ended too early -/
abbrev RS := List UInt8 × Bool
def rbyte : RS → Nat × RS
  | ([], _) => (0, ([], true))
  | (c :: r, b) => (c.toNat, (r, b))
/-- a reader in memory: block g; its bytes lie in blocks below B, and not in g -/
structure RdrAt (w : World) (g B : Nat) (s : RS) : Prop where
  at_ : ∃ A c, Cell w g 0 (.slice A s.1.length c) ∧ s.1.length ≤ c ∧ c ≤ 9223372036854775807 ∧ Rd w B A s.1 ∧ (A = none → c = 0)
  bad : Cell w g 1 (.bool s.2)
  hB : B ≤ g
theorem Rd.only {w w' : World} {B g : Nat} {A : Option Addr} {l : List UInt8} (h : Rd w B A l) (ho : Only g w w') (hB : B ≤ g) (hg : g < w.heap.size) : Rd w' B A l := by
  rcases h with h | ⟨q, o, e, hq, hc⟩
  · exact .inl h
  · exact .inr ⟨q, o, e, hq, fun i hi => cell_only (hc i hi) ho (show q ≠ g by omega)⟩
theorem RdrAt.below {w w' : World} {g B : Nat} {s : RS} (h : RdrAt w g B s) (hb : Below w.heap.size w w') : RdrAt w' g B s := by
  obtain ⟨A, c, hc, h1, h2, hr, hA⟩ := h.at_
  have := hc.lt
  exact ⟨⟨A, c, hc.keep hb, h1, h2, hr.below (hb.mono (by have := h.hB; omega)), hA⟩, h.bad.keep hb, h.hB⟩

set_option maxHeartbeats 1600000 in
set_option maxRecDepth 100000 in
theorem dbyte_any (g B : Nat) (s : RS) (w : World) (h : RdrAt w g B s) :
    Calls Try.prog 63 #[.pointer (some ⟨g, 0, none⟩)] w fun e w' => e = .returned (.int .i64 (rbyte s).1) ∧ RdrAt w' g B (rbyte s).2 ∧ Only g w w' := by
  obtain ⟨l, b⟩ := s
  obtain ⟨A, c, hc0, hlc, hcm, hrd, hnil⟩ := h.at_
  have hc1 := h.bad
  have hB := h.hB
  simp only at hc0 hlc hrd hc1
  cases l with
  | nil =>
    have R1 := hc1.set (.bool true)
    have R0 := hc0.far (p := ⟨g, 1, none⟩) (by simp) (.bool true)
    have O1 := (Only.refl g w).set1 1 (.bool true)
    have HF : Hid (RdrAt (w.setCell ⟨g, 1, none⟩ (.bool true)) g B ([], true) ∧ Only g w (w.setCell ⟨g, 1, none⟩ (.bool true))) := ⟨⟨⟨A, c, R0, by simp, hcm, .inl rfl, hnil⟩, R1, hB⟩, O1⟩
    obtain ⟨k0, f0⟩ := hc0
    obtain ⟨k1, f1⟩ := hc1
    simp only [List.length_nil] at k0
    clear h R1 R0 O1 hrd
    go_enter Try.func63, Try.ntmps63
    go_wp2
    go_ret
    exact ⟨rfl, HF.out.1, HF.out.2⟩
  | cons x r =>
    have hlen : (x :: r).length ≤ c := hlc
    rcases hrd with h0 | ⟨q, o, rfl, hq, hcell⟩
    · cases h0
    have d0 := hcell 0 (by simp)
    simp only [List.getElem_cons_zero, Nat.add_zero] at d0
    replace d0 : w.cell? ⟨q, o, none⟩ = some (.int .u8 (x.toNat : Int)) := d0
    have xlt : ((x.toNat : Nat) : Int) < 256 := by have := x.toNat_lt; omega
    have hwr : IntKind.i64.wrap ((x.toNat : Nat) : Int) = ((x.toNat : Nat) : Int) := IntWalk.i64_in _ (by omega)
    have hr1 : Rd w B (some ⟨q, o + 1, none⟩) r := .inr ⟨q, o + 1, rfl, hq, fun i hi => by
      have := hcell (i + 1) (by simp; omega)
      rw [Nat.add_assoc, Nat.add_comm 1 i]
      simpa using this⟩
    obtain ⟨n, hn⟩ : ∃ n, n = (x :: r).length := ⟨_, rfl⟩
    have hnr : n - 1 = r.length := by rw [hn]; simp
    rw [← hn] at hc0 hlen
    have h1n : 1 ≤ n := by rw [hn]; simp
    have hne : ((n : Int) == 0) = false := by rw [beq_eq_false_iff_ne]; omega
    have hpos : (0 : Int) < (n : Int) := by omega
    have fin : Hid (∀ A', (Rd w B A' r) → (A' = none → c - 1 = 0) → RdrAt (w.setCell ⟨g, 0, none⟩ (.slice A' (n - 1) (c - 1))) g B (r, b) ∧ Only g w (w.setCell ⟨g, 0, none⟩ (.slice A' (n - 1) (c - 1)))) := by
      intro A' hr' hA'
      have R0 := hc0.set (.slice A' (n - 1) (c - 1))
      have R1 := hc1.far (p := ⟨g, 0, none⟩) (by simp) (.slice A' (n - 1) (c - 1))
      have O1 := (Only.refl g w).set1 0 (.slice A' (n - 1) (c - 1))
      exact ⟨⟨⟨A', c - 1, by rw [← hnr]; exact R0, by simp only; omega, by omega, hr'.only O1 hB hc0.lt, hA'⟩, R1, hB⟩, O1⟩
    obtain ⟨k0, f0⟩ := hc0
    by_cases hcc : c = 1
    · subst hcc
      have hr0 : r = [] := List.eq_nil_of_length_eq_zero (by omega)
      have HF := Lib.hid (fin.out (some ⟨q, o, none⟩) (.inl hr0) (fun h => nomatch h))
      have h11 : n = 1 := by omega
      subst h11
      clear h hcell hr1 hn hnr hc1 hlc fin
      go_enter Try.func63, Try.ntmps63
      go_wp2
      go_ret
      exact ⟨rfl, HF.out.1, HF.out.2⟩
    · have HF := Lib.hid (fin.out (some ⟨q, o + 1, none⟩) hr1 (fun h => nomatch h))
      clear h hcell hr1 hn hnr hc1 hlc fin
      go_enter Try.func63, Try.ntmps63
      go_wp2
      go_ret
      exact ⟨rfl, HF.out.1, HF.out.2⟩
end Go.Proofs.Ytekgmgiokmbliaa
