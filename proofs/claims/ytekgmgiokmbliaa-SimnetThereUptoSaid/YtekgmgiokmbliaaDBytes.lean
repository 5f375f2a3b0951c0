/-
  The reader of the program: bytes.
-/
import Derived.Test.YtekgmgiokmbliaaCount
import Derived.Test.YtekgmgiokmbliaaClone
set_option linter.unusedVariables false
namespace Go.Proofs.Ytekgmgiokmbliaa
open Go.RowKit

def rbytes (s : RS) : List UInt8 × RS := if (rcount s).2.1.length < (rcount s).1 then ([], ((rcount s).2.1, true)) else ((rcount s).2.1.take (rcount s).1, ((rcount s).2.1.drop (rcount s).1, (rcount s).2.2))
/-- bytes that lie apart from the reader -/
structure RdN (w : World) (g : Nat) (A : Option Addr) (l : List UInt8) : Prop where
  rd : Rd w w.heap.size A l
  ne : ∀ q o, A = some ⟨q, o, none⟩ → l ≠ [] → q ≠ g
theorem RdN.nil_ (w : World) (g : Nat) (A : Option Addr) : RdN w g A [] := ⟨.inl rfl, fun _ _ _ h => absurd rfl h⟩
theorem RdN.only {w w' : World} {g : Nat} {A : Option Addr} {l : List UInt8} (h : RdN w g A l) (ho : Only g w w') : RdN w' g A l := by
  refine ⟨?_, h.ne⟩
  rcases h.rd with h0 | ⟨q, o, e, hq, hc⟩
  · exact .inl h0
  · by_cases h0 : l = []
    · exact .inl h0
    · exact .inr ⟨q, o, e, Nat.lt_of_lt_of_le hq ho.size, fun i hi => cell_only (hc i hi) ho (h.ne q o e h0)⟩
theorem rcount_len (s : RS) : (rcount s).2.1.length ≤ s.1.length := by
  have hb : ∀ s : RS, (rbyte s).2.1.length ≤ s.1.length := fun s => by
    obtain ⟨l, b⟩ := s
    cases l <;> simp [rbyte]
  have : ∀ f k N s, (rcF f k N s).2.1.length ≤ s.1.length := by
    intro f
    induction f with
    | zero => intro k N s; exact Nat.le_refl _
    | succ f ih =>
      intro k N s
      rw [rcF]
      split
      · exact hb s
      · exact Nat.le_trans (ih _ _ _) (hb s)
  exact this 8 0 0 s
theorem rcount_lt (s : RS) : (rcount s).1 < 2 ^ 56 := by
  have : ∀ f k N s, f + k ≤ 8 → N < 2 ^ (7 * k) → (rcF f k N s).1 < 2 ^ 56 := by
    intro f
    induction f with
    | zero => intro k N s _ _; show 0 < _; decide
    | succ f ih =>
      intro k N s hk hN
      rw [rcF]
      split
      · next h =>
        have := growC hN h
        exact Nat.lt_of_lt_of_le this (Nat.pow_le_pow_right (by decide) (by omega))
      · exact ih _ _ _ (by omega) (growC hN (by have := rbyte_lt s; omega))
  exact this 8 0 0 s (by omega) (by decide)

/-- b[k:], and where it begins -/
theorem cut1_at {W : World} {B : Nat} {A : Option Addr} {l : List UInt8} {n c k : Nat} (hn : n = l.length) (hr : Rd W B A l) (hk : k ≤ l.length) (hc : l.length ≤ c) (hA : A = none → c = 0) :
    ∃ A', (∀ W' : World, (Instr.slice 30 (.slice A n c) (some (.int .i64 (k : Int))) none none).run Try.prog W' = .ok (.slice A' (n - k) (c - k)) W') ∧ Rd W B A' (l.drop k) ∧ (A' = none → c - k = 0) := by
  obtain ⟨i0, hi0, hz0, hz1, hz2⟩ := info_parts info8
  have hu : Try.prog.underlying 30 = some (.slice (Try.prog.elem 30)) := by simp [Program.elem, Try.underlying30]
  have hel : Try.prog.elem 30 = 5 := by simp [Program.elem, Try.underlying30]
  refine ⟨if c = k then A else A.map (·.add (k * 1)), fun W' => ?_, ?_, ?_⟩
  · rw [run_slice_l W' 30 A n c hu .i64 (k : Int) (by omega) (by omega), hel]
    have hs : (Go.sizeOf 5).run Try.prog W' = .ok 1 W' := by simp [Go.sizeOf, typeInfo, hi0, hz1]
    rw [hs]
    simp [sliced, Result.andThen]
  · by_cases h0 : k = l.length
    · exact .inl (by rw [h0]; simp)
    · rcases hr with rfl | ⟨g, o, rfl, hg, hcell⟩
      · simp at hk; simp at h0; omega
      · rw [if_neg (by omega)]
        refine .inr ⟨g, o + k, by simp [add_at], hg, fun i hi => ?_⟩
        have hi' : k + i < l.length := by simp at hi; omega
        rw [Nat.add_assoc, hcell (k + i) hi']
        simp
  · intro h
    by_cases hck : c = k
    · omega
    · rw [if_neg hck] at h
      cases A with
      | none => have := hA rfl; omega
      | some a => cases h

set_option maxHeartbeats 1600000 in
set_option maxRecDepth 100000 in
theorem dbytes_any (g B : Nat) (s : RS) (w : World) (h : RdrAt w g B s) (hl : s.1.length ≤ 140737488351232) :
    Calls Try.prog 67 #[.pointer (some ⟨g, 0, none⟩)] w fun e w' => ∃ A c, e = .returned (.slice A (rbytes s).1.length c) ∧ RdN w' g A (rbytes s).1 ∧ RdrAt w' g B (rbytes s).2 ∧ Only g w w' ∧ ∀ q o, A = some ⟨q, o, none⟩ → (rbytes s).1 ≠ [] → w.heap.size ≤ q := by
  have CO := Lib.hid (dcount_any g B s w h)
  have HB := Lib.hid h.hB
  have hlen := rcount_len s
  have hlt := rcount_lt s
  have HBY : Hid (rbytes s = if (rcount s).2.1.length < (rcount s).1 then ([], ((rcount s).2.1, true)) else ((rcount s).2.1.take (rcount s).1, ((rcount s).2.1.drop (rcount s).1, (rcount s).2.2))) := rfl
  obtain ⟨n, hn⟩ : ∃ n, n = (rcount s).1 := ⟨_, rfl⟩
  obtain ⟨t, ht⟩ : ∃ t, t = (rcount s).2 := ⟨_, rfl⟩
  replace CO := CO.out
  replace HBY := HBY.out
  rw [← hn, ← ht] at CO HBY
  rw [← ht] at hlen
  rw [← hn] at hlt
  replace CO := Lib.hid CO
  replace HBY := Lib.hid HBY
  obtain ⟨l, b⟩ := t
  simp only at hlen
  have hll : l.length ≤ 140737488351232 := by omega
  clear h hn ht hlen hl
  go_enter Try.func67, Try.ntmps67
  go_wp2_with fail
  refine CO.out.mono ?_
  rintro e w2 ⟨rfl, R2, O2⟩
  obtain ⟨A, c, hc0, hlc, hcm, hrd, hnil⟩ := R2.at_
  have hc1 := R2.bad
  simp only at hc0 hlc hrd hc1
  have HR2 := Lib.hid R2
  have HO2 := Lib.hid O2
  by_cases hgt : l.length < n
  · have HF : Hid (RdrAt (w2.setCell ⟨g, 1, none⟩ (.bool true)) g B (l, true) ∧ Only g w (w2.setCell ⟨g, 1, none⟩ (.bool true))) := ⟨HR2.out.set_bad, HO2.out.set1 1 _⟩
    obtain ⟨k0, f0⟩ := hc0
    obtain ⟨k1, f1⟩ := hc1
    clear R2 O2
    go_wp2
    go_ret
    rw [HBY.out, if_pos hgt]
    exact ⟨none, 0, rfl, RdN.nil_ _ _ _, HF.out.1, HF.out.2, fun _ _ h => nomatch h⟩
  · have hnl : n ≤ l.length := by omega
    have hnc : n ≤ c := by omega
    have hr0 : Rd w2 w2.heap.size A (l.take n) := rd_take (hrd.more (by have := hc0.lt; have := HB.out; omega)) n
    have SC := Lib.hid (sclone_any A n c (l.take n) w2 (by rw [List.length_take]; omega) hr0 (by rw [List.length_take]; omega) hnil)
    obtain ⟨m, hm⟩ : ∃ m, m = l.length := ⟨_, rfl⟩
    rw [← hm] at hc0 hnl
    have hgw := hc0.lt
    obtain ⟨k0, f0⟩ := hc0
    clear R2 O2 hrd hr0
    go_wp2_with fail
    refine SC.out.mono ?_
    rintro e w3 ⟨v, rfl, o3, h3⟩
    obtain ⟨vA, vc, rfl, hrv⟩ := o3.rd
    have R3 := HR2.out.below h3
    obtain ⟨A3, c3, hc3, hl3, hm3, hrd3, hnil3⟩ := R3.at_
    simp only at hc3 hl3 hrd3
    have hk := (hc3.1.symm.trans (h3.cell (p := ⟨g, 0, none⟩) hgw)).trans k0
    injection hk with hk
    injection hk with hkA hkn hkc
    subst hkA hkc
    obtain ⟨A', hrun, hr', hAn⟩ := cut1_at (k := n) rfl hrd3 (by omega) hl3 hnil3
    have R0 := hc3.set (.slice A' (l.length - n) (c3 - n))
    have R1 := R3.bad.far (p := ⟨g, 0, none⟩) (by simp) (.slice A' (l.length - n) (c3 - n))
    have O3 := (HO2.out.then (h3.mono HO2.out.size)).set1 0 (.slice A' (l.length - n) (c3 - n))
    have O1 := (Only.refl g w3).set1 0 (.slice A' (l.length - n) (c3 - n))
    have HF : Hid (RdN (w3.setCell ⟨g, 0, none⟩ (.slice A' (l.length - n) (c3 - n))) g vA (l.take n) ∧ RdrAt (w3.setCell ⟨g, 0, none⟩ (.slice A' (l.length - n) (c3 - n))) g B (l.drop n, b) ∧ Only g w (w3.setCell ⟨g, 0, none⟩ (.slice A' (l.length - n) (c3 - n)))) := by
      refine ⟨RdN.only ⟨hrv, fun q o e h0 => ?_⟩ O1, ⟨⟨A', c3 - n, by simp only [List.length_drop]; exact R0, by simp only [List.length_drop]; omega, by omega, hr'.only O1 HB.out hc3.lt, hAn⟩, R1, HB.out⟩, O3⟩
      have hq := (World.ownsRow.lt o3 q (by rw [e]; rfl)).1
      omega
    replace HF := HF.out
    rw [← hm] at HF hrun hc3
    replace HF := Lib.hid HF
    obtain ⟨k3, f3⟩ := hc3
    obtain ⟨j, hj⟩ : ∃ j, j = (l.take n).length := ⟨_, rfl⟩
    have HJ := Lib.hid hj
    rw [← hj]
    have HFr : Hid (∀ q o, vA = some ⟨q, o, none⟩ → l.take n ≠ [] → w.heap.size ≤ q) := fun q o e _ => Nat.le_trans HO2.out.size (World.ownsRow.lt o3 q (by rw [e]; rfl)).1
    have HGT := Lib.hid hgt
    clear o3 hrv R3 hrd3 hr' hAn R0 R1 O3 O1 hj SC k0 f0 h3 hnil hnil3 hgt hm hlc hl3
    go_wp2
    go_ret
    rw [HBY.out, if_neg HGT.out]
    exact ⟨vA, vc, by rw [HJ.out]; rfl, HF.out.1, HF.out.2.1, HF.out.2.2, HFr.out⟩
end Go.Proofs.Ytekgmgiokmbliaa
