/-
  The reference's reader: Text.
-/
import Derived.Test.YtekgmgiokmbliaaXVar
import Derived.Test.YtekgmgiokmbliaaEnc
set_option linter.unusedVariables false
namespace Go.Proofs.Ytekgmgiokmbliaa
open Go.RowKit

set_option maxHeartbeats 3200000 in
set_option maxRecDepth 100000 in
theorem xtext_any (g B : Nat) (s : RS) (w : World) (h : XRdr w g B s) :
    Calls Try.prog 50 #[.pointer (some ⟨g, 0, none⟩)] w fun e w' => ∃ A c, e = .returned (.slice A (xtext s).1.length c) ∧ RdN w' g A (xtext s).1 ∧ XRdr w' g B (xtext s).2 ∧ Only g w w' ∧ ∀ q o, A = some ⟨q, o, none⟩ → (xtext s).1 ≠ [] → w.heap.size ≤ q := by
  have CO := Lib.hid (xcount_any g B s w h)
  have HB := Lib.hid h.hB
  have hlt := xcount_lt s
  have HBY : Hid (xtext s = if (xcount s).2.2 = true ∨ (xcount s).2.1.length < (xcount s).1 then ([], ((xcount s).2.1, true)) else ((xcount s).2.1.take (xcount s).1, ((xcount s).2.1.drop (xcount s).1, false))) := rfl
  obtain ⟨n, hn⟩ : ∃ n, n = (xcount s).1 := ⟨_, rfl⟩
  obtain ⟨t, ht⟩ : ∃ t, t = (xcount s).2 := ⟨_, rfl⟩
  replace CO := CO.out
  replace HBY := HBY.out
  rw [← hn, ← ht] at CO HBY
  rw [← hn] at hlt
  replace CO := Lib.hid CO
  replace HBY := Lib.hid HBY
  obtain ⟨l, b⟩ := t
  clear h hn ht
  go_enter Try.func50, Try.ntmps50
  go_wp2_with fail
  refine CO.out.mono ?_
  rintro e w2 ⟨rfl, R2, O2⟩
  have HR2 := Lib.hid R2
  have HO2 := Lib.hid O2
  obtain ⟨A, L, c, p, hc0, hc1, hp, hl, hL, hcc, hrd⟩ := R2.at_
  have hc2 := R2.bad
  simp only at hl hc2 HBY
  have bad : ∀ N, Hid (XRdr ((w2.drewN N).setCell ⟨g, 2, none⟩ (.bool true)) g B (l, true) ∧ Only g w ((w2.drewN N).setCell ⟨g, 2, none⟩ (.bool true))) := fun N => ⟨(HR2.out.drewN N).set_bad, (HO2.out.drewN N).set1 2 _⟩
  have hll : l.length = L.length - p := by rw [hl]; simp
  obtain ⟨m, hm⟩ : ∃ m, m = L.length := ⟨_, rfl⟩
  rw [← hm] at hc0 hp hL hcc hll
  cases b with
  | true =>
    have HF1 : Hid (xtext s = ([], (l, true))) := by show _ = _; rw [HBY.out, if_pos (.inl rfl)]
    obtain ⟨k2, f2⟩ := hc2
    clear R2 O2 hc0 hc1 hrd HBY hl
    go_wp2
    go_quiet (fail)
    have g2 : (w2.drewN nq).cell? ⟨g, 2, none⟩ = some (.bool true) := k2
    have e2 : (w2.drewN nq).frozen? ⟨g, 2, none⟩ = false := f2
    have HF := bad nq
    obtain ⟨wd, hwd⟩ : ∃ x, x = w2.drewN nq := ⟨_, rfl⟩
    rw [← hwd] at g2 e2 HF
    rw [← hwd]
    clear hwd k2 f2 bad
    go_wp2
    go_ret
    rw [HF1.out]
    exact ⟨none, 0, rfl, RdN.nil_ _ _ _, HF.out.1, HF.out.2, fun _ _ h => nomatch h⟩
  | false =>
    have hsub : ((m : Nat) : Int) - (p : Int) = ((l.length : Nat) : Int) := by omega
    obtain ⟨ll, hll'⟩ : ∃ x, x = l.length := ⟨_, rfl⟩
    rw [← hll'] at hsub hll
    by_cases hgt : ll < n
    · have HF1 : Hid (xtext s = ([], (l, true))) := by show _ = _; rw [HBY.out, if_pos (.inr (by rw [← hll']; exact hgt))]
      have hg1 : (ll : Int) < (n : Int) := by omega
      obtain ⟨k0, f0⟩ := hc0
      obtain ⟨k1, f1⟩ := hc1
      obtain ⟨k2, f2⟩ := hc2
      clear R2 O2 hrd HBY hl hll' hll
      go_wp2
      go_quiet (fail)
      have g2 : (w2.drewN nq).cell? ⟨g, 2, none⟩ = some (.bool false) := k2
      have e2 : (w2.drewN nq).frozen? ⟨g, 2, none⟩ = false := f2
      have HF := bad nq
      obtain ⟨wd, hwd⟩ : ∃ x, x = w2.drewN nq := ⟨_, rfl⟩
      rw [← hwd] at g2 e2 HF
      rw [← hwd]
      clear hwd k2 f2 bad k0 k1 f0 f1
      go_wp2
      go_ret
      rw [HF1.out]
      exact ⟨none, 0, rfl, RdN.nil_ _ _ _, HF.out.1, HF.out.2, fun _ _ h => nomatch h⟩
    · have HF1 : Hid (xtext s = (l.take n, (l.drop n, false))) := by show _ = _; rw [HBY.out, if_neg (fun h => h.elim (fun h => nomatch h) (fun h => by omega))]
      obtain ⟨A', hrun, hr'⟩ := cut_run (c := c) (k := p) (e := p + n) hm hrd (by omega) (by omega) (by omega)
      obtain ⟨pe, hpe⟩ : ∃ x, x = p + n := ⟨_, rfl⟩
      have hpn : pe - p = n := by omega
      rw [← hpe, hpn] at hrun
      replace hr' : Rd w2 B A' (l.take n) := by rw [hl]; rw [show p + n - p = n by omega] at hr'; exact hr'
      have hpe1 : (p : Int) + (n : Int) = (pe : Int) := by omega
      have hpw : IntKind.i64.wrap ((p : Nat) : Int) = (p : Int) := IntWalk.i64_in _ (by omega)
      have hpe3 : (pe : Int) - (n : Int) = (p : Int) := by omega
      have hle : decide ((ll : Int) < (n : Int)) = false := by simp; omega
      have hgw := hc0.lt
      have hfin : ∀ N, Hid (XRdr ((w2.drewN N).setCell ⟨g, 1, none⟩ (.int .i64 (pe : Int))) g B (l.drop n, false) ∧ Only g w ((w2.drewN N).setCell ⟨g, 1, none⟩ (.int .i64 (pe : Int))) ∧ Rd ((w2.drewN N).setCell ⟨g, 1, none⟩ (.int .i64 (pe : Int))) B A' (l.take n)) := fun N => by
        have hw := Lib.hid (below_toN (Below.refl w2.heap.size w2) N)
        have O1 := (Only.refl g (w2.drewN N)).set1 1 (.int .i64 (pe : Int))
        have hg' : g < (w2.drewN N).heap.size := hgw
        refine ⟨⟨⟨A, L, c, pe, by rw [← hm]; exact (hc0.keep hw.out).far (by simp) _, (hc1.keep hw.out).set _, by omega, by rw [hl, List.drop_drop, hpe], by omega, by omega, (hrd.drewN N).only O1 HB.out hg'⟩, (hc2.keep hw.out).far (by simp) _, HB.out⟩, (HO2.out.drewN N).set1 1 _, (hr'.drewN N).only O1 HB.out hg'⟩
      have K0 := hc0
      have K1 := hc1
      obtain ⟨k0, f0⟩ := hc0
      obtain ⟨k1, f1⟩ := hc1
      obtain ⟨k2, f2⟩ := hc2
      have hnl : Hid ((l.take n).length = n) := by show _ = _; rw [List.length_take]; omega
      clear R2 O2 hrd HBY hl hll' hll hr' bad hpe hpn hm
      go_wp2
      go_quiet (fail)
      have hw := Lib.hid (below_toN (Below.refl w2.heap.size w2) nq)
      have g1 : (w2.drewN nq).cell? ⟨g, 1, none⟩ = some (.int .i64 (p : Int)) := k1
      have e1 : (w2.drewN nq).frozen? ⟨g, 1, none⟩ = false := f1
      have HF := hfin nq
      have F0 := (K0.keep hw.out).far (p := ⟨g, 1, none⟩) (by simp) (.int .i64 (pe : Int))
      have F1 := (K1.keep hw.out).set (.int .i64 (pe : Int))
      obtain ⟨wd, hwd⟩ : ∃ x, x = w2.drewN nq := ⟨_, rfl⟩
      rw [← hwd] at g1 e1 F0 F1 HF
      rw [← hwd]
      clear hwd k0 f0 k1 f1 k2 f2 hfin K0 K1 hw
      go_wp2
      obtain ⟨we, hwe⟩ : ∃ x, x = wd.setCell ⟨g, 1, none⟩ (.int .i64 (pe : Int)) := ⟨_, rfl⟩
      rw [← hwe] at F0 F1 HF
      rw [← hwe]
      have hgwe := F0.lt
      have y0 := ((Below.refl we.heap.size we).alloc (Nat.le_refl _) (.cells #[] 5)).cell (p := ⟨g, 0, none⟩) hgwe
      have y1 := ((Below.refl we.heap.size we).alloc (Nat.le_refl _) (.cells #[] 5)).cell (p := ⟨g, 1, none⟩) hgwe
      obtain ⟨x0, _⟩ := F0
      obtain ⟨x1, _⟩ := F1
      rw [x0] at y0
      rw [x1] at y1
      have HY : Hid (Own (we.alloc (.cells #[] 5)).drew we.heap.size (.slice (some ⟨we.heap.size, 0, none⟩) 0 0) []) := World.ownsRow.drew (own_made we)
      have hBe : Hid (Below we.heap.size we (we.alloc (.cells #[] 5)).drew) := below_drew (below1' we _)
      have HRe : Hid (Rd (we.alloc (.cells #[] 5)).drew (we.alloc (.cells #[] 5)).drew.heap.size A' (l.take n)) := (HF.out.2.2.below (hBe.out.mono (by have := HB.out; omega))).more (by have := hBe.out.size; have := HB.out; omega)
      have hlen : Hid (([] : List UInt8).length + (l.take n).length ≤ 225179981368000) := by have := hnl.out; show _ ≤ _; simp only [List.length_nil]; omega
      clear hwe g1 e1
      go_wp2_with fail
      go_region_law (refine step_app_bytes (we.alloc (.cells #[] 5)).drew we.heap.size (.slice (some ⟨we.heap.size, 0, none⟩) 0 0) [] (l.take n) A' (c - p) n rfl (.tmp 36) (.tmp 51) rfl rfl rfl hnl.out.symm HY.out HRe.out hlen.out hBe.out.size ?_; intro v3 w3 o3 g3; have h3 := Lib.hid (hBe.out.trans (grown_below g3 HY.out (Nat.le_refl _) hBe.out.size)); rw [List.nil_append] at o3; have hn3 := Lib.hid o3)
      all_goals
        obtain ⟨A3, c3, rfl, hr3⟩ := hn3.out.rd
        have hfr : Hid (∀ q o, A3 = some ⟨q, o, none⟩ → we.heap.size ≤ q) := fun q o e => (World.ownsRow.lt hn3.out q (by rw [e]; rfl)).1
        have HE : Hid (RdN w3 g A3 (l.take n) ∧ XRdr w3 g B (l.drop n, false) ∧ Only g w w3 ∧ w.heap.size ≤ we.heap.size) := ⟨⟨hr3, fun q o e _ => by have := hfr.out q o e; omega⟩, HF.out.1.below h3.out, HF.out.2.1.then (h3.out.mono HF.out.2.1.size), HF.out.2.1.size⟩
        clear o3 g3 hr3 HY hBe HRe
        go_wp2
        go_ret
        rw [HF1.out]
        exact ⟨A3, c3, rfl, HE.out.1, HE.out.2.1, HE.out.2.2.1, fun q o e _ => Nat.le_trans HE.out.2.2.2 (hfr.out q o e)⟩
end Go.Proofs.Ytekgmgiokmbliaa
