/-
  The reference's reader in memory: Byte.
-/
import Derived.Test.YtekgmgiokmbliaaXRead
import Derived.BigQuiet
set_option linter.unusedVariables false
namespace Go.Proofs.Ytekgmgiokmbliaa
open Go.RowKit

/-- the reference's reader in memory: block g; its bytes lie in blocks below B -/
structure XRdr (w : World) (g B : Nat) (s : RS) : Prop where
  at_ : ∃ (A : Option Addr) (L : List UInt8) (c p : Nat), Cell w g 0 (.slice A L.length c) ∧ Cell w g 1 (.int .i64 (p : Int)) ∧ p ≤ L.length ∧ s.1 = L.drop p ∧ L.length ≤ 1048576 ∧ L.length ≤ c ∧ Rd w B A L
  bad : Cell w g 2 (.bool s.2)
  hB : B ≤ g
theorem XRdr.below {w w' : World} {g B : Nat} {s : RS} (h : XRdr w g B s) (hb : Below w.heap.size w w') : XRdr w' g B s := by
  obtain ⟨A, L, c, p, h0, h1, h2, h3, h4, h5, h6⟩ := h.at_
  have := h0.lt
  exact ⟨⟨A, L, c, p, h0.keep hb, h1.keep hb, h2, h3, h4, h5, h6.below (hb.mono (by have := h.hB; omega))⟩, h.bad.keep hb, h.hB⟩
theorem XRdr.drewN {w : World} {g B : Nat} {s : RS} (h : XRdr w g B s) (n : Nat) : XRdr (w.drewN n) g B s := h.below (below_toN (Below.refl _ _) n)
theorem Only.drewN {g : Nat} {a w : World} (h : Only g a w) (n : Nat) : Only g a (w.drewN n) := ⟨h.os, h.tape, h.output, h.size, h.block⟩
theorem XRdr.set_bad {w : World} {g B : Nat} {s : RS} (h : XRdr w g B s) : XRdr (w.setCell ⟨g, 2, none⟩ (.bool true)) g B (s.1, true) := by
  obtain ⟨A, L, c, p, h0, h1, h2, h3, h4, h5, h6⟩ := h.at_
  exact ⟨⟨A, L, c, p, h0.far (by simp) _, h1.far (by simp) _, h2, h3, h4, h5, h6.only ((Only.refl g w).set1 2 _) h.hB h0.lt⟩, h.bad.set _, h.hB⟩

set_option maxHeartbeats 1600000 in
set_option maxRecDepth 100000 in
theorem xbyte_any (g B : Nat) (s : RS) (w : World) (h : XRdr w g B s) :
    Calls Try.prog 48 #[.pointer (some ⟨g, 0, none⟩)] w fun e w' => e = .returned (.int .i64 (xbyte s).1) ∧ XRdr w' g B (xbyte s).2 ∧ Only g w w' := by
  have HX := Lib.hid h
  have HB := Lib.hid h.hB
  obtain ⟨l, b⟩ := s
  obtain ⟨A, L, c, p, hc0, hc1, hp, hl, hL, hcc, hrd⟩ := h.at_
  have hc2 := h.bad
  simp only at hl hc2
  have bad : ∀ n, Hid (XRdr ((w.drewN n).setCell ⟨g, 2, none⟩ (.bool true)) g B (l, true) ∧ Only g w ((w.drewN n).setCell ⟨g, 2, none⟩ (.bool true))) := fun n => ⟨(HX.out.drewN n).set_bad, ((Only.refl g w).drewN n).set1 2 _⟩
  cases b with
  | true =>
    obtain ⟨k2, f2⟩ := hc2
    clear h hc0 hc1 hrd
    go_enter Try.func48, Try.ntmps48
    go_wp2
    go_quiet (fail)
    have g2 : (w.drewN nq).cell? ⟨g, 2, none⟩ = some (.bool true) := k2
    have e2 : (w.drewN nq).frozen? ⟨g, 2, none⟩ = false := f2
    have HF := bad nq
    obtain ⟨wd, hwd⟩ : ∃ x, x = w.drewN nq := ⟨_, rfl⟩
    rw [← hwd] at g2 e2 HF
    rw [← hwd]
    clear hwd k2 f2 bad
    go_wp2
    go_ret
    exact ⟨rfl, HF.out.1, HF.out.2⟩
  | false =>
    obtain ⟨n, hn⟩ : ∃ n, n = L.length := ⟨_, rfl⟩
    rw [← hn] at hc0 hp hL hcc
    by_cases hlt : p < n
    · obtain ⟨x, r, hxr, hx, hr⟩ : ∃ x r, l = x :: r ∧ L[p]? = some x ∧ r = L.drop (p + 1) := ⟨L[p], L.drop (p + 1), by rw [hl]; exact List.drop_eq_getElem_cons (by omega), List.getElem?_eq_getElem (by omega), rfl⟩
      subst hxr
      rcases hrd with h0 | ⟨q, o, rfl, hq, hcell⟩
      · rw [h0] at hn; simp at hn; omega
      have d0 : w.cell? ⟨q, o + p, none⟩ = some (.int .u8 (x.toNat : Int)) := by
        have hpL : p < L.length := by omega
        have h1 := hcell p hpL
        rw [List.getElem?_eq_getElem hpL] at hx
        injection hx with hx
        rw [hx] at h1
        exact h1
      have xlt : ((x.toNat : Nat) : Int) < 256 := by have := x.toNat_lt; omega
      have hwr : IntKind.i64.wrap ((x.toNat : Nat) : Int) = ((x.toNat : Nat) : Int) := IntWalk.i64_in _ (by omega)
      have hd : decide ((n : Int) ≤ (p : Int)) = false := by simp; omega
      have hgw := hc0.lt
      have hqg : q ≠ g := by have := HB.out; omega
      obtain ⟨p1, hp1⟩ : ∃ p1, p1 = p + 1 := ⟨_, rfl⟩
      have hp1' : (p1 : Int) - 1 = (p : Int) := by omega
      have i1 : (p : Int) < (n : Int) := by omega
      have hfin : ∀ N M, Hid (XRdr (((w.drewN N).setCell ⟨g, 1, none⟩ (.int .i64 (p1 : Int))).drewN M) g B (r, false) ∧ Only g w (((w.drewN N).setCell ⟨g, 1, none⟩ (.int .i64 (p1 : Int))).drewN M)) := fun N M => by
        have hw := Lib.hid (below_toN (Below.refl w.heap.size w) N)
        have O1 := (Only.refl g (w.drewN N)).set1 1 (.int .i64 (p1 : Int))
        refine ⟨XRdr.drewN ⟨⟨_, L, c, p1, by rw [← hn]; exact (hc0.keep hw.out).far (by simp) _, (hc1.keep hw.out).set _, by omega, by rw [hp1]; exact hr, by omega, by omega, ?_⟩, (hc2.keep hw.out).far (by simp) _, HB.out⟩ M, ?_⟩
        · exact .inr ⟨q, o, rfl, hq, fun i hi => cell_only (w := w.drewN N) (hcell i hi) O1 (show q ≠ g from hqg)⟩
        · exact (((Only.refl g w).drewN N).set1 1 _).drewN M
      have K0 := hc0
      have K1 := hc1
      obtain ⟨k0, f0⟩ := hc0
      obtain ⟨k1, f1⟩ := hc1
      obtain ⟨k2, f2⟩ := hc2
      clear h hl hcell hx hr bad HX
      go_enter Try.func48, Try.ntmps48
      go_wp2
      go_quiet (fail)
      have hw := Lib.hid (below_toN (Below.refl w.heap.size w) nq)
      have g1 : (w.drewN nq).cell? ⟨g, 1, none⟩ = some (.int .i64 (p : Int)) := k1
      have e1 : (w.drewN nq).frozen? ⟨g, 1, none⟩ = false := f1
      have HF := hfin nq
      have F0 := (K0.keep hw.out).far (p := ⟨g, 1, none⟩) (by simp) (.int .i64 (p1 : Int))
      have F1 := (K1.keep hw.out).set (.int .i64 (p1 : Int))
      have F2 : ((w.drewN nq).setCell ⟨g, 1, none⟩ (.int .i64 (p1 : Int))).cell? ⟨q, o + p, none⟩ = some (.int .u8 (x.toNat : Int)) := cell_only (w := w.drewN nq) d0 ((Only.refl g (w.drewN nq)).set1 1 _) hqg
      obtain ⟨wd, hwd⟩ : ∃ x, x = w.drewN nq := ⟨_, rfl⟩
      rw [← hwd] at g1 e1 F0 F1 F2
      replace HF : ∀ M, Hid (XRdr ((wd.setCell ⟨g, 1, none⟩ (.int .i64 (p1 : Int))).drewN M) g B (r, false) ∧ Only g w ((wd.setCell ⟨g, 1, none⟩ (.int .i64 (p1 : Int))).drewN M)) := by rw [hwd]; exact HF
      rw [← hwd]
      have he1 : (p : Int) + 1 = (p1 : Int) := by omega
      clear hwd k0 f0 k1 f1 k2 f2 hfin K0 K1 hw d0 hp1
      go_wp2
      obtain ⟨we, hwe⟩ : ∃ x, x = wd.setCell ⟨g, 1, none⟩ (.int .i64 (p1 : Int)) := ⟨_, rfl⟩
      rw [← hwe] at F0 F1 F2
      replace HF : ∀ M, Hid (XRdr (we.drewN M) g B (r, false) ∧ Only g w (we.drewN M)) := by rw [hwe]; exact HF
      rw [← hwe]
      obtain ⟨x0, _⟩ := F0
      obtain ⟨x1, _⟩ := F1
      clear hwe g1 e1
      go_quiet (fail)
      go_wp2
      go_ret
      exact ⟨rfl, (HF _).out.1, (HF _).out.2⟩
    · have hpn : p = n := by omega
      have hl0 : l = [] := by rw [hl]; exact List.drop_eq_nil_of_le (by omega)
      subst hl0
      have hd : (n : Int) ≤ (p : Int) := by omega
      obtain ⟨k0, f0⟩ := hc0
      obtain ⟨k1, f1⟩ := hc1
      obtain ⟨k2, f2⟩ := hc2
      clear h hrd hl hpn
      go_enter Try.func48, Try.ntmps48
      go_wp2
      go_quiet (fail)
      have g2 : (w.drewN nq).cell? ⟨g, 2, none⟩ = some (.bool false) := k2
      have e2 : (w.drewN nq).frozen? ⟨g, 2, none⟩ = false := f2
      have HF := bad nq
      obtain ⟨wd, hwd⟩ : ∃ x, x = w.drewN nq := ⟨_, rfl⟩
      rw [← hwd] at g2 e2 HF
      rw [← hwd]
      clear hwd k2 f2 bad
      go_wp2
      go_ret
      exact ⟨rfl, HF.out.1, HF.out.2⟩
end Go.Proofs.Ytekgmgiokmbliaa
