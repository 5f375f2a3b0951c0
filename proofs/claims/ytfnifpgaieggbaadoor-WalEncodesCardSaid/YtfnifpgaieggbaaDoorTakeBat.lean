/-
  wal.takeBatch.
-/
import Derived.Test.YtfnifpgaieggbaaDoorGotO
set_option linter.unusedVariables false
namespace Go.Proofs.YtfnifpgaieggbaaDoor
open Go.RowKit

/-- the cells of a block, told as a list -/
def Box (w : World) (k : Nat) (vs : List Value) : Prop := ∀ j x, vs[j]? = some x → Cell w k j x
theorem Box.only {w w' : World} {g k : Nat} {vs : List Value} (h : Box w k vs) (ho : Only g w w') (hk : k ≠ g) : Box w' k vs := fun j x hj => (h j x hj).only ho hk
theorem Box.keep {w w' : World} {k : Nat} {vs : List Value} (h : Box w k vs) (hb : Below w.heap.size w w') : Box w' k vs := fun j x hj => (h j x hj).keep hb
theorem Box.grown {w w' : World} {k : Nat} {vs : List Value} {row : Option Nat} (h : Box w k vs) (hg : w.grownBy w' row) (hk : some k ≠ row) : Box w' k vs := fun j x hj => (h j x hj).grown hg hk
theorem Box.set {w : World} {k : Nat} {vs : List Value} (h : Box w k vs) (i : Nat) (u : Value) : Box (w.setCell ⟨k, i, none⟩ u) k (vs.set i u) := fun j x hj => by
  by_cases hij : i = j
  · subst hij
    rw [List.getElem?_set] at hj
    simp only [if_true] at hj
    split at hj
    · rename_i hl
      injection hj with hj
      subst hj
      exact (h i _ (List.getElem?_eq_getElem hl)).set u
    · cases hj
  · rw [List.getElem?_set_ne hij] at hj
    exact (h j x hj).far (fun e => hij (by injection e)) u
theorem Box.new (w : World) (C : Array Value) (t : TypeId) (vs : List Value) (h : C.toList = vs) : Box (w.alloc (.cells C t)) w.heap.size vs := fun j x hj => Cell.new w C t j x (by rw [← Array.getElem?_toList, h]; exact hj)

theorem tn_none {l : List UInt8} (h : (tn 0 0 l).2.2 ≠ 0) : True := trivial
theorem tBat_no1 {b : List UInt8} (h : (tn 0 0 b).2.2 ≠ 0) : tBat b = (0, [], false) := by unfold tBat; rw [if_pos h]
theorem tBat_no2 {b : List UInt8} (h : (tn 0 0 b).2.2 = 0) (h2 : (tn 0 0 (b.drop (tn 0 0 b).2.1)).2.2 ≠ 0 ∨ 256 < (tn 0 0 (b.drop (tn 0 0 b).2.1)).1) : tBat b = (0, [], false) := by unfold tBat; rw [if_neg (fun k => k h), if_pos h2]
theorem grown_belowR {B : Nat} {w w' : World} {row : Option Nat} (h : w.grownBy w' row) (hr : ∀ q, row = some q → B ≤ q) (hB : B ≤ w.heap.size) : Below B w w' :=
  ⟨h.os, h.tape, h.output, h.size, fun k hk => h.block k (by omega) (fun e => by have := hr k e.symm; omega)⟩
theorem tOp_le (b : List UInt8) : (tOp b).2.1 ≤ b.length := by
  unfold tOp
  split
  · exact Nat.zero_le _
  · rename_i c t
    have h1 := tt_fits t
    have h2 := tt_fits (t.drop (tt t).2.1)
    rw [List.length_drop] at h2
    split
    · exact Nat.zero_le _
    · split
      · exact Nat.zero_le _
      · split
        · simp only [List.length_cons]; omega
        · split
          · exact Nat.zero_le _
          · simp only [List.length_cons]; omega
theorem tOp_bad {b : List UInt8} (h : (tOp b).2.2 = false) : True := trivial
def BatAns (b : List UInt8) (w : World) (e : Ending) (w' : World) : Prop :=
  ∃ (sq m : Nat) (A' : Option Addr) (c' : Nat), e = .returned (.tuple #[.agg #[.int .u64 sq, .slice A' m c'], .bool (tBat b).2.2]) ∧ sq < 18446744073709551616 ∧ ((tBat b).2.2 = true → sq = (tBat b).1 ∧ m = (tBat b).2.1.length ∧ OpsRd w' w'.heap.size A' (tBat b).2.1) ∧ m ≤ 256 ∧ Below w.heap.size w w'

set_option maxHeartbeats 6400000 in
set_option maxRecDepth 100000 in
theorem takebatch_any (b : List UInt8) (A : Option Addr) (n c : Nat) (w : World) (hn : n = b.length) (hr : Rd w w.heap.size A b) (hl : b.length ≤ 140737488351232) (hc : b.length ≤ c) :
    Calls Tryd.prog 26 #[.slice A n c] w fun e w' => BatAns b w e w' := by
  have hbA := below1' w (.cells #[.int .u64 0, .slice none 0 0] 25)
  have hbB := below1' (w.alloc (.cells #[.int .u64 0, .slice none 0 0] 25)) (.cells #[.int .u64 0, .slice none 0 0] 25)
  have hsA : (w.alloc (.cells #[.int .u64 0, .slice none 0 0] 25)).heap.size = w.heap.size + 1 := by simp
  have R0 := (Box.new w #[.int .u64 0, .slice none 0 0] 25 [.int .u64 0, .slice none 0 0] rfl).keep hbB
  have X0 := Box.new (w.alloc (.cells #[.int .u64 0, .slice none 0 0] 25)) #[.int .u64 0, .slice none 0 0] 25 [.int .u64 0, .slice none 0 0] rfl
  rw [hsA] at X0
  have HB0 := hbA.trans (hbB.mono hbA.size)
  obtain ⟨W0, hW0⟩ : ∃ x, x = (w.alloc (.cells #[.int .u64 0, .slice none 0 0] 25)).alloc (.cells #[.int .u64 0, .slice none 0 0] 25) := ⟨_, rfl⟩
  have hs0 : W0.heap.size = w.heap.size + 1 + 1 := by rw [hW0]; simp
  rw [← hW0] at R0 X0 HB0
  have T1 := Lib.hid (taken_any A c W0.heap.size b W0 ((hr.below HB0).more HB0.size) (by omega))
  have HRb := Lib.hid hr
  have hN : Hid (n = b.length) := hn
  replace T1 := T1.out
  rw [← hn] at T1
  replace T1 := Lib.hid T1
  have HC := Lib.hid hc
  have HLb := Lib.hid hl
  have hfit := tn_le b
  have hlt1 := tn_lt b 0 0 (by omega) (by decide)
  have HTB := Lib.hid (fun (h : (tn 0 0 b).2.2 ≠ 0) => tBat_no1 h)
  have HTB2 := Lib.hid (fun (h : (tn 0 0 b).2.2 = 0) h2 => tBat_no2 (b := b) h h2)
  have HTB3 : Hid (tBat b = if (tn 0 0 b).2.2 ≠ 0 then (0, [], false)
    else if (tn 0 0 (b.drop (tn 0 0 b).2.1)).2.2 ≠ 0 ∨ 256 < (tn 0 0 (b.drop (tn 0 0 b).2.1)).1 then (0, [], false)
    else ((tn 0 0 b).1, (tOps (tn 0 0 (b.drop (tn 0 0 b).2.1)).1 [] ((b.drop (tn 0 0 b).2.1).drop (tn 0 0 (b.drop (tn 0 0 b).2.1)).2.1)).1,
      (tOps (tn 0 0 (b.drop (tn 0 0 b).2.1)).1 [] ((b.drop (tn 0 0 b).2.1).drop (tn 0 0 (b.drop (tn 0 0 b).2.1)).2.1)).2.2 && decide ((tOps (tn 0 0 (b.drop (tn 0 0 b).2.1)).1 [] ((b.drop (tn 0 0 b).2.1).drop (tn 0 0 (b.drop (tn 0 0 b).2.1)).2.1)).2.1 = []))) := rfl
  obtain ⟨sq, hsq⟩ : ∃ y, y = (tn 0 0 b).1 := ⟨_, rfl⟩
  obtain ⟨m1, hm1⟩ : ∃ y, y = (tn 0 0 b).2.1 := ⟨_, rfl⟩
  obtain ⟨e1, he1⟩ : ∃ y, y = (tn 0 0 b).2.2 := ⟨_, rfl⟩
  replace T1 := T1.out
  replace HTB := HTB.out
  replace HTB2 := HTB2.out
  replace HTB3 := HTB3.out
  rw [← hsq, ← hm1, ← he1] at T1 HTB3
  rw [← he1] at HTB
  rw [← he1, ← hm1] at HTB2
  rw [← hm1, ← he1] at hfit
  rw [← hsq] at hlt1
  replace T1 := Lib.hid T1
  replace HTB := Lib.hid HTB
  replace HTB2 := Lib.hid HTB2
  replace HTB3 := Lib.hid HTB3
  obtain ⟨r, hrr⟩ : ∃ r, r = w.heap.size := ⟨_, rfl⟩
  obtain ⟨x, hxx⟩ : ∃ x, x = w.heap.size + 1 := ⟨_, rfl⟩
  rw [← hrr] at R0
  rw [← hxx] at X0
  have HNR : Hid (r = w.heap.size ∧ x = w.heap.size + 1 ∧ W0.heap.size = w.heap.size + 1 + 1) := ⟨hrr, hxx, hs0⟩
  have hxr : x ≠ r := by omega
  have hrx : r ≠ x := by omega
  clear hr hn hc hl hsq hm1 he1 hbA hbB hsA hs0
  go_enter Tryd.func26, Tryd.ntmps26
  go_wp2_with fail
  rw [← hW0, ← hxx, ← hrr]
  clear hW0 hxx hrr
  refine T1.out.mono ?_
  rintro e w1 ⟨rfl, rfl⟩
  by_cases h1 : e1 = 0
  rotate_left
  · have HBad := Lib.hid (HTB.out h1)
    have h1' : ((e1 : Int) != 0) = true := by rw [bne_iff_ne]; omega
    have OE := ((Only.refl r W0).set1 0 (.int .u64 0)).set1 1 (.slice none 0 0)
    have HBW := Lib.hid (HB0.trans (OE.below (Nat.le_of_eq HNR.out.1.symm) HB0.size))
    obtain ⟨r0, fr0⟩ := R0 0 (.int .u64 0) rfl
    obtain ⟨r1, fr1⟩ := R0 1 (.slice none 0 0) rfl
    obtain ⟨x0, fx0⟩ := X0 0 (.int .u64 0) rfl
    obtain ⟨x1, fx1⟩ := X0 1 (.slice none 0 0) rfl
    clear OE
    go_wp2
    refine bodyPost_ret (v := .tuple #[.agg #[.int .u64 0, .slice none 0 0], .bool false]) (by rw [results_cell_tmp rfl]; go_simp) rfl ⟨0, 0, none, 0, by rw [HBad.out]; rfl, by decide, (fun h => by rw [HBad.out] at h; cases h), by decide, HBW.out⟩
  have h1' : ((e1 : Int) != 0) = false := by rw [h1]; rfl
  have hfit' := hfit h1
  obtain ⟨A1, hrun1, rd1⟩ := cut1_run (n := n) (c := c) (k := m1) hN.out ((HRb.out.below HB0).more HB0.size) hfit' HC.out
  obtain ⟨b1, hb1⟩ : ∃ y, y = b.drop m1 := ⟨_, rfl⟩
  rw [← hb1] at rd1
  have hb1l : b1.length = n - m1 := by rw [hb1, List.length_drop, hN.out]
  have hb1c : b1.length ≤ c - m1 := by have := HC.out; have := hN.out; omega
  have T2 := Lib.hid (taken_any A1 (c - m1) W0.heap.size b1 W0 rd1 (by have := HLb.out; have := hN.out; omega))
  have hfit2 := tn_le b1
  have hlt2 := tn_lt b1 0 0 (by omega) (by decide)
  replace HTB2 := HTB2.out h1
  replace HTB3 := HTB3.out
  rw [← hb1] at HTB2 HTB3
  rw [if_neg (fun h => h h1)] at HTB3
  obtain ⟨cnt, hcnt⟩ : ∃ y, y = (tn 0 0 b1).1 := ⟨_, rfl⟩
  obtain ⟨m2, hm2⟩ : ∃ y, y = (tn 0 0 b1).2.1 := ⟨_, rfl⟩
  obtain ⟨e2, he2⟩ : ∃ y, y = (tn 0 0 b1).2.2 := ⟨_, rfl⟩
  replace T2 := T2.out
  rw [← hcnt, ← hm2, ← he2] at T2 HTB3
  rw [← hcnt, ← he2] at HTB2
  rw [← hm2, ← he2] at hfit2
  rw [← hcnt] at hlt2
  rw [hb1l] at T2
  replace T2 := Lib.hid T2
  have HTB2 := Lib.hid HTB2
  have HTB3 := Lib.hid HTB3
  have HRB : Hid (Rd W0 w.heap.size A1 b1) := by
    obtain ⟨A1', hrun1', rd1'⟩ := cut1_run (n := n) (c := c) (k := m1) hN.out (HRb.out.below HB0) hfit' HC.out
    have h5 := (hrun1' W0).symm.trans (hrun1 W0)
    injection h5 with h5 _
    injection h5 with h5 _ _
    rw [← h5, hb1]
    exact rd1'
  have HB1L := Lib.hid hb1l
  have HB1C := Lib.hid hb1c
  clear T1 HTB hb1 hcnt hm2 he2 hfit rd1 hb1l hb1c
  go_wp2_with fail
  refine T2.out.mono ?_
  rintro e w1 ⟨rfl, rfl⟩
  by_cases h2 : e2 ≠ 0 ∨ 256 < cnt
  · have HBad := Lib.hid (HTB2.out h2)
    have OE := ((Only.refl r W0).set1 0 (.int .u64 0)).set1 1 (.slice none 0 0)
    have HBW := Lib.hid (HB0.trans (OE.below (Nat.le_of_eq HNR.out.1.symm) HB0.size))
    obtain ⟨r0, fr0⟩ := R0 0 (.int .u64 0) rfl
    obtain ⟨r1, fr1⟩ := R0 1 (.slice none 0 0) rfl
    obtain ⟨x0, fx0⟩ := X0 0 (.int .u64 0) rfl
    obtain ⟨x1, fx1⟩ := X0 1 (.slice none 0 0) rfl
    clear OE
    by_cases h3 : e2 = 0
    · have h3' : ((e2 : Int) != 0) = false := by rw [h3]; rfl
      have h4' : (256 : Int) < (cnt : Int) := by omega
      clear h2
      go_wp2
      refine bodyPost_ret (v := .tuple #[.agg #[.int .u64 0, .slice none 0 0], .bool false]) (by rw [results_cell_tmp rfl]; go_simp) rfl ⟨0, 0, none, 0, by rw [HBad.out]; rfl, by decide, (fun h => by rw [HBad.out] at h; cases h), by decide, HBW.out⟩
    · have h3' : ((e2 : Int) != 0) = true := by rw [bne_iff_ne]; omega
      clear h2
      go_wp2
      refine bodyPost_ret (v := .tuple #[.agg #[.int .u64 0, .slice none 0 0], .bool false]) (by rw [results_cell_tmp rfl]; go_simp) rfl ⟨0, 0, none, 0, by rw [HBad.out]; rfl, by decide, (fun h => by rw [HBad.out] at h; cases h), by decide, HBW.out⟩
  have h3 : e2 = 0 := by omega
  have h3' : ((e2 : Int) != 0) = false := by rw [h3]; rfl
  have h4 : cnt ≤ 256 := by omega
  have h4' : (cnt : Int) ≤ 256 := by omega
  have hfit2' := hfit2 h3
  obtain ⟨A2, hrun2, rd2⟩ := cut1_run (n := n - m1) (c := c - m1) (k := m2) (HB1L.out.symm) HRB.out hfit2' HB1C.out
  obtain ⟨b2, hb2⟩ : ∃ y, y = b1.drop m2 := ⟨_, rfl⟩
  rw [← hb2] at rd2
  have hb2l : b2.length = n - m1 - m2 := by rw [hb2, List.length_drop, HB1L.out]
  have hb2c : b2.length ≤ c - m1 - m2 := by have := HB1C.out; have := HB1L.out; omega
  replace HTB3 := HTB3.out
  rw [← hb2, if_neg h2] at HTB3
  have HTB4 : Hid (tBat b = (sq, (tOps cnt [] b2).1, (tOps cnt [] b2).2.2 && decide ((tOps cnt [] b2).2.1 = []))) := HTB3
  have XS := X0.set 0 (.int .u64 (sq : Nat))
  have OU := (Only.refl x W0).set1 0 (.int .u64 (sq : Nat))
  obtain ⟨x0, fx0⟩ := X0 0 (.int .u64 0) rfl
  have S0 : Hid (∃ (ovs : List OV) (rest : List UInt8), GotO (W0.setCell ⟨x, 0, none⟩ (.int .u64 (sq : Nat))) (x + 1) (.slice none 0 0) ovs ∧ ovs.length = 0 ∧ Rd (W0.setCell ⟨x, 0, none⟩ (.int .u64 (sq : Nat))) w.heap.size A2 rest ∧ rest.length = n - m1 - m2 ∧ rest.length ≤ c - m1 - m2 ∧ Box (W0.setCell ⟨x, 0, none⟩ (.int .u64 (sq : Nat))) x [.int .u64 (sq : Nat), .slice none 0 0] ∧ Box (W0.setCell ⟨x, 0, none⟩ (.int .u64 (sq : Nat))) r [.int .u64 0, .slice none 0 0] ∧ Below w.heap.size w (W0.setCell ⟨x, 0, none⟩ (.int .u64 (sq : Nat))) ∧ tOps cnt [] b2 = tOps (cnt - 0) (ovs.map (·.d)) rest) := by
    have hbU := OU.below (B := w.heap.size) (by have := HNR.out; omega) HB0.size
    exact ⟨[], b2, ⟨World.ownsRow_nil _ _ _ _, (fun o h => nomatch h)⟩, rfl, rd2.below hbU, hb2l, hb2c, XS, R0.only OU hrx, HB0.trans hbU, rfl⟩
  have HP : Hid (n - m1 - m2 ≤ 140737488351232) := by have := HLb.out; have := hN.out; show _ ≤ _; omega
  clear T2 HTB2 HTB3 HB1L HB1C HRB hb2 hb2l hb2c rd2 XS OU X0 R0 HB0 h2 hfit2 hfit' hfit2' h1 h3
  go_wp2
  go_loopw [0, 43] (fun s0 s43 wr => ∃ (k : Nat) (A0 : Option Addr) (n0 c0 : Nat) (A' : Option Addr) (d : Nat), s0 = .slice A0 n0 c0 ∧ s43 = .int .u64 k ∧ k ≤ cnt ∧ n0 ≤ 140737488351232 ∧ Hid (∃ (ovs : List OV) (rest : List UInt8), GotO wr (x + 1) (.slice A' k d) ovs ∧ ovs.length = k ∧ Rd wr w.heap.size A0 rest ∧ rest.length = n0 ∧ rest.length ≤ c0 ∧ Box wr x [.int .u64 (sq : Nat), .slice A' k d] ∧ Box wr r [.int .u64 0, .slice none 0 0] ∧ Below w.heap.size w wr ∧ tOps cnt [] b2 = tOps (cnt - k) (ovs.map (·.d)) rest)) (fun _ s43 _ => cnt - (intOf s43).toNat)
  case atStart => exact ⟨0, A2, n - m1 - m2, c - m1 - m2, none, 0, rfl, rfl, by omega, HP.out, S0⟩
  case round =>
    clear S0 hrun1 hrun2 x0 fx0
    obtain ⟨k, A0, n0, c0, A', d, rfl, rfl, hk, hn0, HI⟩ := hrel
    obtain ⟨ovs, rest, hG, hov, hRd, hrl, hrc, hX, hR, hB, hT⟩ := HI.out
    by_cases hlt : k < cnt
    · have hlt' : (k : Int) < (cnt : Int) := by omega
      have T := Lib.hid (takeop_any rest A0 n0 c0 wr hrl.symm (hRd.more hB.size) (by omega) hrc)
      have hrow : Hid (∀ q, (Value.slice A' k d).ownBlock = some q → q < wr.heap.size) := fun q hq => (World.ownsRow.lt hG.own q hq).2
      have hxw : Hid (x < wr.heap.size) := (hX 0 _ rfl).lt
      have HGv := Lib.hid (And.intro hG (And.intro hX (And.intro hR hB)))
      have HRd := Lib.hid hRd
      have HT := Lib.hid hT
      have HOV := Lib.hid hov
      have HRL := Lib.hid hrl
      have HRC := Lib.hid hrc
      have hle := tOp_le rest
      clear hG hov hRd hrl hrc hX hR hB hT HI
      go_wp2_with fail
      refine T.out.mono ?_
      rintro e w5 ⟨K, kc, V, vc, rfl, rk, rv, fk, fv, h5⟩
      have HTO : Hid (∀ f acc, tOps (f + 1) acc rest = if (tOp rest).2.2 then tOps f (acc ++ [(tOp rest).1]) (rest.drop (tOp rest).2.1) else (acc, rest, false)) := fun f acc => rfl
      obtain ⟨y, hy⟩ : ∃ z, z = (tOp rest).1 := ⟨_, rfl⟩
      obtain ⟨m, hm⟩ : ∃ z, z = (tOp rest).2.1 := ⟨_, rfl⟩
      obtain ⟨ok, hok⟩ : ∃ z, z = (tOp rest).2.2 := ⟨_, rfl⟩
      replace HTO := HTO.out
      rw [← hy, ← hm, ← hok] at HTO
      rw [← hy] at rk rv
      rw [← hm] at hle
      rw [← hy, ← hm, ← hok]
      replace HTO := Lib.hid HTO
      clear hy hm hok T
      have hbo := below1' w5 (.cells #[.bool y.del, .slice K y.key.length kc, .slice V y.val.length vc] 43)
      obtain ⟨G0, X0, R0, B0⟩ := HGv.out
      have G6 := Lib.hid ((G0.keep h5).keep hbo)
      have X6 := (X0.keep h5).keep hbo
      have R6 := (R0.keep h5).keep hbo
      have h56 := h5.trans (hbo.mono h5.size)
      have B6 := B0.trans (h56.mono B0.size)
      have Rd6 := Lib.hid (HRd.out.below (h56.mono B0.size))
      have hsz6 : (w5.alloc (.cells #[.bool y.del, .slice K y.key.length kc, .slice V y.val.length vc] 43)).heap.size = w5.heap.size + 1 := by simp
      have AK := Lib.hid (show Apart (w5.alloc (.cells #[.bool y.del, .slice K y.key.length kc, .slice V y.val.length vc] 43)) (x + 1) (.slice A' k d) K y.key from ⟨(rk.below hbo).more hbo.size, fun _ q o e => ⟨fun h => by have := hrow.out q h; have := fk q o e; omega, by have := fk q o e; have := hxw.out; omega⟩⟩)
      have AV := Lib.hid (show Apart (w5.alloc (.cells #[.bool y.del, .slice K y.key.length kc, .slice V y.val.length vc] 43)) (x + 1) (.slice A' k d) V y.val from ⟨(rv.below hbo).more hbo.size, fun _ q o e => ⟨fun h => by have := hrow.out q h; have := fv q o e; omega, by have := fv q o e; have := hxw.out; omega⟩⟩)
      have hx1 := (X6 1 (.slice A' k d) rfl).1
      have hx6 : Hid (x + 1 ≤ (w5.alloc (.cells #[.bool y.del, .slice K y.key.length kc, .slice V y.val.length vc] 43)).heap.size) := by have := hxw.out; have := h56.size; show _ ≤ _; omega
      have HX6 := Lib.hid X6
      have HR6 := Lib.hid R6
      have HB6 := Lib.hid B6
      have hs6 := Lib.hid hsz6
      have hk3 : Hid (k < 2513169434844) := by show _ < _; omega
      cases ok with
      | false =>
        have hno : Hid ((tBat b).2.2 = false) := by
          show _ = _
          rw [HTB4.out, HT.out, show cnt - k = (cnt - (k + 1)) + 1 by omega, HTO.out]
          rfl
        have OE := ((Only.refl r (w5.alloc (.cells #[.bool y.del, .slice K y.key.length kc, .slice V y.val.length vc] 43))).set1 0 (.int .u64 (sq : Nat))).set1 1 (.slice A' k d)
        have HBW := Lib.hid (B6.trans (OE.below (Nat.le_of_eq HNR.out.1.symm) B6.size))
        obtain ⟨r0, fr0⟩ := R6 0 (.int .u64 0) rfl
        obtain ⟨r1, fr1⟩ := R6 1 (.slice none 0 0) rfl
        obtain ⟨x0, fx0⟩ := X6 0 (.int .u64 (sq : Nat)) rfl
        clear OE X6 R6 B6 h56 h5 hbo G0 X0 R0 B0 rk rv fk fv hsz6
        go_wp2
        refine bodyPost_ret (v := .tuple #[.agg #[.int .u64 (sq : Nat), .slice A' k d], .bool false]) (by rw [results_cell_tmp rfl]; go_simp) rfl ⟨sq, k, A', d, by rw [hno.out], by omega, (fun h => by rw [hno.out] at h; cases h), by omega, HBW.out⟩
      | true =>
        clear X6 R6 B6 h56 h5 hbo G0 X0 R0 B0 rk rv fk fv hsz6
        go_wp2_with (at_builtin; refine app_op (w5.alloc (.cells #[.bool y.del, .slice K y.key.length kc, .slice V y.val.length vc] 43)) (x + 1) (.slice A' k d) k ovs ⟨y, K, kc, V, vc⟩ rfl (.tmp 55) (.tmp 57) rfl rfl (w5.heap.size + 1) hs6.out rfl G6.out AK.out AV.out HOV.out.symm hk3.out hx6.out ?_)
        intro gq cap w7 G7 g7
        have hrg : Hid (∀ q, (Value.slice A' k d).ownBlock = some q → x + 1 ≤ q) := fun q hq => (World.ownsRow.lt G6.out.own q hq).1
        have hpx : some x ≠ (Value.slice A' k d).ownBlock := fun h => by have := hrg.out x h.symm; omega
        have hpr : some r ≠ (Value.slice A' k d).ownBlock := fun h => by have := hrg.out r h.symm; have := HNR.out; omega
        have X7 := HX6.out.grown g7 hpx
        have R7 := HR6.out.grown g7 hpr
        have b67 := grown_belowR (B := w.heap.size) g7 (fun q hq => by have := hrg.out q hq; have := HNR.out; omega) HB6.out.size
        have B7 := HB6.out.trans b67
        have OU := (Only.refl x w7).set1 1 (.slice (some ⟨gq, 0, none⟩) (k + 1) cap)
        have b7u := OU.below (B := w.heap.size) (by have := HNR.out; omega) B7.size
        obtain ⟨x1, fx1⟩ := X7 1 (.slice A' k d) rfl
        obtain ⟨A3, hrun3, rd3⟩ := cut1_run (n := n0) (c := c0) (k := m) HRL.out.symm ((Rd6.out.below b67).below b7u) hle HRC.out
        have HF : Hid (∃ (ovs : List OV) (rest : List UInt8), GotO (w7.setCell ⟨x, 1, none⟩ (.slice (some ⟨gq, 0, none⟩) (k + 1) cap)) (x + 1) (.slice (some ⟨gq, 0, none⟩) (k + 1) cap) ovs ∧ ovs.length = k + 1 ∧ Rd (w7.setCell ⟨x, 1, none⟩ (.slice (some ⟨gq, 0, none⟩) (k + 1) cap)) w.heap.size A3 rest ∧ rest.length = n0 - m ∧ rest.length ≤ c0 - m ∧ Box (w7.setCell ⟨x, 1, none⟩ (.slice (some ⟨gq, 0, none⟩) (k + 1) cap)) x [.int .u64 (sq : Nat), .slice (some ⟨gq, 0, none⟩) (k + 1) cap] ∧ Box (w7.setCell ⟨x, 1, none⟩ (.slice (some ⟨gq, 0, none⟩) (k + 1) cap)) r [.int .u64 0, .slice none 0 0] ∧ Below w.heap.size w (w7.setCell ⟨x, 1, none⟩ (.slice (some ⟨gq, 0, none⟩) (k + 1) cap)) ∧ tOps cnt [] b2 = tOps (cnt - (k + 1)) (ovs.map (·.d)) rest) := by
          refine ⟨_, rest.drop m, G7.off OU (Nat.lt_succ_self x), by rw [List.length_append, HOV.out]; rfl, rd3, by rw [List.length_drop, HRL.out], by rw [List.length_drop]; have := HRC.out; have := HRL.out; omega, X7.set 1 _, R7.only OU hrx, B7.trans b7u, ?_⟩
          rw [HT.out, show cnt - k = (cnt - (k + 1)) + 1 by omega, HTO.out]
          simp only [if_true, List.map_append, List.map_cons, List.map_nil]
        have hmb : m ≤ n0 := by have := HRL.out; omega
        clear G7 g7 hpx hpr X7 R7 b67 B7 OU b7u rd3 G6 AK AV HX6 HR6 HB6 Rd6 hx6 hle
        go_wp2
        go_roundw
        case rel => exact ⟨k + 1, A3, n0 - m, c0 - m, some ⟨gq, 0, none⟩, cap, rfl, by go_num, by omega, by omega, HF⟩
        case measure => simp [intOf]; omega
    · have hkn : k = cnt := by omega
      subst hkn
      have hTT := HTB4.out
      rw [hT, Nat.sub_self] at hTT
      have hge : decide ((k : Int) < (k : Int)) = false := by simp
      have HTF : Hid (tBat b = (sq, ovs.map (·.d), ((n0 : Int) == 0))) := by
        show _ = _
        rw [hTT]
        by_cases h0 : rest = []
        · have hz : ((n0 : Int) == 0) = true := by rw [h0] at hrl; simp at hrl; simp [← hrl]
          rw [hz]
          simp [tOps, h0]
        · have h1 : 0 < rest.length := List.length_pos_iff.2 h0
          have hz : ((n0 : Int) == 0) = false := by rw [beq_eq_false_iff_ne]; omega
          rw [hz]
          simp [tOps, h0]
      have OE := ((Only.refl r wr).set1 0 (.int .u64 (sq : Nat))).set1 1 (.slice A' k d)
      have HBW := Lib.hid (hB.trans (OE.below (Nat.le_of_eq HNR.out.1.symm) hB.size))
      have HOP := Lib.hid (hG.off OE (by have := HNR.out; omega)).ops
      have HOV := Lib.hid hov
      obtain ⟨r0, fr0⟩ := hR 0 (.int .u64 0) rfl
      obtain ⟨r1, fr1⟩ := hR 1 (.slice none 0 0) rfl
      obtain ⟨x0, fx0⟩ := hX 0 (.int .u64 (sq : Nat)) rfl
      obtain ⟨x1, fx1⟩ := hX 1 (.slice A' k d) rfl
      clear hG hov hRd hrl hrc hX hR hB hT HI hTT OE
      go_wp2
      refine bodyPost_ret (v := .tuple #[.agg #[.int .u64 (sq : Nat), .slice A' k d], .bool ((n0 : Int) == 0)]) (by rw [results_cell_tmp rfl]; go_simp) rfl ⟨sq, k, A', d, by rw [HTF.out], by omega, fun _ => ⟨by rw [HTF.out], by rw [HTF.out]; simp [HOV.out], by rw [HTF.out]; exact HOP.out⟩, by omega, HBW.out⟩
end Go.Proofs.YtfnifpgaieggbaaDoor
