/-
  wal.takeOp.
-/
import Derived.Test.YtfnifpgaieggbaaDoorEncode
set_option linter.unusedVariables false
namespace Go.Proofs.YtfnifpgaieggbaaDoor
open Go.RowKit

theorem results_cell_tmp2 {fn : Func} {p u v : Tmp} {ty : TypeId} (h : fn.results = #[.cell p ty, .tmp u, .tmp v]) (tmps : Array Value) (P : Program) (w : World) :
    (results fn tmps).run P w =
      ((asAddr (tmps.getD p undef)).run P w).andThen fun a w₁ => ((loadVar ty a).run P w₁).andThen fun x w₂ => .ok (.tuple #[x, tmps.getD u undef, tmps.getD v undef]) w₂ := by
  simp only [results, h]
  simp [Sem.run_bind, Result.andThen]
theorem tn_le (l : List UInt8) (h : (tn 0 0 l).2.2 = 0) : (tn 0 0 l).2.1 ≤ l.length := by have := (tn_fits l 0 0).1; omega
theorem tt_fits (l : List UInt8) : (tt l).2.1 ≤ l.length := by
  unfold tt
  split
  · exact Nat.zero_le _
  · split
    · exact Nat.zero_le _
    · split
      · exact Nat.zero_le _
      · simp only; omega
/-- an operation's two texts lie in memory of the call's own -/
def OpAns (b : List UInt8) (w : World) (e : Ending) (w' : World) : Prop :=
  ∃ K kc V vc, e = .returned (.tuple #[.agg #[.bool (tOp b).1.del, .slice K (tOp b).1.key.length kc, .slice V (tOp b).1.val.length vc], .int .i64 (tOp b).2.1, .bool (tOp b).2.2]) ∧ Rd w' w'.heap.size K (tOp b).1.key ∧ Rd w' w'.heap.size V (tOp b).1.val ∧ (∀ q o, K = some ⟨q, o, none⟩ → w.heap.size ≤ q) ∧ (∀ q o, V = some ⟨q, o, none⟩ → w.heap.size ≤ q) ∧ Below w.heap.size w w'

set_option maxHeartbeats 3200000 in
set_option maxRecDepth 100000 in
theorem takeop_any (b : List UInt8) (A : Option Addr) (n c : Nat) (w : World) (hn : n = b.length) (hr : Rd w w.heap.size A b) (hl : b.length ≤ 140737488351232) (hc : b.length ≤ c) :
    Calls Tryd.prog 39 #[.slice A n c] w fun e w' => OpAns b w e w' := by
  unfold OpAns
  have hb := below1' w (.cells #[.bool false, .slice none 0 0, .slice none 0 0] 43)
  have R0 := Cell.new w #[.bool false, .slice none 0 0, .slice none 0 0] 43 0 (.bool false) rfl
  have R1 := Cell.new w #[.bool false, .slice none 0 0, .slice none 0 0] 43 1 (.slice none 0 0) rfl
  have R2 := Cell.new w #[.bool false, .slice none 0 0, .slice none 0 0] 43 2 (.slice none 0 0) rfl
  obtain ⟨r, hrr⟩ : ∃ r, r = w.heap.size := ⟨_, rfl⟩
  rw [← hrr] at R0 R1 R2
  have HRR := Lib.hid hrr
  have hszA : Hid ((w.alloc (.cells #[.bool false, .slice none 0 0, .slice none 0 0] 43)).heap.size = w.heap.size + 1) := by show _ = _; simp
  cases b with
  | nil =>
    have hn0 : n = 0 := by simpa using hn
    subst hn0
    have HBad : Hid (tOp [] = (⟨false, [], []⟩, 0, false)) := rfl
    clear hn hr hl hc
    go_enter Tryd.func39, Tryd.ntmps39
    go_upto_region 2 with fail
    rw [← hrr]
    clear hrr
    have HBW := Lib.hid (hb.trans (((((Only.refl r (w.alloc (.cells #[.bool false, .slice none 0 0, .slice none 0 0] 43))).set1 0 (.bool false)).set1 1 (.slice none 0 0)).set1 2 (.slice none 0 0)).below (Nat.le_of_eq HRR.out.symm) hb.size))
    obtain ⟨r0, fr0⟩ := R0
    obtain ⟨r1, fr1⟩ := R1
    obtain ⟨r2, fr2⟩ := R2
    go_wp2
    refine bodyPost_ret (v := .tuple #[.agg #[.bool false, .slice none 0 0, .slice none 0 0], .int .i64 0, .bool false]) (by rw [results_cell_tmp2 rfl]; go_simp) rfl ⟨none, 0, none, 0, by rw [HBad.out]; rfl, by rw [HBad.out]; exact Rd.nil_ _ _ _, by rw [HBad.out]; exact Rd.nil_ _ _ _, (fun q o h => nomatch h), (fun q o h => nomatch h), HBW.out⟩
  | cons x t =>
    have hlen : n = t.length + 1 := by simpa using hn
    rcases hr with h0 | ⟨q, o, rfl, hq, hcell⟩
    · cases h0
    have hr : Rd w w.heap.size (some ⟨q, o, none⟩) (x :: t) := .inr ⟨q, o, rfl, hq, hcell⟩
    have d0 := hcell 0 (by simp)
    simp only [List.getElem_cons_zero, Nat.add_zero] at d0
    replace d0 : w.cell? ⟨q, o, none⟩ = some (.int .u8 (x.toNat : Int)) := d0
    have dA := (hb.cell (p := ⟨q, o, none⟩) hq).trans d0
    have hpos : ((n : Int) == 0) = false := by rw [beq_eq_false_iff_ne]; omega
    have hpos2 : (0 : Int) < (n : Int) := by omega
    have HLEN := Lib.hid hlen
    obtain ⟨A1, hrun1, rd1⟩ := cut1_run (n := n) (k := 1) hn hr (by simp) hc
    replace hrun1 : ∀ W' : World, (Instr.slice 28 (.slice (some ⟨q, o, none⟩) n c) (some (.int .i64 1)) none none).run Tryd.prog W' = .ok (.slice A1 (n - 1) (c - 1)) W' := fun W' => hrun1 W'
    have hl1 : t.length ≤ 140737488351231 := by simp at hl; omega
    have TT := Lib.hid (takenText_at A1 (n - 1) (c - 1) t (w.alloc (.cells #[.bool false, .slice none 0 0, .slice none 0 0] 43)) (by omega) ((rd1.below hb).more hb.size) (by omega) (by simp at hc; omega))
    have HRb := Lib.hid hr
    have HCb := Lib.hid hc
    have HQ := Lib.hid hq
    have HD0 := Lib.hid d0
    have hbH := Lib.hid hb
    clear hr rd1 hcell d0 hl hc hn hlen
    go_enter Tryd.func39, Tryd.ntmps39
    by_cases h1 : 1 < x.toNat
    · have HBad : Hid (tOp (x :: t) = (⟨false, [], []⟩, 0, false)) := by show _ = _; simp only [tOp]; rw [if_pos h1]
      have h1' : (1 : Int) < (x.toNat : Int) := by omega
      go_upto_region 2 with fail
      rw [← hrr]
      clear hrr
      have HBW := Lib.hid (hb.trans (((((Only.refl r (w.alloc (.cells #[.bool false, .slice none 0 0, .slice none 0 0] 43))).set1 0 (.bool false)).set1 1 (.slice none 0 0)).set1 2 (.slice none 0 0)).below (Nat.le_of_eq HRR.out.symm) hb.size))
      obtain ⟨r0, fr0⟩ := R0
      obtain ⟨r1, fr1⟩ := R1
      obtain ⟨r2, fr2⟩ := R2
      go_wp2
      refine bodyPost_ret (v := .tuple #[.agg #[.bool false, .slice none 0 0, .slice none 0 0], .int .i64 0, .bool false]) (by rw [results_cell_tmp2 rfl]; go_simp) rfl ⟨none, 0, none, 0, by rw [HBad.out]; rfl, by rw [HBad.out]; exact Rd.nil_ _ _ _, by rw [HBad.out]; exact Rd.nil_ _ _ _, (fun q o h => nomatch h), (fun q o h => nomatch h), HBW.out⟩
    have h1' : (x.toNat : Int) ≤ 1 := by omega
    have HOP : Hid (tOp (x :: t) = if (tt t).2.2 ≠ 0 then (⟨false, [], []⟩, 0, false)
        else if x.toNat = 1 then (⟨true, (tt t).1, []⟩, 1 + (tt t).2.1, true)
        else if (tt (t.drop (tt t).2.1)).2.2 ≠ 0 then (⟨false, [], []⟩, 0, false)
        else (⟨false, (tt t).1, (tt (t.drop (tt t).2.1)).1⟩, 1 + (tt t).2.1 + (tt (t.drop (tt t).2.1)).2.1, true)) := by
      show _ = _
      simp only [tOp]
      rw [if_neg h1]
    go_wp2_with fail
    rw [← hrr]
    clear hrr
    refine TT.out.mono ?_
    rintro e w1 ⟨v1, rfl, o1, h2⟩
    have hfit := tt_fits t
    obtain ⟨key, hkey⟩ : ∃ y, y = (tt t).1 := ⟨_, rfl⟩
    obtain ⟨m1, hm1⟩ : ∃ y, y = (tt t).2.1 := ⟨_, rfl⟩
    obtain ⟨e1, he1⟩ : ∃ y, y = (tt t).2.2 := ⟨_, rfl⟩
    replace HOP := HOP.out
    rw [← hkey, ← hm1, ← he1] at HOP
    rw [← hm1] at hfit
    rw [← hkey] at o1
    rw [← hm1, ← he1]
    replace HOP := Lib.hid HOP
    replace R0 := R0.keep h2
    replace R1 := R1.keep h2
    replace R2 := R2.keep h2
    have hb1 := hb.trans (h2.mono hb.size)
    have d1 := (h2.cell (p := ⟨q, o, none⟩) (show q < _ by have h9 := hszA.out; rw [h9]; omega)).trans dA
    have hrlt : Hid (r < w1.heap.size) := R0.lt
    clear TT hb dA hkey hm1 he1
    by_cases he : e1 = 0
    rotate_left
    · have HBad : Hid (tOp (x :: t) = (⟨false, [], []⟩, 0, false)) := by show _ = _; rw [HOP.out, if_pos he]
      have he' : ((e1 : Int) != 0) = true := by rw [bne_iff_ne]; omega
      clear o1 h2
      have HBW := Lib.hid (hb1.trans (((((Only.refl r w1).set1 0 (.bool false)).set1 1 (.slice none 0 0)).set1 2 (.slice none 0 0)).below (Nat.le_of_eq HRR.out.symm) hb1.size))
      obtain ⟨r0, fr0⟩ := R0
      obtain ⟨r1, fr1⟩ := R1
      obtain ⟨r2, fr2⟩ := R2
      go_wp2
      refine bodyPost_ret (v := .tuple #[.agg #[.bool false, .slice none 0 0, .slice none 0 0], .int .i64 0, .bool false]) (by rw [results_cell_tmp2 rfl]; go_simp) rfl ⟨none, 0, none, 0, by rw [HBad.out]; rfl, by rw [HBad.out]; exact Rd.nil_ _ _ _, by rw [HBad.out]; exact Rd.nil_ _ _ _, (fun q o h => nomatch h), (fun q o h => nomatch h), HBW.out⟩
    have he' : ((e1 : Int) != 0) = false := by rw [he]; rfl
    have HOWN := Lib.hid o1
    obtain ⟨K1, c1, rfl, rdk⟩ := o1.rd
    obtain ⟨nk, hnk⟩ : ∃ y, y = key.length := ⟨_, rfl⟩
    replace HOWN := HOWN.out
    rw [← hnk] at HOWN
    replace HOWN := Lib.hid HOWN
    rw [← hnk]
    have HNK := Lib.hid hnk
    have hfrk : Hid (∀ q o, K1 = some ⟨q, o, none⟩ → w.heap.size ≤ q ∧ r < q ∧ q < w1.heap.size) := fun q o e => by
      have h3 := World.ownsRow.lt o1 q (by rw [e]; rfl)
      have h4 := hszA.out
      have h5 := HRR.out
      rw [h4] at h3
      exact ⟨by omega, by omega, h3.2⟩
    have HRK := Lib.hid rdk
    clear o1 hnk rdk
    by_cases hx1 : x.toNat = 1
    · have hx1' : (x.toNat : Int) = 1 := by omega
      have HGood : Hid (tOp (x :: t) = (⟨true, key, []⟩, 1 + m1, true)) := by show _ = _; rw [HOP.out, if_neg (fun h => h he), if_pos hx1]
      have OE := ((((Only.refl r w1).set1 0 (.bool true)).set1 1 (.slice K1 nk c1)).set1 2 (.slice none 0 0))
      have HBW := Lib.hid (hb1.trans (OE.below (Nat.le_of_eq HRR.out.symm) hb1.size))
      have HKF : Hid (∀ W, Only r w1 W → Rd W W.heap.size K1 key) := fun W hO => by
        rcases HRK.out with h0 | ⟨q', o', e', hq', hc'⟩
        · exact .inl h0
        · exact .inr ⟨q', o', e', Nat.lt_of_lt_of_le hq' hO.size, fun i hi => cell_only (hc' i hi) hO (show q' ≠ r by have := (hfrk.out q' o' e').2.1; omega)⟩
      have HKW := Lib.hid (HKF.out _ OE)
      have d1' : w1.cell? ⟨q, o, none⟩ = some (.int .u8 1) := by rw [d1, hx1']
      clear h2 OE HKF hx1' d1
      obtain ⟨r0, fr0⟩ := R0
      obtain ⟨r1, fr1⟩ := R1
      obtain ⟨r2, fr2⟩ := R2
      go_wp2
      refine bodyPost_ret (v := .tuple #[.agg #[.bool true, .slice K1 nk c1, .slice none 0 0], .int .i64 (1 + (m1 : Int)), .bool true]) (by rw [results_cell_tmp2 rfl]; go_simp) rfl ⟨K1, c1, none, 0, by rw [HGood.out, HNK.out]; simp, by rw [HGood.out]; exact HKW.out, by rw [HGood.out]; exact Rd.nil_ _ _ _, fun q o h => (hfrk.out q o h).1, (fun q o h => nomatch h), HBW.out⟩
    have hx0 : x.toNat = 0 := by omega
    have hx0' : (x.toNat : Int) = 0 := by omega
    obtain ⟨p1, hp1⟩ : ∃ y, y = 1 + m1 := ⟨_, rfl⟩
    have hp1' : (1 : Int) + (m1 : Int) = (p1 : Int) := by omega
    obtain ⟨A2, hrun2, rd2⟩ := cut1_run (n := n) (c := c) (k := p1) (by simpa using HLEN.out) ((HRb.out.below hb1).more hb1.size) (by simp; omega) HCb.out
    have hdrop : (x :: t).drop p1 = t.drop m1 := by rw [hp1, Nat.add_comm, List.drop_succ_cons]
    rw [hdrop] at rd2
    have TT2 := Lib.hid (takenText_at A2 (n - p1) (c - p1) (t.drop m1) w1 (by have := HLEN.out; rw [List.length_drop]; omega) rd2 (by rw [List.length_drop]; omega) (by rw [List.length_drop]; have h9 := HCb.out; have h8 := HLEN.out; rw [List.length_cons] at h9; omega))
    have HP1 := Lib.hid hp1
    have d1' : w1.cell? ⟨q, o, none⟩ = some (.int .u8 0) := by rw [d1, hx0']
    clear h2 d1 rd2 hdrop hx0' hp1
    go_wp2_with fail
    refine TT2.out.mono ?_
    rintro e w2 ⟨v2, rfl, o2, h3⟩
    have hfit2 := tt_fits (t.drop m1)
    obtain ⟨val, hval⟩ : ∃ y, y = (tt (t.drop m1)).1 := ⟨_, rfl⟩
    obtain ⟨m2, hm2⟩ : ∃ y, y = (tt (t.drop m1)).2.1 := ⟨_, rfl⟩
    obtain ⟨e2, he2⟩ : ∃ y, y = (tt (t.drop m1)).2.2 := ⟨_, rfl⟩
    replace HOP := HOP.out
    rw [← hval, ← hm2, ← he2] at HOP
    rw [← hm2] at hfit2
    rw [← hval] at o2
    rw [← hm2, ← he2]
    replace HOP := Lib.hid HOP
    replace R0 := R0.keep h3
    replace R1 := R1.keep h3
    replace R2 := R2.keep h3
    have hb2 := hb1.trans (h3.mono hb1.size)
    clear TT2 hval hm2 he2
    by_cases hee : e2 = 0
    rotate_left
    · have HBad : Hid (tOp (x :: t) = (⟨false, [], []⟩, 0, false)) := by show _ = _; rw [HOP.out, if_neg (fun h => h he), if_neg (by omega), if_pos hee]
      have hee' : ((e2 : Int) != 0) = true := by rw [bne_iff_ne]; omega
      clear o2 h3
      have HBW := Lib.hid (hb2.trans (((((Only.refl r w2).set1 0 (.bool false)).set1 1 (.slice none 0 0)).set1 2 (.slice none 0 0)).below (Nat.le_of_eq HRR.out.symm) hb2.size))
      obtain ⟨r0, fr0⟩ := R0
      obtain ⟨r1, fr1⟩ := R1
      obtain ⟨r2, fr2⟩ := R2
      go_wp2
      refine bodyPost_ret (v := .tuple #[.agg #[.bool false, .slice none 0 0, .slice none 0 0], .int .i64 0, .bool false]) (by rw [results_cell_tmp2 rfl]; go_simp) rfl ⟨none, 0, none, 0, by rw [HBad.out]; rfl, by rw [HBad.out]; exact Rd.nil_ _ _ _, by rw [HBad.out]; exact Rd.nil_ _ _ _, (fun q o h => nomatch h), (fun q o h => nomatch h), HBW.out⟩
    have hm2b : m2 ≤ 140737488351231 := by rw [List.length_drop] at hfit2; omega
    have hp1b : p1 ≤ 140737488351232 := by have := HP1.out; omega
    have hee' : ((e2 : Int) != 0) = false := by rw [hee]; rfl
    obtain ⟨V1, c2, rfl, rdv⟩ := o2.rd
    obtain ⟨nv, hnv⟩ : ∃ y, y = val.length := ⟨_, rfl⟩
    rw [← hnv]
    have HNV := Lib.hid hnv
    have hrw : r < w1.heap.size := hrlt.out
    have hfrv : Hid (∀ q o, V1 = some ⟨q, o, none⟩ → w.heap.size ≤ q ∧ r < q) := fun q o e => by
      have h4 := World.ownsRow.lt o2 q (by rw [e]; rfl)
      have h5 := hb1.size
      exact ⟨by omega, by omega⟩
    have HRV := Lib.hid rdv
    have HRK2 := Lib.hid ((HRK.out.below h3).more h3.size)
    have HGood : Hid (tOp (x :: t) = (⟨false, key, val⟩, p1 + m2, true)) := by show _ = _; rw [HOP.out, if_neg (fun h => h he), if_neg hx1, if_neg (fun h => h hee), HP1.out]
    have OE := ((((Only.refl r w2).set1 0 (.bool false)).set1 1 (.slice K1 nk c1)).set1 2 (.slice V1 nv c2))
    have HBW := Lib.hid (hb2.trans (OE.below (Nat.le_of_eq HRR.out.symm) hb2.size))
    have HKF : Hid (∀ (X : Option Addr) (l : List UInt8) W, Rd w2 w2.heap.size X l → (∀ q o, X = some ⟨q, o, none⟩ → r < q) → Only r w2 W → Rd W W.heap.size X l) := fun X l W hX hf hO => by
      rcases hX with h0 | ⟨q', o', e', hq', hc'⟩
      · exact .inl h0
      · exact .inr ⟨q', o', e', Nat.lt_of_lt_of_le hq' hO.size, fun i hi => cell_only (hc' i hi) hO (show q' ≠ r by have := hf q' o' e'; omega)⟩
    have HKW := Lib.hid (HKF.out K1 key _ HRK2.out (fun q o e => (hfrk.out q o e).2.1) OE)
    have HVW := Lib.hid (HKF.out V1 val _ HRV.out (fun q o e => (hfrv.out q o e).2) OE)
    clear o2 h3 hnv rdv OE HKF
    obtain ⟨r0, fr0⟩ := R0
    obtain ⟨r1, fr1⟩ := R1
    obtain ⟨r2, fr2⟩ := R2
    go_wp2
    refine bodyPost_ret (v := .tuple #[.agg #[.bool false, .slice K1 nk c1, .slice V1 nv c2], .int .i64 ((p1 : Int) + (m2 : Int)), .bool true]) (by rw [results_cell_tmp2 rfl]; go_simp) rfl ⟨K1, c1, V1, c2, by rw [HGood.out, HNK.out, HNV.out]; simp, by rw [HGood.out]; exact HKW.out, by rw [HGood.out]; exact HVW.out, by exact fun q o h => (hfrk.out q o h).1, by exact fun q o h => (hfrv.out q o h).1, HBW.out⟩
end Go.Proofs.YtfnifpgaieggbaaDoor
