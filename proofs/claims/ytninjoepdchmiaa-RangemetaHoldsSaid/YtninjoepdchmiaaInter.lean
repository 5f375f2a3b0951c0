/-
  What two spans share, in new memory.
-/
import Derived.Test.YtninjoepdchmiaaRClone
set_option linter.unusedVariables false
namespace Go.Proofs.Ytninjoepdchmiaa
open Go.RowKit

def shF (af bf : List UInt8) : List UInt8 := if 0 < cmp bf af then bf else af
def shT (at_ bt : List UInt8) : List UInt8 := if at_ = [] then bt else if bt = [] then at_ else if cmp bt at_ < 0 then bt else at_
/-- a text that can be read in whatever follows w -/
def Src (w : World) (A : Option Addr) (n c : Nat) (l : List UInt8) : Prop := (n = l.length ∧ (A = none → c = 0) ∧ l.length ≤ 140737488351232) ∧ Rd w w.heap.size A l
theorem Src.keep {w w' : World} {A : Option Addr} {n c : Nat} {l : List UInt8} (h : Src w A n c l) (hb : Below w.heap.size w w') : Src w' A n c l := ⟨h.1, h.2.keep' hb⟩
theorem RTx.sf {w : World} {x : RV} (h : RTx w w.heap.size x) : Src w x.F x.d.fr.length x.fc x.d.fr := ⟨⟨rfl, h.nf, h.lf⟩, h.f⟩
theorem RTx.st {w : World} {x : RV} (h : RTx w w.heap.size x) : Src w x.T x.d.to.length x.tc x.d.to := ⟨⟨rfl, h.nt, h.lt⟩, h.t⟩

set_option maxHeartbeats 3200000 in
set_option maxRecDepth 100000 in
theorem inter_any (F T G U : Option Addr) (nf fc nt tc ng gc nu uc : Nat) (f t g u : List UInt8) (w : World) (hf : Src w F nf fc f) (ht : Src w T nt tc t) (hg : Src w G ng gc g) (hu : Src w U nu uc u) :
    Calls Try.prog 81 #[.agg #[.slice F nf fc, .slice T nt tc], .agg #[.slice G ng gc, .slice U nu uc]] w fun e w' =>
      (∃ A1 n1 c1 A2 n2 c2, e = .returned (.agg #[.slice A1 n1 c1, .slice A2 n2 c2]) ∧ NewT w' w.heap.size A1 n1 c1 (shF f g) ∧ NewT w' w.heap.size A2 n2 c2 (shT t u)) ∧ Below w.heap.size w w' := by
  obtain ⟨W, hW⟩ : ∃ x, x = ((w.alloc (.cells #[.slice F nf fc, .slice T nt tc] 39)).alloc (.cells #[.slice G ng gc, .slice U nu uc] 39)).alloc (.cells #[.slice none 0 0, .slice none 0 0] 39) := ⟨_, rfl⟩
  have hz : Hid (W.heap.size = w.heap.size + 1 + 1 + 1) := by show _ = _; rw [hW]; simp
  have hb0 : Hid (Below w.heap.size w W) := by show Below _ _ _; rw [hW]; exact ((below1' w _).alloc (by simp) _).alloc (by simp; omega) _
  have S1 : (w.alloc (.cells #[.slice F nf fc, .slice T nt tc] 39)).heap.size = w.heap.size + 1 := by simp
  have S2 : ((w.alloc (.cells #[.slice F nf fc, .slice T nt tc] 39)).alloc (.cells #[.slice G ng gc, .slice U nu uc] 39)).heap.size = w.heap.size + 1 + 1 := by simp
  have P0 : Hid (∀ j v, (#[Value.slice F nf fc, .slice T nt tc] : Array Value)[j]? = some v → Cell W w.heap.size j v) := fun j v h => by
    rw [hW]
    exact ((Cell.new w _ 39 j v h).alloc _).alloc _
  have Q0 : Hid (∀ j v, (#[Value.slice G ng gc, .slice U nu uc] : Array Value)[j]? = some v → Cell W (w.heap.size + 1) j v) := fun j v h => by
    rw [hW]
    have h2 := Cell.new (w.alloc (.cells #[.slice F nf fc, .slice T nt tc] 39)) _ 39 j v h
    rw [S1] at h2
    exact h2.alloc _
  have R0 : Hid (∀ j v, (#[Value.slice none 0 0, .slice none 0 0] : Array Value)[j]? = some v → Cell W (w.heap.size + 1 + 1) j v) := fun j v h => by
    rw [hW]
    have h2 := Cell.new ((w.alloc (.cells #[.slice F nf fc, .slice T nt tc] 39)).alloc (.cells #[.slice G ng gc, .slice U nu uc] 39)) _ 39 j v h
    rw [S2] at h2
    exact h2
  clear S1 S2
  have SF := Lib.hid (hf.keep hb0.out)
  have ST := Lib.hid (ht.keep hb0.out)
  have SG := Lib.hid (hg.keep hb0.out)
  have SU := Lib.hid (hu.keep hb0.out)
  have CL := Lib.hid (fun (A : Option Addr) (n c : Nat) (l : List UInt8) (h : Src W A n c l) (W' : World) (hb : Below W.heap.size W W') => sclone_new A n c l W' h.1.1 (h.2.keep' hb) h.1.2.2 h.1.2.1)
  have CM := Lib.hid (fun (A A' : Option Addr) (n c n' c' : Nat) (l l' : List UInt8) (h : Src W A n c l) (h' : Src W A' n' c' l') (W' : World) (hb : Below W.heap.size W W') => compare_at A A' n n' c c' _ _ l l' W' h.1.1 h'.1.1 (h.2.keep' hb) (h'.2.keep' hb) (by have := h.1; unfold maxB; omega) (by have := h'.1; unfold maxB; omega))
  have C1 := Lib.hid (CM.out G F _ _ _ _ g f SG.out SF.out)
  have C2 := Lib.hid (CM.out U T _ _ _ _ u t SU.out ST.out)
  obtain ⟨r1, hr1⟩ : ∃ x, x = cmp g f := ⟨_, rfl⟩
  obtain ⟨r2, hr2⟩ : ∃ x, x = cmp u t := ⟨_, rfl⟩
  rw [← hr1] at C1
  rw [← hr2] at C2
  have HF : Hid (shF f g = if 0 < r1 then g else f) := by show _ = _; rw [hr1]; rfl
  have HT : Hid (shT t u = if nt = 0 then u else if nu = 0 then t else if r2 < 0 then u else t) := by
    show _ = _
    have e1 : (t = []) = (nt = 0) := by rw [ht.1.1]; simp
    have e2 : (u = []) = (nu = 0) := by rw [hu.1.1]; simp
    unfold shT
    simp only [e1, e2, hr2]
  obtain ⟨sf, hsf⟩ : ∃ x, x = shF f g := ⟨_, rfl⟩
  obtain ⟨st, hst⟩ : ∃ x, x = shT t u := ⟨_, rfl⟩
  replace HF := HF.out
  replace HT := HT.out
  rw [← hsf] at HF
  rw [← hst] at HT
  rw [← hsf, ← hst]
  replace HF := Lib.hid HF
  replace HT := Lib.hid HT
  clear hr1 hr2 hsf hst CM hf ht hg hu
  obtain ⟨b, hb⟩ : ∃ u, u = w.heap.size := ⟨_, rfl⟩
  rw [← hb] at P0 Q0 R0
  have HBS := Lib.hid hb
  go_enter Try.func81, Try.ntmps81
  have p0 := (P0.out 0 _ rfl).1
  have p1 := (P0.out 1 _ rfl).1
  have q0 := (Q0.out 0 _ rfl).1
  have q1 := (Q0.out 1 _ rfl).1
  go_upto_region 1 with fail
  rw [← hb, ← hW]
  clear hW hb
  go_quiet (fail)
  have hbq : Below W.heap.size W (W.drewN nq) := below_drewN (Below.refl _ _) nq
  have HBQ := Lib.hid hbq
  clear hbq
  obtain ⟨W1, hW1⟩ : ∃ x, x = W.drewN nq := ⟨_, rfl⟩
  rw [← hW1] at HBQ
  rw [← hW1]
  clear hW1
  have p0' := ((P0.out 0 _ rfl).keep HBQ.out).1
  have p1' := ((P0.out 1 _ rfl).keep HBQ.out).1
  have q0' := ((Q0.out 0 _ rfl).keep HBQ.out).1
  have q1' := ((Q0.out 1 _ rfl).keep HBQ.out).1
  clear p0 p1 q0 q1
  go_wp2_with fail
  refine (C1.out W1 HBQ.out).mono ?_
  rintro e w2 ⟨rfl, h2⟩
  have HB2 := Lib.hid (HBQ.out.trans (h2.mono HBQ.out.size))
  have q0 := ((Q0.out 0 _ rfl).keep HB2.out).1
  have q1 := ((Q0.out 1 _ rfl).keep HB2.out).1
  clear h2 p0' p1' q0' q1' C1
  by_cases c1 : 0 < r1
  all_goals
    first
      | have XF : Hid (Src W G ng gc sf) := by show Src _ _ _ _ _; rw [HF.out, if_pos c1]; exact SG.out
      | have XF : Hid (Src W F nf fc sf) := by show Src _ _ _ _ _; rw [HF.out, if_neg c1]; exact SF.out
    by_cases c2 : nt = 0
    · have c2' : ((nt : Int) == 0) = true := by rw [c2]; rfl
      have XT : Hid (Src W U nu uc st) := by show Src _ _ _ _ _; rw [HT.out, if_pos c2]; exact SU.out
      clear c2
      go_wp2_with fail
      refine (CL.out _ _ _ _ XF.out w2 HB2.out).mono ?_
      rintro e w7 ⟨A7, c7, rfl, n7, h7⟩
      have HB7 := Lib.hid (HB2.out.trans (h7.mono HB2.out.size))
      have N7 := Lib.hid (NewT.lower n7 HB2.out.size)
      clear n7 h7
      go_wp2_with fail
      refine (CL.out _ _ _ _ XT.out w7 HB7.out).mono ?_
      rintro e w8 ⟨A8, c8, rfl, n8, h8⟩
      have HB8 := Lib.hid (HB7.out.trans (h8.mono HB7.out.size))
      have N8 := Lib.hid (NewT.lower n8 HB7.out.size)
      have N7' := Lib.hid (N7.out.keep h8)
      have y0 := ((R0.out 0 _ rfl).keep HB8.out).1
      have fy0 := ((R0.out 0 _ rfl).keep HB8.out).2
      have y1 := ((R0.out 1 _ rfl).keep HB8.out).1
      have fy1 := ((R0.out 1 _ rfl).keep HB8.out).2
      clear n8 h8 q0 q1
      go_wp2
      have TE := fun (v v2 : Value) => ((Turn.refl (fun k => k = b + 1 + 1) w8).set (p := ⟨b + 1 + 1, 0, none⟩) (fun _ => rfl) v).set (p := ⟨b + 1 + 1, 1, none⟩) (fun _ => rfl) v2
      have hM : ∀ k, W.heap.size ≤ k → k < w8.heap.size → ¬ (k = b + 1 + 1) := fun k h1 _ h2 => by have := hz.out; have := HBS.out; omega
      refine bodyPost_ret (v := .agg #[.slice A7 _ c7, .slice A8 _ c8]) (by rw [results_cell1 rfl]; go_simp) rfl ⟨⟨A7, _, c7, A8, _, c8, rfl, (N7'.out.turn (TE _ _) hM).lower hb0.out.size, (N8.out.turn (TE _ _) hM).lower hb0.out.size⟩, ?_⟩
      exact (hb0.out.trans (HB8.out.mono hb0.out.size)).trans ((TE _ _).below (fun k _ h => by have := HBS.out; omega) (by have := HB8.out.size; have := hz.out; omega))
    · have c2' : ((nt : Int) == 0) = false := by rw [beq_eq_false_iff_ne]; omega
      by_cases c3 : nu = 0
      · have c3' : ¬ (0 : Int) < (nu : Int) := by omega
        have XT : Hid (Src W T nt tc st) := by show Src _ _ _ _ _; rw [HT.out, if_neg c2, if_pos c3]; exact ST.out
        clear c2 c3
        go_wp2_with fail
        refine (CL.out _ _ _ _ XF.out w2 HB2.out).mono ?_
        rintro e w7 ⟨A7, c7, rfl, n7, h7⟩
        have HB7 := Lib.hid (HB2.out.trans (h7.mono HB2.out.size))
        have N7 := Lib.hid (NewT.lower n7 HB2.out.size)
        clear n7 h7
        go_wp2_with fail
        refine (CL.out _ _ _ _ XT.out w7 HB7.out).mono ?_
        rintro e w8 ⟨A8, c8, rfl, n8, h8⟩
        have HB8 := Lib.hid (HB7.out.trans (h8.mono HB7.out.size))
        have N8 := Lib.hid (NewT.lower n8 HB7.out.size)
        have N7' := Lib.hid (N7.out.keep h8)
        have y0 := ((R0.out 0 _ rfl).keep HB8.out).1
        have fy0 := ((R0.out 0 _ rfl).keep HB8.out).2
        have y1 := ((R0.out 1 _ rfl).keep HB8.out).1
        have fy1 := ((R0.out 1 _ rfl).keep HB8.out).2
        clear n8 h8 q0 q1
        go_wp2
        have TE := fun (v v2 : Value) => ((Turn.refl (fun k => k = b + 1 + 1) w8).set (p := ⟨b + 1 + 1, 0, none⟩) (fun _ => rfl) v).set (p := ⟨b + 1 + 1, 1, none⟩) (fun _ => rfl) v2
        have hM : ∀ k, W.heap.size ≤ k → k < w8.heap.size → ¬ (k = b + 1 + 1) := fun k h1 _ h2 => by have := hz.out; have := HBS.out; omega
        refine bodyPost_ret (v := .agg #[.slice A7 _ c7, .slice A8 _ c8]) (by rw [results_cell1 rfl]; go_simp) rfl ⟨⟨A7, _, c7, A8, _, c8, rfl, (N7'.out.turn (TE _ _) hM).lower hb0.out.size, (N8.out.turn (TE _ _) hM).lower hb0.out.size⟩, ?_⟩
        exact (hb0.out.trans (HB8.out.mono hb0.out.size)).trans ((TE _ _).below (fun k _ h => by have := HBS.out; omega) (by have := HB8.out.size; have := hz.out; omega))
      · have c3' : (0 : Int) < (nu : Int) := by omega
        by_cases c4 : r2 < 0
        · have XT : Hid (Src W U nu uc st) := by show Src _ _ _ _ _; rw [HT.out, if_neg c2, if_neg c3, if_pos c4]; exact SU.out
          clear c2 c3
          go_wp2_with fail
          refine (C2.out w2 HB2.out).mono ?_
          rintro e w3 ⟨rfl, h3⟩
          have HB3 := Lib.hid (HB2.out.trans (h3.mono HB2.out.size))
          clear q0 q1 h3
          have q0 := ((Q0.out 0 _ rfl).keep HB3.out).1
          have q1 := ((Q0.out 1 _ rfl).keep HB3.out).1
          go_wp2_with fail
          refine (CL.out _ _ _ _ XF.out w3 HB3.out).mono ?_
          rintro e w7 ⟨A7, c7, rfl, n7, h7⟩
          have HB7 := Lib.hid (HB3.out.trans (h7.mono HB3.out.size))
          have N7 := Lib.hid (NewT.lower n7 HB3.out.size)
          clear n7 h7
          go_wp2_with fail
          refine (CL.out _ _ _ _ XT.out w7 HB7.out).mono ?_
          rintro e w8 ⟨A8, c8, rfl, n8, h8⟩
          have HB8 := Lib.hid (HB7.out.trans (h8.mono HB7.out.size))
          have N8 := Lib.hid (NewT.lower n8 HB7.out.size)
          have N7' := Lib.hid (N7.out.keep h8)
          have y0 := ((R0.out 0 _ rfl).keep HB8.out).1
          have fy0 := ((R0.out 0 _ rfl).keep HB8.out).2
          have y1 := ((R0.out 1 _ rfl).keep HB8.out).1
          have fy1 := ((R0.out 1 _ rfl).keep HB8.out).2
          clear n8 h8 q0 q1
          go_wp2
          have TE := fun (v v2 : Value) => ((Turn.refl (fun k => k = b + 1 + 1) w8).set (p := ⟨b + 1 + 1, 0, none⟩) (fun _ => rfl) v).set (p := ⟨b + 1 + 1, 1, none⟩) (fun _ => rfl) v2
          have hM : ∀ k, W.heap.size ≤ k → k < w8.heap.size → ¬ (k = b + 1 + 1) := fun k h1 _ h2 => by have := hz.out; have := HBS.out; omega
          refine bodyPost_ret (v := .agg #[.slice A7 _ c7, .slice A8 _ c8]) (by rw [results_cell1 rfl]; go_simp) rfl ⟨⟨A7, _, c7, A8, _, c8, rfl, (N7'.out.turn (TE _ _) hM).lower hb0.out.size, (N8.out.turn (TE _ _) hM).lower hb0.out.size⟩, ?_⟩
          exact (hb0.out.trans (HB8.out.mono hb0.out.size)).trans ((TE _ _).below (fun k _ h => by have := HBS.out; omega) (by have := HB8.out.size; have := hz.out; omega))
        · have XT : Hid (Src W T nt tc st) := by show Src _ _ _ _ _; rw [HT.out, if_neg c2, if_neg c3, if_neg c4]; exact ST.out
          clear c2 c3
          go_wp2_with fail
          refine (C2.out w2 HB2.out).mono ?_
          rintro e w3 ⟨rfl, h3⟩
          have HB3 := Lib.hid (HB2.out.trans (h3.mono HB2.out.size))
          clear q0 q1 h3
          have q0 := ((Q0.out 0 _ rfl).keep HB3.out).1
          have q1 := ((Q0.out 1 _ rfl).keep HB3.out).1
          go_wp2_with fail
          refine (CL.out _ _ _ _ XF.out w3 HB3.out).mono ?_
          rintro e w7 ⟨A7, c7, rfl, n7, h7⟩
          have HB7 := Lib.hid (HB3.out.trans (h7.mono HB3.out.size))
          have N7 := Lib.hid (NewT.lower n7 HB3.out.size)
          clear n7 h7
          go_wp2_with fail
          refine (CL.out _ _ _ _ XT.out w7 HB7.out).mono ?_
          rintro e w8 ⟨A8, c8, rfl, n8, h8⟩
          have HB8 := Lib.hid (HB7.out.trans (h8.mono HB7.out.size))
          have N8 := Lib.hid (NewT.lower n8 HB7.out.size)
          have N7' := Lib.hid (N7.out.keep h8)
          have y0 := ((R0.out 0 _ rfl).keep HB8.out).1
          have fy0 := ((R0.out 0 _ rfl).keep HB8.out).2
          have y1 := ((R0.out 1 _ rfl).keep HB8.out).1
          have fy1 := ((R0.out 1 _ rfl).keep HB8.out).2
          clear n8 h8 q0 q1
          go_wp2
          have TE := fun (v v2 : Value) => ((Turn.refl (fun k => k = b + 1 + 1) w8).set (p := ⟨b + 1 + 1, 0, none⟩) (fun _ => rfl) v).set (p := ⟨b + 1 + 1, 1, none⟩) (fun _ => rfl) v2
          have hM : ∀ k, W.heap.size ≤ k → k < w8.heap.size → ¬ (k = b + 1 + 1) := fun k h1 _ h2 => by have := hz.out; have := HBS.out; omega
          refine bodyPost_ret (v := .agg #[.slice A7 _ c7, .slice A8 _ c8]) (by rw [results_cell1 rfl]; go_simp) rfl ⟨⟨A7, _, c7, A8, _, c8, rfl, (N7'.out.turn (TE _ _) hM).lower hb0.out.size, (N8.out.turn (TE _ _) hM).lower hb0.out.size⟩, ?_⟩
          exact (hb0.out.trans (HB8.out.mono hb0.out.size)).trans ((TE _ _).below (fun k _ h => by have := HBS.out; omega) (by have := HB8.out.size; have := hz.out; omega))
end Go.Proofs.Ytninjoepdchmiaa
