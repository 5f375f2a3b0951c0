/-
  wal.isEncoding; what Replay says of a step.
-/
import Derived.Test.YtfnifpgaieggbaaDoorEqual
set_option linter.unusedVariables false
namespace Go.Proofs.YtfnifpgaieggbaaDoor
open Go.RowKit

theorem tf_zero {l : List UInt8} (h : (tf l).2.2.2 = 0) : 1 ≤ (tf l).2.2.1 ∧ (tf l).2.2.1 ≤ l.length := by
  cases l with
  | nil => simp [tf] at h
  | cons c t =>
    simp only [tf] at h ⊢
    by_cases h1 : (tn 0 0 t).2.2 ≠ 0
    · rw [if_pos h1] at h; exact absurd h h1
    · rw [if_neg h1] at h ⊢
      by_cases h2 : 2097152 < (tn 0 0 t).1
      · rw [if_pos h2] at h; simp at h
      · rw [if_neg h2] at h ⊢
        by_cases h3 : (c :: t).length < 1 + (tn 0 0 t).2.1 + 4 + (tn 0 0 t).1
        · rw [if_pos h3] at h; simp at h
        · rw [if_neg h3] at h ⊢
          split at h
          · rename_i h4
            rw [if_pos h4]
            simp only
            omega
          · simp at h
theorem tf_body_le (l : List UInt8) : (tf l).2.1.length ≤ 2097152 := by
  cases l with
  | nil => simp [tf]
  | cons c t =>
    simp only [tf]
    by_cases h1 : (tn 0 0 t).2.2 ≠ 0
    · rw [if_pos h1]; simp
    · rw [if_neg h1]
      by_cases h2 : 2097152 < (tn 0 0 t).1
      · rw [if_pos h2]; simp
      · rw [if_neg h2]
        by_cases h3 : (c :: t).length < 1 + (tn 0 0 t).2.1 + 4 + (tn 0 0 t).1
        · rw [if_pos h3]; simp
        · rw [if_neg h3]
          split
          · simp only [List.length_take]; omega
          · simp
/-- if the bytes of a frame are a batch's, its reading is this batch -/
theorem bat_read {l : List UInt8} {sq : Nat} {ops : List OpD} (he : (tf l).2.2.2 = 0) (h : EncP sq ops) (hb : batB sq ops = l.take (tf l).2.2.1) : (tf l).1 = 66 ∧ tBat (tf l).2.1 = (sq, ops, true) := by
  have h1 := tf_frame (k := 66) (s := bodyB sq ops) (by have := h.2.2; omega) (l.drop (tf l).2.2.1)
  have h2 : frame 66 (bodyB sq ops) ++ l.drop (tf l).2.2.1 = l := by
    have : frame 66 (bodyB sq ops) = l.take (tf l).2.2.1 := hb
    rw [this, List.take_append_drop]
  rw [h2] at h1
  rw [h1]
  exact ⟨rfl, tBat_bodyB h.1 h.2.1⟩
def afterB (acc : List (Nat × List OpD)) : Nat := (acc.getLast?.map (fun y => y.1 + y.2.length)).getD 0
theorem replF_end {f : Nat} {acc : List (Nat × List OpD)} {at_ : Nat} : replF (f + 1) acc at_ [] = (acc, at_, 0) := by unfold replF; rw [if_pos rfl]
theorem replF_err {f : Nat} {acc : List (Nat × List OpD)} {at_ : Nat} {b : List UInt8} (h0 : b ≠ []) (h : (tf b).2.2.2 ≠ 0) : replF (f + 1) acc at_ b = (acc, at_, (tf b).2.2.2) := by unfold replF; rw [if_neg h0, if_pos h]
theorem replF_no {f : Nat} {acc : List (Nat × List OpD)} {at_ : Nat} {b : List UInt8} (h0 : b ≠ []) (he : (tf b).2.2.2 = 0) (h : ¬ ((tBat (tf b).2.1).2.2 = true ∧ (tf b).1 = 66 ∧ EncP (tBat (tf b).2.1).1 (tBat (tf b).2.1).2.1 ∧ batB (tBat (tf b).2.1).1 (tBat (tf b).2.1).2.1 = b.take (tf b).2.2.1)) :
    replF (f + 1) acc at_ b = (acc, at_, 63) := by
  unfold replF
  rw [if_neg h0, if_neg (fun k => k he), dif_neg]
  rintro ⟨x, h1, h2⟩
  obtain ⟨h3, h4⟩ := bat_read he h1 h2
  apply h
  rw [h4]
  exact ⟨rfl, h3, h1, h2⟩
theorem replF_yes {f : Nat} {acc : List (Nat × List OpD)} {at_ : Nat} {b : List UInt8} {sq : Nat} {ops : List OpD} (h0 : b ≠ []) (he : (tf b).2.2.2 = 0) (h1 : EncP sq ops) (h2 : batB sq ops = b.take (tf b).2.2.1) :
    replF (f + 1) acc at_ b = if acc ≠ [] ∧ sq ≠ afterB acc then (acc, at_, 61) else replF f (acc ++ [(sq, ops)]) (at_ + (tf b).2.2.1) (b.drop (tf b).2.2.1) := by
  have hex : ∃ x : Nat × List OpD, EncP x.1 x.2 ∧ batB x.1 x.2 = b.take (tf b).2.2.1 := ⟨(sq, ops), h1, h2⟩
  have hc : hex.choose = (sq, ops) := by
    obtain ⟨h3, h4⟩ := hex.choose_spec
    obtain ⟨h5, h6⟩ := EncP.inj h3 h1 (h4.trans h2.symm)
    exact Prod.ext h5 h6
  conv => lhs; unfold replF
  rw [if_neg h0, if_neg (fun k => k he), dif_pos hex, hc]
  rfl

set_option maxHeartbeats 1600000 in
set_option maxRecDepth 100000 in
theorem isenc_any (sq : Nat) (ops : List OpD) (A : Option Addr) (m c : Nat) (f : List UInt8) (Af : Option Addr) (nf cf : Nat) (w : World) (hm : m = ops.length) (hr : OpsRd w w.heap.size A ops) (hs : SmallO ops) (hq : sq < 18446744073709551616) (hT : Tab w) (h0 : 0 < w.heap.size) (hnf : nf = f.length) (hf : Rd w w.heap.size Af f) :
    Calls Tryd.prog 27 #[.agg #[.int .u64 sq, .slice A m c], .slice Af nf cf] w fun e w' => Tells e (EncP sq ops ∧ batB sq ops = f) ∧ Below w.heap.size w w' := by
  have hb := below1' w (.cells #[.int .u64 sq, .slice A m c] 25)
  have EN := Lib.hid (encode_any sq ops A m c _ hm ((hr.below hb).more hb.size) hs.w hq (hT.below hb h0) (Nat.lt_of_lt_of_le h0 hb.size))
  have HF := Lib.hid hf
  have HN := Lib.hid hnf
  clear hm hr hs hq hT h0 hf hnf
  go_enter Tryd.func27, Tryd.ntmps27
  go_wp2_with fail
  refine EN.out.mono ?_
  rintro e w1 ⟨⟨v, rfl, hok, hbad⟩, h1⟩
  have hb1 := hb.trans (h1.mono hb.size)
  by_cases he : encE sq ops = 0
  · have hE := encE_zero.1 he
    have hO := hok he
    obtain ⟨vA, vc, rfl, hrd⟩ := hO.rd
    have EQ := Lib.hid (equal_any (batB sq ops) f vA vc Af cf w1 hrd ((HF.out.below hb1).more hb1.size))
    replace EQ := EQ.out
    rw [← HN.out] at EQ
    replace EQ := Lib.hid EQ
    have HE := Lib.hid hE
    rw [he]
    obtain ⟨bb, hbb⟩ : ∃ x, x = decide (batB sq ops = f) := ⟨_, rfl⟩
    obtain ⟨nb, hnb⟩ : ∃ x, x = (batB sq ops).length := ⟨_, rfl⟩
    replace EQ := EQ.out
    rw [← hbb, ← hnb] at EQ
    replace EQ := Lib.hid EQ
    rw [← hnb]
    have HBB : Hid (bb = true ↔ (EncP sq ops ∧ batB sq ops = f)) := by
      show _ ↔ _
      rw [hbb, decide_eq_true_iff]
      exact ⟨fun h => ⟨hE, h⟩, fun h => h.2⟩
    clear hE hO hrd hok hbad h1 hb he EN hbb hnb
    go_wp2_with fail
    refine EQ.out.mono ?_
    rintro e w2 ⟨rfl, h2⟩
    have hb2 := hb1.trans (h2.mono hb1.size)
    clear h2 hb1 EQ
    go_wp2
    go_ret
    exact ⟨.of HBB.out, hb2⟩
  · have hno : Hid (¬ (EncP sq ops ∧ batB sq ops = f)) := fun h => he (encE_zero.2 h.1)
    obtain ⟨en, hen⟩ : ∃ x, x = encE sq ops := ⟨_, rfl⟩
    rw [← hen]
    have hv := hbad he
    subst hv
    have he' : ((en : Int) == 0) = false := by rw [beq_eq_false_iff_ne]; rw [hen]; omega
    clear hok hbad h1 hb he hen EN
    go_wp2
    go_ret
    exact ⟨.no hno.out, hb1⟩

set_option maxRecDepth 100000 in
theorem after_any (sq m c : Nat) (A : Option Addr) (w : World) (h : sq + m < 18446744073709551616) :
    Calls Tryd.prog 28 #[.agg #[.int .u64 sq, .slice A m c]] w fun e w' => e = .returned (.int .u64 ((sq + m : Nat) : Int)) ∧ Below w.heap.size w w' := by
  have hb := below1' w (.cells #[.int .u64 sq, .slice A m c] 25)
  have h1 : IntKind.u64.wrap (m : Int) = (m : Int) := IntWalk.u64_in _ (by omega)
  have h2 : IntKind.u64.wrap ((sq : Int) + (m : Int)) = (sq : Int) + (m : Int) := IntWalk.u64_in _ (by omega)
  go_enter Tryd.func28, Tryd.ntmps28
  go_wp2
  go_ret
  exact ⟨by simp, hb⟩
end Go.Proofs.YtfnifpgaieggbaaDoor
