/-
  Rows of ranges of the call's own; cloneAll.
-/
import Derived.Test.YtninjoepdchmiaaRClone
set_option linter.unusedVariables false
namespace Go.Proofs.Ytninjoepdchmiaa
open Go.RowKit

/-- the ends of ranges, apart from the blocks M -/
structure RTs (w : World) (M : Nat → Prop) (x : RV) : Prop where
  f : TxA w M x.F x.d.fr
  t : TxA w M x.T x.d.to
  lf : x.d.fr.length ≤ 140737488351232
  lt : x.d.to.length ≤ 140737488351232
  nf : x.F = none → x.fc = 0
  nt : x.T = none → x.tc = 0
theorem RTs.tx {w : World} {M : Nat → Prop} {x : RV} (h : RTs w M x) : RTx w w.heap.size x := ⟨h.f.rd, h.t.rd, h.lf, h.lt, h.nf, h.nt⟩
theorem RTs.turn {M M' : Nat → Prop} {w w' : World} {x : RV} (h : RTs w M' x) (ht : Turn M w w') (hM : ∀ k, k < w.heap.size → M k → M' k) : RTs w' M' x := ⟨ht.tx h.f hM, ht.tx h.t hM, h.lf, h.lt, h.nf, h.nt⟩
theorem RTs.keep {M : Nat → Prop} {w w' : World} {x : RV} (h : RTs w M x) (hb : Below w.heap.size w w') : RTs w' M x := h.turn (M := fun _ => False) (Turn.of_below hb) (fun _ _ h => h.elim)
theorem RTs.mono {M M' : Nat → Prop} {w : World} {x : RV} (h : RTs w M x) (hM : ∀ k, k < w.heap.size → M' k → M k) : RTs w M' x := ⟨h.f.mono hM, h.t.mono hM, h.lf, h.lt, h.nf, h.nt⟩
theorem RTs.app {w w' : World} {v : Value} {x : RV} {gq n cap : Nat} (h : RTs w (ownB v) x) (hg : w.grownBy w' v.ownBlock) (hv : v.ownBlock = some gq ∨ w.heap.size ≤ gq) : RTs w' (ownB (.slice (some ⟨gq, 0, none⟩) n cap)) x := ⟨h.f.app hg hv, h.t.app hg hv, h.lf, h.lt, h.nf, h.nt⟩
theorem NewR.rts {w : World} {b : Nat} {x : RV} {M : Nat → Prop} (h : NewR w b x) (lf : x.d.fr.length ≤ 140737488351232) (lt : x.d.to.length ≤ 140737488351232) (hM : ∀ k, b ≤ k → ¬ M k) : RTs w M x := ⟨h.1.1.tx hM, h.2.1.tx hM, lf, lt, h.1.2.2, h.2.2.2⟩
theorem infoR : (Try.prog.info? 46).map (fun i => (i.zero, i.size, i.bytes)) = some (some (.agg #[.int .i64 0, .slice none 0 0, .slice none 0 0, .int .i64 0]), 4, 64) := by kernel_rfl
/-- a row of ranges of the call's own -/
def RRow (w : World) (base : Nat) (v : Value) (L : List RV) : Prop := GRow 46 4 w base v (L.map rc)
theorem RRow.at {w : World} {base n c : Nat} {A : Option Addr} {L : List RV} (h : RRow w base (.slice A n c) L) {k : Nat} (hk : k < L.length) : ∃ q, A = some ⟨q, 0, none⟩ ∧ base ≤ q ∧ q < w.heap.size ∧ Cell w q (k * 4) (.int .i64 L[k].d.id) ∧ Cell w q (k * 4 + 1) (.slice L[k].F L[k].d.fr.length L[k].fc) ∧ Cell w q (k * 4 + 2) (.slice L[k].T L[k].d.to.length L[k].tc) ∧ Cell w q (k * 4 + 3) (.int .i64 L[k].d.gen) := by
  obtain ⟨q, hA, hb, hq, hc⟩ := GRow.cell (k := k) h (by simpa using hk)
  have e : (L.map rc)[k]'(by simpa using hk) = rc L[k] := by simp
  refine ⟨q, hA, hb, hq, ?_, ?_, ?_, ?_⟩
  · exact hc 0 (by omega) _ (by rw [e]; rfl)
  · exact hc 1 (by omega) _ (by rw [e]; rfl)
  · exact hc 2 (by omega) _ (by rw [e]; rfl)
  · exact hc 3 (by omega) _ (by rw [e]; rfl)
theorem RRow.rd {w : World} {base n c : Nat} {A : Option Addr} {L : List RV} {M : Nat → Prop} (h : RRow w base (.slice A n c) L) (ht : ∀ x ∈ L, RTs w M x) : RsRd w w.heap.size A L := by
  by_cases h0 : L = []
  · exact .inl h0
  · right
    obtain ⟨q, hA, _, hq, _⟩ := h.at (k := 0) (List.length_pos_iff.2 h0)
    refine ⟨q, 0, hA, hq, fun k hk => ?_⟩
    obtain ⟨q', hA', _, _, c0, c1, c2, c3⟩ := h.at hk
    rw [hA] at hA'
    injection hA' with hA'
    injection hA' with hA'
    subst hA'
    rw [Nat.zero_add]
    exact ⟨c0.1, c1.1, c2.1, c3.1, (ht _ (List.getElem_mem hk)).tx⟩
theorem RRow.len {w : World} {base n c : Nat} {A : Option Addr} {L : List RV} (h : RRow w base (.slice A n c) L) : n = L.length := by
  obtain ⟨A', c', e, _⟩ := GRow.form h
  obtain ⟨e1, e2, e3⟩ := Value.slice.inj e
  rw [e2]; simp

set_option maxHeartbeats 1600000 in
set_option maxRecDepth 100000 in
theorem cloneall_any (L : List RV) (A : Option Addr) (n c : Nat) (w : World) (hn : n = L.length) (hr : RsRd w w.heap.size A L) (hl : n ≤ 2199023255000) :
    Calls Try.prog 52 #[.slice A n c] w fun e w' => ∃ A' c', e = .returned (.slice A' n c') ∧ ∃ L', L'.map (·.d) = L.map (·.d) ∧ RRow w' w.heap.size (.slice A' n c') L' ∧ (∀ x ∈ L', RTs w' (ownB (.slice A' n c')) x) ∧ Below w.heap.size w w' := by
  have HR := Lib.hid hr
  have HN := Lib.hid hn
  clear hr hn
  go_enter Try.func52, Try.ntmps52
  go_wp2
  go_loopw [3, 8] (fun s3 s8 wr => ∃ (k : Nat) (A' : Option Addr) (c' : Nat), s8 = .int .i64 k ∧ k ≤ n ∧ s3 = .slice A' k c' ∧ Hid (∃ L' : List RV, L'.map (·.d) = (L.take k).map (·.d) ∧ RRow wr w.heap.size (.slice A' k c') L' ∧ (∀ x ∈ L', RTs wr (ownB (.slice A' k c')) x)) ∧ Below w.heap.size w wr) (fun _ s8 _ => n - (intOf s8).toNat)
  case atStart => exact ⟨0, none, 0, rfl, Nat.zero_le _, rfl, ⟨[], rfl, GRow.nil_ _ _ _ _, fun x h => nomatch h⟩, Below.refl _ _⟩
  case round =>
    obtain ⟨k, A', c', rfl, hk, rfl, HI, hb⟩ := hrel
    by_cases hlt : k < n
    · have hkl : k < L.length := by have := HN.out; omega
      rcases HR.out with h0 | ⟨q, o, hA, hq, hcell⟩
      · rw [h0] at hkl; simp at hkl
      rw [hA]
      obtain ⟨q0, q1, q2, q3, htx⟩ := hcell k hkl
      have HTK := Lib.hid (List.take_succ_eq_append_getElem hkl)
      obtain ⟨x, hx⟩ : ∃ x, x = L[k] := ⟨_, rfl⟩
      replace HTK := HTK.out
      rw [← hx] at q0 q1 q2 q3 htx HTK
      replace HTK := Lib.hid HTK
      have d0 := (hb.cell (p := ⟨q, o + k * 4, none⟩) hq).trans q0
      have d1 := (hb.cell (p := ⟨q, o + k * 4 + 1, none⟩) hq).trans q1
      have d2 := (hb.cell (p := ⟨q, o + k * 4 + 2, none⟩) hq).trans q2
      have d3 := (hb.cell (p := ⟨q, o + k * 4 + 3, none⟩) hq).trans q3
      have hbx := below1' wr (.cells #[.int .i64 x.d.id, .slice x.F x.d.fr.length x.fc, .slice x.T x.d.to.length x.tc, .int .i64 x.d.gen] 46)
      have hb2 := hb.trans (hbx.mono hb.size)
      have C := Lib.hid (clone_any x _ ((htx.below hb2).more hb2.size))
      replace C := C.out
      simp only [rval] at C
      replace C := Lib.hid C
      have HX := Lib.hid htx
      obtain ⟨L', hL, hR, hT⟩ := HI.out
      have HI1 := Lib.hid (And.intro hL (And.intro (GRow.keep hR hbx) (fun y hy => (hT y hy).keep hbx)))
      have HOW : Hid (∀ k', (Value.slice A' k c').ownBlock = some k' → w.heap.size ≤ k' ∧ k' < wr.heap.size) := fun k' h => GRow.lt hR k' h
      have hlt' : (k : Int) < (n : Int) := by omega
      have HB2 := Lib.hid hb2
      have HLB : Hid ((Value.slice A' k c').ownBlock = none ∨ True) := .inr trivial
      have HKL : Hid (k = L'.length) := hR.len
      clear hcell q0 q1 q2 q3 htx hx hb2 hbx hL hR hT HI hA hb HLB
      go_wp2_with fail
      refine C.out.mono ?_
      rintro e w3 ⟨y, rfl, hyd, hny, h3⟩
      have HB3 := Lib.hid (HB2.out.trans (h3.mono HB2.out.size))
      have HR3 := Lib.hid (GRow.keep HI1.out.2.1 h3)
      have HT3 := Lib.hid (fun z hz => (HI1.out.2.2 z hz).keep h3)
      have HY : Hid (RTs w3 (ownB (.slice A' k c')) y) := NewR.rts hny (by rw [hyd]; exact HX.out.lf) (by rw [hyd]; exact HX.out.lt) (fun k' h1 h2 => by have := (HOW.out k' h2).2; simp at h1; omega)
      have HYD := Lib.hid hyd
      clear h3 hny hyd C d0 d1 d2 d3
      go_wp2_with (at_builtin; refine app_grow w3 w.heap.size (.slice A' k c') k (L'.map rc) (rc y) #[.int .i64 y.d.id, .slice y.F y.d.fr.length y.fc, .slice y.T y.d.to.length y.tc, .int .i64 y.d.gen] rfl 46 22 4 64 _ infoR Try.underlying22 rfl (by decide) rfl (.tmp 12) (.tmp 15) rfl rfl w3.heap.size rfl rfl HR3.out rfl ?hone (by rw [List.length_map]; exact HKL.out) (by omega) (by omega) HB3.out.size ?_)
      case hone =>
        intro z hz
        simp only [rc, List.mem_cons, List.not_mem_nil, or_false] at hz
        rcases hz with rfl | rfl | rfl | rfl <;> rfl
      intro gq cap w5 o5 g5 l5
      have HB5 := Lib.hid (HB3.out.trans (grown_belowR g5 (fun z hz => (HOW.out z hz).1) HB3.out.size))
      have HF : Hid (∃ L'' : List RV, L''.map (·.d) = (L.take (k + 1)).map (·.d) ∧ RRow w5 w.heap.size (.slice (some ⟨gq, 0, none⟩) (k + 1) cap) L'' ∧ (∀ z ∈ L'', RTs w5 (ownB (.slice (some ⟨gq, 0, none⟩) (k + 1) cap)) z)) := by
        refine ⟨L' ++ [y], ?_, ?_, fun z hz => ?_⟩
        · rw [List.map_append, HI1.out.1, HTK.out, List.map_append]
          simp only [List.map_cons, List.map_nil]
          rw [HYD.out]
        · unfold RRow
          rw [List.map_append]
          exact o5
        · rcases List.mem_append.1 hz with hz | hz
          · exact (HT3.out z hz).app g5 l5
          · rw [List.mem_singleton.1 hz]; exact HY.out.app g5 l5
      clear o5 g5 l5
      go_wp2
      go_roundw
      case rel => exact ⟨k + 1, some ⟨gq, 0, none⟩, cap, by go_num, by omega, rfl, HF, HB5.out⟩
      case measure => simp [intOf]; omega
    · have hkn : k = n := by omega
      subst hkn
      obtain ⟨L', hL, hR, hT⟩ := HI.out
      rw [List.take_of_length_le (by have := HN.out; omega)] at hL
      have HF := Lib.hid (And.intro hL (And.intro hR hT))
      clear hL hR hT HI
      go_wp2
      go_ret
      exact ⟨A', c', rfl, L', HF.out.1, HF.out.2.1, HF.out.2.2, hb⟩
end Go.Proofs.Ytninjoepdchmiaa
