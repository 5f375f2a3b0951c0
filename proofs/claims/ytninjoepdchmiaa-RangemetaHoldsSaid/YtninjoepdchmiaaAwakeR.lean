/-
  The law's awake.
-/
import Derived.Test.YtninjoepdchmiaaParts
import Derived.Test.YtninjoepdchmiaaTFind
import Derived.Laws.Cover1
set_option linter.unusedVariables false
namespace Go.Proofs.Ytninjoepdchmiaa
open Go.RowKit

theorem lit1 {c : UInt8} {x : Int} (h : x = (c.toNat : Int)) (w : World) : Rd (w.alloc (.cells #[.int .u8 x] 5)) (w.heap.size + 1) (some ⟨w.heap.size, 0, none⟩) [c] := rd_lit w [c] #[.int .u8 x] (by rw [h]; rfl)
def ds1 : List RD := [⟨1, 1, [], []⟩]
def ds2 : List RD := [⟨1, 2, [], [109]⟩, ⟨2, 2, [109], []⟩]
theorem split1 : splitD ds1 1 2 [109] = (ds2, 0) := by kernel_rfl
theorem find2 : findK ds2 [122] = 1 ∧ findOk ds2 [122] = true := by decide +kernel
theorem tab2 : Tab ds2 := by
  have := splitD_tab tab_new 1 2 [109]
  rw [show splitD [⟨1, 1, [], []⟩] 1 2 [109] = (ds2, 0) from split1] at this
  exact this

set_option maxHeartbeats 1600000 in
set_option maxRecDepth 100000 in
theorem awake_any (w : World) :
    Calls Try.prog 10 #[] w fun e w' => e = .returned (.bool true) ∧ Below w.heap.size w w' := by
  go_enter Try.func10, Try.ntmps10
  go_wp2_with fail
  refine (new_any w).mono ?_
  rintro e w1 ⟨p, A, n, c, L, rfl, T, hL, h1⟩
  have kc1 := Lib.run_convert_bytes_const (P := Try.prog) w1 24 5 #[.int .u8 109] 1 1 Try.underlying24 Try.underlying5
  have hb2 := below1' w1 (.cells #[.int .u8 109] 5 (1, 2))
  have hS : Src (w1.alloc (.cells #[.int .u8 109] 5 (1, 2))) (some ⟨w1.heap.size, 0, none⟩) 1 1 [109] := ⟨⟨rfl, (fun h => nomatch h), by simp⟩, by simpa using rd_mark w1 [109] #[.int .u8 109] (1, 2) rfl⟩
  have hn : n = 1 := by have := T.len; rw [this, ← List.length_map (f := fun x : RV => x.d), hL]; rfl
  have SP := split_any w.heap.size p n c A L 1 2 (some ⟨w1.heap.size, 0, none⟩) 1 1 [109] _ (T.keep hb2) (by omega) (by rw [hL]; exact tab_new.gen) hS (fun _ q o e hm => by
    injection e with e
    injection e with e
    have := (T.mb q hm).2
    omega)
  rw [hL, show splitD [⟨1, 1, [], []⟩] 1 2 [109] = (ds2, 0) from split1] at SP
  have HSP := Lib.hid SP
  have HB2 := Lib.hid (And.intro h1 hb2)
  have HT := Lib.hid T
  clear SP hS hn hb2 hL h1 T
  go_wp2_with fail
  refine HSP.out.mono ?_
  rintro e w3 ⟨rfl, A', n', c', L', T', hL', hT'⟩
  clear kc1
  have kc2 := Lib.run_convert_bytes_const (P := Try.prog) w3 24 5 #[.int .u8 122] 1 1 Try.underlying24 Try.underlying5
  have HB3 := Lib.hid ((HB2.out.1.trans (HB2.out.2.mono HB2.out.1.size)).trans (hT'.below (fun k _ hk => (HT.out.mb k hk).1) (Nat.le_trans HB2.out.1.size HB2.out.2.size)))
  have hb4 := below1' w3 (.cells #[.int .u8 122] 5 (1, 2))
  have hS : Src (w3.alloc (.cells #[.int .u8 122] 5 (1, 2))) (some ⟨w3.heap.size, 0, none⟩) 1 1 [122] := ⟨⟨rfl, (fun h => nomatch h), by simp⟩, by simpa using rd_mark w3 [122] #[.int .u8 122] (1, 2) rfl⟩
  have hn : n' = 2 := by have := T'.len; rw [this, ← List.length_map (f := fun x : RV => x.d), hL']; rfl
  have FD := tfind_any w.heap.size p n' c' A' L' (some ⟨w3.heap.size, 0, none⟩) 1 1 [122] _ (T'.keep hb4) (by omega) (by rw [hL']; exact tab2.mono) hS (by rw [hL']; exact find2.2)
  rw [hL', find2.1] at FD
  simp only [rval] at FD
  have HFD := Lib.hid FD
  have HB4 := Lib.hid (HB3.out.trans (hb4.mono HB3.out.size))
  clear FD hS hn hb4 hL' T' hT' HSP HB2 HT
  go_wp2_with fail
  refine HFD.out.mono ?_
  rintro e w5 ⟨y, rfl, hy, _, h5⟩
  have HB5 := Lib.hid (HB4.out.trans (h5.mono HB4.out.size))
  have hyi : y.d.id = 2 := by
    have : ds2[1]? = some ⟨2, 2, [109], []⟩ := rfl
    rw [this] at hy
    injection hy with hy
    rw [← hy]
  have hbz := Lib.hid (HB5.out.alloc HB5.out.size (.cells #[.int .i64 2, .slice y.F y.d.fr.length y.fc, .slice y.T y.d.to.length y.tc, .int .i64 y.d.gen] 46))
  clear hy h5 HFD
  go_wp2
  go_ret
  exact ⟨rfl, hbz.out⟩

/-! ### the reference's In and Empty -/
set_option maxHeartbeats 1600000 in
set_option maxRecDepth 100000 in
theorem in_any (F T K : Option Addr) (nf fc nt tc nk kc : Nat) (f t key : List UInt8) (w : World) (hf : Rd w w.heap.size F f) (ht : Rd w w.heap.size T t) (hk : Rd w w.heap.size K key) (hnf : nf = f.length) (hnt : nt = t.length) (hnk : nk = key.length) :
    Calls Try.prog 29 #[.agg #[.slice F nf fc, .slice T nt tc], .slice K nk kc] w fun e w' => e = .returned (.bool (ctB f t key)) ∧ Below w.heap.size w w' := by
  have hb := below1' w (.cells #[.slice F nf fc, .slice T nt tc] 39)
  have sf := str_of (hf.below hb) fc
  have st := str_of (ht.below hb) tc
  have sk := str_of (hk.below hb) kc
  rw [← hnf] at sf
  rw [← hnt] at st
  rw [← hnk] at sk
  have l1 := less_cmp key f
  have l2 := less_cmp key t
  have hC : ctB f t key = (!decide (cmp key f < 0) && (decide (nt = 0) || decide (cmp key t < 0))) := by
    unfold ctB ebB
    have e1 : t.isEmpty = decide (nt = 0) := by rw [hnt]; cases t <;> simp
    rw [e1]
    congr 1
    rw [← decide_not]
    congr 1
    simp
  obtain ⟨r1, hr1⟩ : ∃ r, r = decide (cmp key f < 0) := ⟨_, rfl⟩
  obtain ⟨r2, hr2⟩ : ∃ r, r = decide (cmp key t < 0) := ⟨_, rfl⟩
  rw [← hr1] at l1 hC
  rw [← hr2] at l2 hC
  rw [hC]
  clear hf ht hk hnf hnk hr1 hr2 hC hnt
  by_cases h0 : nt = 0
  · have h0' : ((nt : Int) == 0) = true := by rw [h0]; rfl
    have h0n : decide (nt = 0) = true := by simp [h0]
    clear h0
    cases r1 <;> (
      go_enter Try.func29, Try.ntmps29
      go_wp2
      go_ret
      exact ⟨by rw [h0n]; rfl, hb⟩)
  · have h0' : ((nt : Int) == 0) = false := by rw [beq_eq_false_iff_ne]; omega
    have h0n : decide (nt = 0) = false := by simp [h0]
    cases r1 <;> cases r2 <;> (
      go_enter Try.func29, Try.ntmps29
      go_wp2
      go_ret
      exact ⟨by rw [h0n]; rfl, hb⟩)

set_option maxHeartbeats 1600000 in
set_option maxRecDepth 100000 in
theorem rempty_any (F T : Option Addr) (nf fc nt tc : Nat) (f t : List UInt8) (w : World) (hf : Rd w w.heap.size F f) (ht : Rd w w.heap.size T t) (hnf : nf = f.length) (hnt : nt = t.length) :
    Calls Try.prog 30 #[.agg #[.slice F nf fc, .slice T nt tc]] w fun e w' => e = .returned (.bool (emB f t)) ∧ Below w.heap.size w w' := by
  have hb := below1' w (.cells #[.slice F nf fc, .slice T nt tc] 39)
  have sf := str_of (hf.below hb) fc
  have st := str_of (ht.below hb) tc
  rw [← hnf] at sf
  rw [← hnt] at st
  have l1 := less_cmp t f
  have hC : emB f t = (!decide (nt = 0) && (decide (cmp t f < 0) || (t == f))) := by
    unfold emB
    have e1 : t.isEmpty = decide (nt = 0) := by rw [hnt]; cases t <;> simp
    rw [e1]
    congr 1
    by_cases h1 : t = f
    · subst h1
      simp [cmp_refl]
    · have h2 : cmp t f ≠ 0 := fun h => h1 (cmp_eq0 h)
      have h3 : (t == f) = false := by rw [beq_eq_false_iff_ne]; exact h1
      rw [h3, Bool.or_false]
      congr 1
      rw [eq_iff_iff]
      constructor <;> intro h <;> omega
  obtain ⟨r1, hr1⟩ : ∃ r, r = decide (cmp t f < 0) := ⟨_, rfl⟩
  obtain ⟨r2, hr2⟩ : ∃ r, r = (t == f) := ⟨_, rfl⟩
  rw [← hr1] at l1 hC
  rw [← hr2] at hC
  have l2 : (t == f) = r2 := hr2.symm
  rw [hC]
  clear hf ht hnf hr1 hr2 hC hnt
  by_cases h0 : nt = 0
  · have h0' : ¬ (0 : Int) < (nt : Int) := by omega
    have h0n : decide (nt = 0) = true := by simp [h0]
    clear h0
    go_enter Try.func30, Try.ntmps30
    go_wp2
    go_ret
    exact ⟨rfl, hb⟩
  · have h0' : (0 : Int) < (nt : Int) := by omega
    have h0n : decide (nt = 0) = false := by simp [h0]
    cases r1 <;> cases r2 <;> (
      go_enter Try.func30, Try.ntmps30
      go_wp2
      go_ret
      exact ⟨by rw [h0n]; rfl, hb⟩)
end Go.Proofs.Ytninjoepdchmiaa
