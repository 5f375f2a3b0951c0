/-
  The contract of bloom.Make.
-/
import Derived.Test.YtogfojohflkdnaaMay
namespace Go.Proofs.Ytogfojohflkdnaa
open Go.RowKit

/-- the slice at A reads as the list of keys -/
def RdK (w : World) (B : Nat) (A : Option Addr) (ks : List (List UInt8)) : Prop :=
  ks = [] ∨ ∃ g o, A = some ⟨g, o, none⟩ ∧ g < B ∧ ∀ i (h : i < ks.length), ∃ a c, w.cell? ⟨g, o + i, none⟩ = some (.slice a ks[i].length c) ∧ Rd w B a ks[i] ∧ ks[i].length ≤ 9223372036854775807
theorem RdK.below {w w' : World} {B : Nat} {A : Option Addr} {ks : List (List UInt8)} (h : RdK w B A ks) (hb : Below B w w') : RdK w' B A ks := by
  rcases h with h | ⟨g, o, e, hg, hc⟩
  · exact .inl h
  · refine .inr ⟨g, o, e, hg, fun i hi => ?_⟩
    obtain ⟨a, c, h1, h2, h3⟩ := hc i hi
    exact ⟨a, c, (hb.cell hg).trans h1, h2.below hb, h3⟩
theorem RdK.more {w : World} {B B' : Nat} {A : Option Addr} {ks : List (List UInt8)} (h : RdK w B A ks) (hB : B ≤ B') : RdK w B' A ks := by
  rcases h with h | ⟨g, o, e, hg, hc⟩
  · exact .inl h
  · refine .inr ⟨g, o, e, by omega, fun i hi => ?_⟩
    obtain ⟨a, c, h1, h2, h3⟩ := hc i hi
    exact ⟨a, c, h1, h2.more hB, h3⟩

/-- one more key in a filter -/
def addK (l key : List UInt8) : List UInt8 := addN (at8 l 0) (hash key) (step (hash key)) ((l.length - 1) * 8) l
def addAll (l : List UInt8) (ks : List (List UInt8)) : List UInt8 := ks.foldl addK l
theorem addK_len (l key : List UInt8) : (addK l key).length = l.length := addN_len _ _ _ _ _
theorem addAll_len (ks : List (List UInt8)) (l : List UInt8) : (addAll l ks).length = l.length := by
  unfold addAll
  induction ks generalizing l with
  | nil => rfl
  | cons k ks ih => rw [List.foldl_cons, ih, addK_len]
theorem addAll_take {l : List UInt8} {ks : List (List UInt8)} {i : Nat} (h : i < ks.length) : addAll l (ks.take (i + 1)) = addK (addAll l (ks.take i)) ks[i] := by
  unfold addAll
  rw [List.take_succ_eq_append_getElem h, List.foldl_append]
  rfl
def words (n pk : Nat) : Nat := max 1 ((n * pk + 63) / 64)
def probes (pk : Nat) : Nat := max 1 (pk * 69 / 100)
def blank (n pk : Nat) : List UInt8 := by8 (probes pk) :: List.replicate (words n pk * 8) 0
def makeB (ks : List (List UInt8)) (pk : Nat) : List UInt8 := addAll (blank ks.length pk) ks
def makeE (n : Nat) (pk : Int) : Bool := decide (pk < 1 ∨ 30 < pk ∨ 65536 < n)
theorem blank_len (n pk : Nat) : (blank n pk).length = words n pk * 8 + 1 := by simp [blank]
theorem blank_at' (n pk : Nat) (h : pk ≤ 30) : at8 (blank n pk) 0 = probes pk := by
  unfold blank at8
  simp only [List.getD_cons_zero]
  rw [by8_nat]
  unfold probes
  omega
theorem imax_pos {a b : Int} : (if a ≤ b then b else a) = max a b := by rw [Int.max_def]

set_option maxHeartbeats 800000 in
set_option maxRecDepth 100000 in
theorem make_bad (K : Option Addr) (c n : Nat) (pk : Int) (w : World) (h : makeE n pk = true) :
    Calls Try.prog 13 #[.slice K n c, .int .i64 pk] w fun e w' => e = .returned (.tuple #[.slice none 0 0, .int .i64 1]) ∧ w = w' := by
  unfold makeE at h
  rw [decide_eq_true_iff] at h
  by_cases h1 : pk < 1
  · clear h
    go_enter Try.func13, Try.ntmps13
    go_wp2
    go_ret2
    exact ⟨rfl, rfl⟩
  · by_cases h2 : 30 < pk
    · clear h
      go_enter Try.func13, Try.ntmps13
      go_wp2
      go_ret2
      exact ⟨rfl, rfl⟩
    · have h3 : 65536 < n := by omega
      clear h
      go_enter Try.func13, Try.ntmps13
      go_wp2
      go_ret2
      exact ⟨rfl, rfl⟩

set_option maxHeartbeats 1600000 in
set_option maxRecDepth 100000 in
theorem make_ok (K : Option Addr) (c B pk : Nat) (ks : List (List UInt8)) (w : World) (hk : RdK w B K ks) (hB : B ≤ w.heap.size) (h1 : 1 ≤ pk) (h2 : pk ≤ 30) (h3 : ks.length ≤ 65536) :
    Calls Try.prog 13 #[.slice K ks.length c, .int .i64 pk] w fun e w' => ∃ v, e = .returned (.tuple #[v, .int .i64 0]) ∧ Own w' w.heap.size v (makeB ks pk) ∧ Below w.heap.size w w' := by
  have HK := Lib.hid hk
  clear hk
  obtain ⟨n, hn⟩ : ∃ n, n = ks.length := ⟨_, rfl⟩
  rw [← hn] at h3
  rw [← hn]
  have hpr : n * pk ≤ 65536 * 30 := Nat.mul_le_mul h3 h2
  obtain ⟨p, hp⟩ : ∃ p, p = n * pk := ⟨_, rfl⟩
  have hpi : (n : Int) * (pk : Int) = (p : Int) := by rw [hp]; push_cast; rfl
  obtain ⟨Q, hQ⟩ : ∃ Q, Q = (p + 63) / 64 := ⟨_, rfl⟩
  have hQi : ((p : Int) + 64 - 1) / 64 = (Q : Int) := by omega
  obtain ⟨R, hR⟩ : ∃ R, R = pk * 69 / 100 := ⟨_, rfl⟩
  have hRi : ((pk : Int) * 69) / 100 = (R : Int) := by omega
  rw [← hp] at hpr
  have HWQ : (Q ≤ 1 ∧ words n pk = 1) ∨ (1 < Q ∧ words n pk = Q) := by
    unfold words
    rw [← hp, ← hQ]
    omega
  have HPR : (R ≤ 1 ∧ probes pk = 1) ∨ (1 < R ∧ probes pk = R) := by
    unfold probes
    rw [← hR]
    omega
  have hQl : Q ≤ 30721 := by omega
  have hRl : R ≤ 20 := by omega
  have HM := Lib.hid (show makeB ks pk = addAll (blank n pk) ks by unfold makeB; rw [hn])
  have HN := Lib.hid hn
  clear hn hp hQ hR
  go_enter Try.func13, Try.ntmps13
  rcases HWQ with ⟨hq, hw⟩ | ⟨hq, hw⟩ <;> rcases HPR with ⟨hr, hpb⟩ | ⟨hr, hpb⟩
  all_goals
    have hwh := Lib.hid hw
    have hph := Lib.hid hpb
    clear hw hpb
    obtain ⟨W, hWd⟩ : ∃ W, W = words n pk := ⟨_, rfl⟩
    have hW1 : 1 ≤ W := by have := hwh.out; omega
    have hWl : W ≤ 30721 := by have := hwh.out; omega
    have hWh := Lib.hid (hWd.trans hwh.out)
    have hwd := Lib.hid hWd
    clear hWd
    go_wp2_with (at_make; refine make_zeros _ (W * 8 + 1) _ _ (by have := hWh.out; omega) (by have := hWh.out; omega) rfl _ _ rfl rfl rfl (by omega) ?_)
    intro w1 hown hbel hlt
    obtain ⟨X, c0⟩ : ∃ X, w1.cell? ⟨w.heap.size, 0, none⟩ = some (.int .u8 X) := ⟨_, hown.cell 0 (by simp)⟩
    have f0 := hown.free 0
    have o1 := hown.set 0 (by8 (probes pk))
    rw [List.replicate_succ, List.set_cons_zero, show by8 (probes pk) :: List.replicate (W * 8) 0 = blank n pk by unfold blank; rw [hwd.out]] at o1
    have hbl : (blank n pk).length = W * 8 + 1 := by rw [blank_len, hwd.out]
    obtain ⟨L0, hL0⟩ : ∃ L0, L0 = blank n pk := ⟨_, rfl⟩
    rw [← hL0] at o1 hbl
    have HM0 := Lib.hid (show makeB ks pk = addAll L0 ks by rw [HM.out, hL0])
    have O1 := Lib.hid o1
    clear hL0 o1 hown
    have hb2 := hbel.setCell (p := ⟨w.heap.size, 0, none⟩) (Nat.le_refl _) (bv (by8 (probes pk)))
    have hpl : probes pk < 256 := by have := hph.out; omega
    have o1 := O1.out
    first
      | (have hv : bv (by8 (probes pk)) = .int .u8 1 := by (unfold bv; rw [by8_toNat hpl, hph.out]; rfl)
         rw [hv] at o1 hb2)
      | (have hv : bv (by8 (probes pk)) = .int .u8 (R : Int) := by (unfold bv; rw [by8_toNat hpl, hph.out])
         rw [hv] at o1 hb2)
    clear O1 hpl hv
    replace o1 := Lib.hid o1
    replace hb2 := Lib.hid hb2
    go_wp2
    clear c0 f0 hbel hlt hRi hQi hpi
    go_loopw [9, 42] (fun _ i wr => ∃ k : Nat, k ≤ n ∧ i = .int .i64 k ∧ Own wr w.heap.size (.slice (some ⟨w.heap.size, 0, none⟩) (W * 8 + 1) (W * 8 + 1)) (addAll L0 (ks.take k)) ∧ Below w.heap.size w wr) (fun _ i _ => n - (intOf i).toNat)
    case atStart => exact ⟨0, by omega, rfl, o1.out, hb2.out⟩
    case round =>
      obtain ⟨k, hk, rfl, ho, hb⟩ := hrel
      by_cases hlt : k < n
      · have hkl : k < ks.length := by have := HN.out; omega
        rcases HK.out with hnil | ⟨g, o, rfl, hg, hcell⟩
        · rw [hnil] at hkl; simp at hkl
        obtain ⟨a, ca, hc1, hc2, hc3⟩ := hcell k hkl
        have c1 := (hb.cell (p := ⟨g, o + k, none⟩) (Nat.lt_of_lt_of_le hg hB)).trans hc1
        have hlen : (addAll L0 (ks.take k)).length = W * 8 + 1 := by rw [addAll_len, hbl]
        have HP := Lib.hid (probe_lay w.heap.size (W * 8) (W * 8 + 1) w.heap.size (addAll L0 (ks.take k)) a ca ks[k] wr ho hlen ((hc2.more hB).below hb) (by omega) (by omega) (by omega))
        have HT := Lib.hid (show addN (at8 (addAll L0 (ks.take k)) 0) (hash ks[k]) (step (hash ks[k])) (W * 8 * 8) (addAll L0 (ks.take k)) = addAll L0 (ks.take (k + 1)) by rw [addAll_take hkl]; unfold addK; rw [hlen]; rfl)
        clear hcell hc1 hc2
        go_wp2_with fail
        refine HP.out.mono ?_
        rintro e w3 ⟨rfl, o3, hb3⟩
        go_wp2
        go_roundw
        case rel => exact ⟨k + 1, by omega, by go_num, by rw [← HT.out]; exact o3, hb.trans hb3⟩
        case measure => simp [intOf]; omega
      · have hkn : k = n := by omega
        subst hkn
        have HE := Lib.hid (show addAll L0 (ks.take k) = makeB ks pk by rw [HM0.out, List.take_of_length_le (by have := HN.out; omega)])
        go_wp2
        go_ret2
        exact ⟨_, rfl, by rw [← HE.out]; exact ho, hb⟩
end Go.Proofs.Ytogfojohflkdnaa
