/-
  The contract of the reference's Make.
-/
import Derived.Test.YtogfojohflkdnaaRefBits
import Derived.Test.YtogfojohflkdnaaHolds
import Derived.Test.YtogfojohflkdnaaCell
set_option linter.unusedVariables false
namespace Go.Proofs.Ytogfojohflkdnaa
open Go.RowKit

theorem Own.below {w w' : World} {base : Nat} {v : Value} {l : List UInt8} (h : Own w base v l) (hb : Below w.heap.size w w') : Own w' base v l := by
  unfold Own at h ⊢
  refine ⟨h.1, ?_⟩
  rcases h.2 with hn | ⟨g, cap, cur, hv, hg, hh, r⟩
  · exact .inl hn
  · exact .inr ⟨g, cap, cur, hv, hg, (hb.block g (Array.getElem?_eq_some_iff.1 hh).1).trans hh, r⟩
theorem own_at8' {w : World} {base g n c : Nat} {l : List UInt8} (h : Own w base (.slice (some ⟨g, 0, none⟩) n c) l) {i : Nat} (hi : i < l.length) : w.cell? ⟨g, i, none⟩ = some (.int .u8 (at8 l i : Int)) := by
  rw [h.cell i hi]
  unfold bv at8
  rw [List.getD_eq_getElem?_getD, List.getElem?_eq_getElem hi]
  rfl
theorem Own64.rdg {w : World} {base : Nat} {v : Value} {l : List Nat} (h : Own64 w base v l) (hl : l.length ≠ 0) : ∃ g c, v = .slice (some ⟨g, 0, none⟩) l.length c ∧ base ≤ g ∧ ∀ i (h : i < l.length), w.cell? ⟨g, 0 + i, none⟩ = some (nv l[i]) := by
  have hk := h
  unfold Own64 World.ownsRow at h
  rcases h.2 with ⟨_, hn⟩ | ⟨g, cap, cur, rfl, hb, hg, _, _, _, ht⟩
  · exact absurd hn hl
  · refine ⟨g, cap, rfl, hb, fun i hi => ?_⟩
    have := World.ownsRow.cells hk (g := g) rfl i (nv l[i]) (by simp [List.getElem?_map, List.getElem?_eq_getElem hi])
    rw [add_at] at this
    exact this
theorem foldl_drop {l : List Nat} {k : Nat} (h : k < l.length) (x : List UInt8) : (l.drop k).foldl setB x = (l.drop (k + 1)).foldl setB (setB x l[k]) := by
  rw [List.drop_eq_getElem_cons h, List.foldl_cons]

set_option maxHeartbeats 800000 in
set_option maxRecDepth 100000 in
theorem rmake_bad (K : Option Addr) (c n : Nat) (pk : Int) (w : World) (h : makeE n pk = true) :
    Calls Try.prog 12 #[.slice K n c, .int .i64 pk] w fun e w' => e = .returned (.tuple #[.slice none 0 0, .int .i64 1]) ∧ w = w' := by
  unfold makeE at h
  rw [decide_eq_true_iff] at h
  by_cases h1 : pk < 1
  · clear h
    go_enter Try.func12, Try.ntmps12
    go_wp2
    go_ret2
    exact ⟨rfl, rfl⟩
  · by_cases h2 : 30 < pk
    · clear h
      go_enter Try.func12, Try.ntmps12
      go_wp2
      go_ret2
      exact ⟨rfl, rfl⟩
    · have h3 : 65536 < n := by omega
      clear h
      go_enter Try.func12, Try.ntmps12
      go_wp2
      go_ret2
      exact ⟨rfl, rfl⟩

set_option maxHeartbeats 3200000 in
set_option maxRecDepth 100000 in
theorem rmake_ok (K : Option Addr) (c B pk : Nat) (ks : List (List UInt8)) (w : World) (hk : RdK w B K ks) (hB : B ≤ w.heap.size) (h1 : 1 ≤ pk) (h2 : pk ≤ 30) (h3 : ks.length ≤ 65536) :
    Calls Try.prog 12 #[.slice K ks.length c, .int .i64 pk] w fun e w' => ∃ v, e = .returned (.tuple #[v, .int .i64 0]) ∧ Own w' w.heap.size v (makeB ks pk) ∧ Below w.heap.size w w' := by
  have HK := Lib.hid hk
  clear hk
  obtain ⟨n, hn⟩ : ∃ n, n = ks.length := ⟨_, rfl⟩
  rw [← hn] at h3
  rw [← hn]
  have hpr : n * pk ≤ 65536 * 30 := Nat.mul_le_mul h3 h2
  obtain ⟨p, hp⟩ : ∃ p, p = n * pk := ⟨_, rfl⟩
  have hpi : (n : Int) * (pk : Int) = (p : Int) := by rw [hp]; push_cast; rfl
  obtain ⟨Q, hQ⟩ : ∃ Q, Q = (p + 63) / 64 := ⟨_, rfl⟩
  have hQi : ((p : Int) + 63) / 64 = (Q : Int) := by omega
  obtain ⟨R, hR⟩ : ∃ R, R = pk * 69 / 100 := ⟨_, rfl⟩
  have hRi : ((pk : Int) * 69) / 100 = (R : Int) := by omega
  rw [← hp] at hpr
  have HWQ : (Q ≤ 1 ∧ words n pk = 1) ∨ (1 < Q ∧ words n pk = Q) := by
    unfold words
    rw [← hp, ← hQ]
    omega
  have HPR : (R ≤ 1 ∧ probes pk = 1) ∨ (1 < R ∧ probes pk = R) := by
    unfold probes
    rw [← hR]
    omega
  have hQl : Q ≤ 30721 := by omega
  have hRl : R ≤ 20 := by omega
  have HM := Lib.hid (show makeB ks pk = addAll (blank n pk) ks by unfold makeB; rw [hn])
  have HN := Lib.hid hn
  have HB0 := Lib.hid (blank_at' n pk h2)
  clear hn hp hQ hR
  go_enter Try.func12, Try.ntmps12
  rcases HWQ with ⟨hq, hw⟩ | ⟨hq, hw⟩ <;> rcases HPR with ⟨hr, hpb⟩ | ⟨hr, hpb⟩
  all_goals
    have hwh := Lib.hid hw
    have hph := Lib.hid hpb
    clear hw hpb
    obtain ⟨W, hWd⟩ : ∃ W, W = words n pk := ⟨_, rfl⟩
    have hW1 : 1 ≤ W := by have := hwh.out; omega
    have hWl : W ≤ 30721 := by have := hwh.out; omega
    have hWh := Lib.hid (hWd.trans hwh.out)
    have hwd := Lib.hid hWd
    clear hWd
    go_wp2_with (at_make; refine make_zeros _ (W * 8 + 1) _ _ (by have := hWh.out; omega) (by have := hWh.out; omega) rfl _ _ rfl rfl rfl (by omega) ?_)
    intro w1 hown hbel hlt
    obtain ⟨X, c0⟩ : ∃ X, w1.cell? ⟨w.heap.size, 0, none⟩ = some (.int .u8 X) := ⟨_, hown.cell 0 (by simp)⟩
    have f0 := hown.free 0
    have o1 := hown.set 0 (by8 (probes pk))
    rw [List.replicate_succ, List.set_cons_zero, show by8 (probes pk) :: List.replicate (W * 8) 0 = blank n pk by unfold blank; rw [hwd.out]] at o1
    have hbl : (blank n pk).length = W * 8 + 1 := by rw [blank_len, hwd.out]
    have hb2 := hbel.setCell (p := ⟨w.heap.size, 0, none⟩) (Nat.le_refl _) (bv (by8 (probes pk)))
    have hpl : probes pk < 256 := by have := hph.out; omega
    have hb0 := HB0.out
    obtain ⟨L0, hL0⟩ : ∃ L0, L0 = blank n pk := ⟨_, rfl⟩
    rw [← hL0] at o1 hbl hb0
    have HM0 := Lib.hid (show makeB ks pk = addAll L0 ks by rw [HM.out, hL0])
    have HZ := Lib.hid (hb0.trans hph.out)
    clear hL0 hown hb0
    first
      | (have hv : bv (by8 (probes pk)) = .int .u8 1 := by (unfold bv; rw [by8_toNat hpl, hph.out]; rfl)
         rw [hv] at o1 hb2)
      | (have hv : bv (by8 (probes pk)) = .int .u8 (R : Int) := by (unfold bv; rw [by8_toNat hpl, hph.out])
         rw [hv] at o1 hb2)
    clear hpl hv
    replace o1 := Lib.hid o1
    replace hb2 := Lib.hid hb2
    go_wp2
    clear c0 f0 hbel hlt hRi hQi hpi
    go_loopw [9, 10, 11, 12, 13] (fun i _ _ _ _ wr => ∃ k : Nat, k ≤ n ∧ i = .int .i64 k ∧ Own wr w.heap.size (.slice (some ⟨w.heap.size, 0, none⟩) (W * 8 + 1) (W * 8 + 1)) (addAll L0 (ks.take k)) ∧ Below w.heap.size w wr) (fun i _ _ _ _ _ => n - (intOf i).toNat)
    case atStart => exact ⟨0, by omega, rfl, o1.out, hb2.out⟩
    case round =>
      obtain ⟨k, hk, rfl, ho, hb⟩ := hrel
      by_cases hlt : k < n
      · have hkl : k < ks.length := by have := HN.out; omega
        rcases HK.out with hnil | ⟨g, o, rfl, hg, hcell⟩
        · rw [hnil] at hkl; simp at hkl
        obtain ⟨a, ca, hc1, hc2, hc3⟩ := hcell k hkl
        have c1 := (hb.cell (p := ⟨g, o + k, none⟩) (Nat.lt_of_lt_of_le hg hB)).trans hc1
        have hlen : (addAll L0 (ks.take k)).length = W * 8 + 1 := by rw [addAll_len, hbl]
        have hat : at8 (addAll L0 (ks.take k)) 0 = at8 L0 0 := (addAll_sub (ks.take k) L0 (by omega)).2.1.symm
        have hPl : at8 L0 0 ≤ 255 := by have := at8_lt L0 0; omega
        have HBt := Lib.hid (fun (x y : Int) (hx : x = (at8 L0 0 : Int)) (hy : y = ((W * 8 * 8 : Nat) : Int)) => show Calls Try.prog 17 #[.slice a ks[k].length ca, .int .i64 x, .int .u64 y] wr fun e w' => ∃ v, e = .returned v ∧ Own64 w' wr.heap.size v (seq (at8 L0 0) (hash ks[k]) (step (hash ks[k])) (W * 8 * 8)) ∧ Below wr.heap.size wr w' by rw [hx, hy]; exact rbits_any a ca wr.heap.size (at8 L0 0) (W * 8 * 8) ks[k] wr (((hc2.more hB).below hb).more hb.size) (by omega) hPl (by omega) (by omega))
        have HT := Lib.hid (show (seq (at8 L0 0) (hash ks[k]) (step (hash ks[k])) (W * 8 * 8)).foldl setB (addAll L0 (ks.take k)) = addAll L0 (ks.take (k + 1)) by rw [addAll_take hkl]; unfold addK; rw [hlen, hat, addN_seq]; rfl)
        have hsl := seq_len (at8 L0 0) (hash ks[k]) (step (hash ks[k])) (W * 8 * 8)
        have hst := seq_lt (at8 L0 0) (hash ks[k]) (step (hash ks[k])) (W * 8 * 8) (by omega)
        have hz := HZ.out
        obtain ⟨L, hL⟩ : ∃ L, L = seq (at8 L0 0) (hash ks[k]) (step (hash ks[k])) (W * 8 * 8) := ⟨_, rfl⟩
        rw [← hL] at HBt HT hsl hst
        obtain ⟨PP, hPP⟩ : ∃ PP, PP = at8 L0 0 := ⟨_, rfl⟩
        rw [← hPP] at HBt hsl hz
        have hzz := Lib.hid hz
        have HST := Lib.hid hst
        have hP1 : 1 ≤ PP := by omega
        have hP2 : PP ≤ 255 := by omega
        clear hcell hc1 hc2 hL hPP hat hPl hst hz
        go_wp2_with fail
        refine (HBt.out _ _ (by have := hzz.out; omega) (by have := hWh.out; omega)).mono ?_
        rintro e w5 ⟨v, rfl, hL64, hb5⟩
        obtain ⟨gl, cl, rfl, hgl, hcl⟩ := hL64.rdg (by omega)
        have ho5 := ho.below hb5
        have hb6 := hb.trans (hb5.mono hb.size)
        have hgw := ho.lt.2
        have hne : gl ≠ w.heap.size := by omega
        obtain ⟨F0, hF0⟩ : ∃ F0, F0 = addAll L0 (ks.take k) := ⟨_, rfl⟩
        rw [← hF0] at ho5 hlen HT
        rw [hsl]
        clear hF0 hb ho hb5 c1 hL64
        go_wp2
        go_loopw [11, 12, 13] (fun i _ _ wr2 => ∃ (q : Nat) (l : List UInt8), q ≤ PP ∧ i = .int .i64 q ∧ Own wr2 w.heap.size (.slice (some ⟨w.heap.size, 0, none⟩) (W * 8 + 1) (W * 8 + 1)) l ∧ l.length = W * 8 + 1 ∧ (L.drop q).foldl setB l = L.foldl setB F0 ∧ Only w.heap.size w5 wr2) (fun i _ _ _ => PP - (intOf i).toNat)
        case atStart => exact ⟨0, F0, by omega, rfl, ho5, hlen, rfl, Only.refl _ _⟩
        case round =>
          obtain ⟨q, l, hq, rfl, hol, hll, hfold, hon⟩ := hrel
          replace hfold := Lib.hid hfold
          by_cases hlq : q < PP
          · have cj := cell_only (hcl q (by omega)) hon hne
            rw [Nat.zero_add] at cj
            obtain ⟨J, hJ⟩ : ∃ J, J = L[q]'(by omega) := ⟨_, rfl⟩
            rw [← hJ] at cj
            unfold nv at cj
            have hJl : J < W * 8 * 8 := by rw [hJ]; exact HST.out _ (List.getElem_mem _)
            have HF := Lib.hid (show (L.drop (q + 1)).foldl setB (setB l J) = L.foldl setB F0 by rw [← hfold.out, foldl_drop (l := L) (k := q) (by omega), ← hJ])
            obtain ⟨d, hd⟩ : ∃ d, d = J / 8 := ⟨_, rfl⟩
            obtain ⟨b, hb⟩ : ∃ b, b = J % 8 := ⟨_, rfl⟩
            have hdi : (J : Int) / 8 = (d : Int) := by omega
            have hbi : (J : Int) % 8 = (b : Int) := by omega
            have hdl : d < W * 8 := by omega
            have hbl8 : b < 8 := by omega
            have cx := own_at8' hol (i := 1 + d) (by omega)
            have fx := hol.free (1 + d)
            have hx8 := at8_lt l (1 + d)
            have HS := Lib.hid (show setB l J = l.set (1 + d) (by8 (at8 l (1 + d) ||| 2 ^ b)) by unfold setB; rw [← hd, ← hb])
            obtain ⟨x, hx⟩ : ∃ x, x = at8 l (1 + d) := ⟨_, rfl⟩
            rw [← hx] at cx hx8 HS
            have hpw : (2 : Int) ^ b % 256 = ((2 ^ b : Nat) : Int) := pow_mod8 hbl8
            have hpl : 2 ^ b < 256 := Nat.pow_lt_pow_right (by decide) hbl8
            obtain ⟨y, hy⟩ : ∃ y, y = 2 ^ b := ⟨_, rfl⟩
            rw [← hy] at hpw hpl HS
            have hor := or_u8 x y hx8 hpl
            have o1 := hol.set (1 + d) (by8 (x ||| y))
            rw [show bv (by8 (x ||| y)) = .int .u8 ((x ||| y : Nat) : Int) by unfold bv; rw [by8_toNat (Nat.or_lt_two_pow (n := 8) hx8 hpl)]] at o1
            rw [← HS.out] at o1
            have o1 := Lib.hid o1
            clear hJ hd hb hx hy
            go_wp2
            go_roundw
            case rel => exact ⟨q + 1, setB l J, by omega, by go_num, o1.out, by rw [setB_len]; exact hll, HF.out, hon.set1 _ _⟩
            case measure => simp [intOf]; omega
          · have hend : l = addAll L0 (ks.take (k + 1)) := by
              rw [← HT.out, ← hfold.out, List.drop_eq_nil_of_le (by omega)]
              rfl
            have he := Lib.hid hend
            have hb7 := hb6.trans (hon.below (Nat.le_refl _) hb6.size)
            clear hend
            go_wp2
            go_roundw
            case rel => exact ⟨k + 1, by omega, by go_num, by rw [← he.out]; exact hol, hb7⟩
            case measure => simp [intOf]; omega
      · have hkn : k = n := by omega
        subst hkn
        have HE := Lib.hid (show addAll L0 (ks.take k) = makeB ks pk by rw [HM0.out, List.take_of_length_le (by have := HN.out; omega)])
        go_wp2
        go_ret2
        exact ⟨_, rfl, by rw [← HE.out]; exact ho, hb⟩
end Go.Proofs.Ytogfojohflkdnaa
