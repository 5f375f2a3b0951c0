/-
  The walk of the law BloomMakes.
-/
import Derived.Test.YtogfojohflkdnaaSame
import Derived.Test.YtogfojohflkdnaaRefMake
import Derived.Test.YtogfojohflkdnaaLawOrder
import Derived.Test.YtogfojohflkdnaaLawHolds
set_option linter.unusedVariables false
namespace Go.Proofs.Ytogfojohflkdnaa
open Go.RowKit

theorem rmake_full (K : Option Addr) (c B : Nat) (pk : Int) (ks : List (List UInt8)) (w : World) (hk : RdK w B K ks) (hB : B ≤ w.heap.size) :
    Calls Try.prog 12 #[.slice K ks.length c, .int .i64 pk] w fun e w' => ∃ A c, e = .returned (.tuple #[.slice A (mk ks pk).length c, .int .i64 (mkE ks.length pk)]) ∧ Rd w' w'.heap.size A (mk ks pk) ∧ Below w.heap.size w w' := by
  unfold mk mkE
  rcases he : makeE ks.length pk with _ | _
  · rw [if_neg (by simp), if_neg (by simp)]
    unfold makeE at he
    rw [decide_eq_false_iff_not] at he
    have h := rmake_ok K c B pk.toNat ks w hk hB (by omega) (by omega) (by omega)
    rw [show ((pk.toNat : Nat) : Int) = pk by omega] at h
    refine h.mono ?_
    rintro e w' ⟨v, rfl, ho, hb⟩
    obtain ⟨A, c, rfl, hr⟩ := ho.rd
    exact ⟨A, c, rfl, hr, hb⟩
  · rw [if_pos rfl, if_pos rfl]
    refine (rmake_bad K c ks.length pk w he).mono ?_
    rintro e w' ⟨rfl, rfl⟩
    exact ⟨none, 0, rfl, Rd.nil_ _ _ _, Below.refl _ _⟩
theorem make_own (K : Option Addr) (c B : Nat) (pk : Int) (ks : List (List UInt8)) (w : World) (hk : RdK w B K ks) (hB : B ≤ w.heap.size) :
    Calls Try.prog 13 #[.slice K ks.length c, .int .i64 pk] w fun e w' => ∃ v, e = .returned (.tuple #[v, .int .i64 (mkE ks.length pk)]) ∧ Own w' w.heap.size v (mk ks pk) ∧ Below w.heap.size w w' := by
  unfold mk mkE
  rcases he : makeE ks.length pk with _ | _
  · rw [if_neg (by simp), if_neg (by simp)]
    unfold makeE at he
    rw [decide_eq_false_iff_not] at he
    have h := make_ok K c B pk.toNat ks w hk hB (by omega) (by omega) (by omega)
    rw [show ((pk.toNat : Nat) : Int) = pk by omega] at h
    exact h
  · rw [if_pos rfl, if_pos rfl]
    refine (make_bad K c ks.length pk w he).mono ?_
    rintro e w' ⟨rfl, rfl⟩
    exact ⟨_, rfl, Own.nil_ _ _, Below.refl _ _⟩
theorem mk_len (ks : List (List UInt8)) (pk : Int) : (mk ks pk).length ≤ 300000 := by
  unfold mk
  split
  · simp
  · rename_i he
    unfold makeE at he
    rw [decide_eq_true_iff] at he
    rw [makeB_len]
    have : ks.length * pk.toNat ≤ 65536 * 30 := Nat.mul_le_mul (by omega) (by omega)
    unfold words; omega

set_option maxHeartbeats 3200000 in
set_option maxRecDepth 100000 in
theorem law_makes (K : Option Addr) (c : Nat) (pk : Int) (ks : List (List UInt8)) (w : World) (hk : RdK w w.heap.size K ks) (hl : ks.length ≤ 5864062014634) (hle : ∀ k ∈ ks, k.length ≤ 140737488351232) :
    Calls Try.prog 4 #[.slice K ks.length c, .int .i64 pk] w fun e w' => e = .returned (.bool true) ∧ Below w.heap.size w w' := by
  have HK := Lib.hid hk
  have C1 := Lib.hid (fun w hr => lent_any K c ks w hr (by omega) hle)
  have C2 := Lib.hid (fun w hr => rmake_full K c w.heap.size pk ks w hr (Nat.le_refl _))
  have C3 := Lib.hid (fun K' c' w hr => make_own K' c' w.heap.size pk ks w hr (Nat.le_refl _))
  have C4 := Lib.hid (fun K' c' w hr hr' => same_any K' K c' c w.heap.size ks w hr hr' hl)
  have hML := mk_len ks pk
  obtain ⟨S, hS⟩ : ∃ S, S = mk ks pk := ⟨_, rfl⟩
  obtain ⟨E, hE⟩ : ∃ E, E = mkE ks.length pk := ⟨_, rfl⟩
  rw [← hS, ← hE] at C2 C3
  rw [← hS] at hML
  obtain ⟨n, hn⟩ : ∃ n, n = ks.length := ⟨_, rfl⟩
  rw [← hn] at C1 C2 C3 C4
  rw [← hn]
  have HN := Lib.hid hn
  clear hk hS hE hl hle hn
  go_enter Try.func4, Try.ntmps4
  go_wp2_with fail
  refine (shown_any _).mono ?_
  rintro e w1 ⟨rfl, hb⟩
  go_wp2_with fail
  refine (C1.out _ ((HK.out.below hb).more hb.size)).mono ?_
  rintro e w2 ⟨v, ps, rfl, ho, hps, hkv, hb2⟩
  obtain ⟨K2, c2, rfl, hrv⟩ := ho.rd
  have hr2 : RdK w2 w2.heap.size K2 ks := by rw [← hps]; exact RdK.of hrv hkv
  have hpl : (ps.map (·.1)).length = n := by rw [HN.out, ← hps, List.length_map, List.length_map]
  rw [hpl]
  have hb := hb.trans (hb2.mono hb.size)
  clear hb2 hps hkv hrv ho hpl
  go_wp2_with fail
  refine (C2.out _ ((HK.out.below hb).more hb.size)).mono ?_
  rintro e w3 ⟨A3, c3, rfl, r3, hb3⟩
  have hr2 := (hr2.below hb3).more hb3.size
  have hb := hb.trans (hb3.mono hb.size)
  clear hb3
  go_wp2_with fail
  refine (C3.out _ _ _ hr2).mono ?_
  rintro e w4 ⟨v4, rfl, o4, hb4⟩
  obtain ⟨A4, c4, rfl, r4⟩ := o4.rd
  have q4 := str_of r4 c4
  have q3 := str_of (r3.below hb4) c3
  obtain ⟨m, hm⟩ : ∃ m, m = S.length := ⟨_, rfl⟩
  rw [← hm] at q4 q3 hML o4
  rw [← hm]
  replace hm := Lib.hid hm
  go_wp2
  clear q4 q3 r4
  go_loopw [12] (fun i wr => ∃ (k : Nat) (l : List UInt8), k ≤ m ∧ i = .int .i64 k ∧ l.length = m ∧ Own wr w3.heap.size (.slice A4 m c4) l ∧ Below w3.heap.size w3 wr) (fun i _ => m - (intOf i).toNat)
  case atStart => exact ⟨0, S, by omega, rfl, hm.out.symm, o4, hb4⟩
  case round =>
    obtain ⟨k, l, hk, rfl, hll, ho, hbr⟩ := hrel
    by_cases hlt : k < m
    · obtain ⟨g, cc, he, hgb⟩ := ho.shape (by omega)
      obtain ⟨rfl, -, rfl⟩ : A4 = some ⟨g, 0, none⟩ ∧ m = l.length ∧ c4 = cc := by injection he with h1 h2 h3; exact ⟨h1, h2, h3⟩
      obtain ⟨X, c1⟩ : ∃ X, wr.cell? ⟨g, k, none⟩ = some (.int .u8 X) := ⟨_, ho.cell k (by omega)⟩
      have f1 := ho.free k
      have o1 := Lib.hid (ho.set k 77)
      have hb1 := hbr.setCell (p := ⟨g, k, none⟩) hgb (bv 77)
      replace hb1 := Lib.hid hb1
      clear he
      go_wp2
      go_roundw
      case rel => exact ⟨k + 1, l.set k 77, by omega, by go_num, by rw [List.length_set]; exact hll, o1.out, hb1.out⟩
      case measure => simp [intOf]; omega
    · have hr5 := (hr2.below hbr).more hbr.size
      have r5 := (r3.below hbr).more hbr.size
      have hb5 := hb.trans (hbr.mono hb.size)
      clear hr2 r3 hbr ho o4 hb4 hb
      go_wp2_with fail
      refine (C3.out _ _ _ hr5).mono ?_
      rintro e w6 ⟨v6, rfl, o6, hb6⟩
      obtain ⟨A6, c6, rfl, r6⟩ := o6.rd
      have hr6 := (hr5.below hb6).more hb6.size
      have r7 := (r5.below hb6).more hb6.size
      have hb7 := hb5.trans (hb6.mono hb5.size)
      clear hr5 r5 hb6 hb5 o6
      go_wp2_with fail
      refine (C4.out _ _ _ hr6 ((HK.out.below hb7).more hb7.size)).mono ?_
      rintro e w8 ⟨rfl, hb8⟩
      have q6 := str_of (r6.below hb8) c6
      have q7 := str_at (r7.below hb8) c3 m hm.out
      have hb9 := hb7.trans (hb8.mono hb7.size)
      clear hr6 r6 r7 hb8 hb7
      go_wp2
      go_ret
      exact ⟨by simp, hb9⟩
end Go.Proofs.Ytogfojohflkdnaa
