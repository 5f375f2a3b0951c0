/-
  The walk of the law BloomOrder.
-/
import Derived.Test.YtogfojohflkdnaaPerm
import Derived.Test.YtogfojohflkdnaaKeys
set_option linter.unusedVariables false
namespace Go.Proofs.Ytogfojohflkdnaa
open Go.RowKit

def mk (ks : List (List UInt8)) (pk : Int) : List UInt8 := if makeE ks.length pk = true then [] else makeB ks pk.toNat
def mkE (n : Nat) (pk : Int) : Int := if makeE n pk = true then 1 else 0
theorem make_full (K : Option Addr) (c B : Nat) (pk : Int) (ks : List (List UInt8)) (w : World) (hk : RdK w B K ks) (hB : B ≤ w.heap.size) :
    Calls Try.prog 13 #[.slice K ks.length c, .int .i64 pk] w fun e w' => ∃ A c, e = .returned (.tuple #[.slice A (mk ks pk).length c, .int .i64 (mkE ks.length pk)]) ∧ Rd w' w'.heap.size A (mk ks pk) ∧ Below w.heap.size w w' := by
  unfold mk mkE
  rcases he : makeE ks.length pk with _ | _
  · rw [if_neg (by simp), if_neg (by simp)]
    unfold makeE at he
    rw [decide_eq_false_iff_not] at he
    have h := make_ok K c B pk.toNat ks w hk hB (by omega) (by omega) (by omega)
    rw [show ((pk.toNat : Nat) : Int) = pk by omega] at h
    refine h.mono ?_
    rintro e w' ⟨v, rfl, ho, hb⟩
    obtain ⟨A, c, rfl, hr⟩ := ho.rd
    exact ⟨A, c, rfl, hr, hb⟩
  · rw [if_pos rfl, if_pos rfl]
    refine (make_bad K c ks.length pk w he).mono ?_
    rintro e w' ⟨rfl, rfl⟩
    exact ⟨none, 0, rfl, Rd.nil_ _ _ _, Below.refl _ _⟩
theorem mk_perm {ks ks' : List (List UInt8)} (h : ks'.Perm ks) (pk : Int) : mk ks' pk = mk ks pk ∧ mkE ks'.length pk = mkE ks.length pk := by
  unfold mk
  rw [h.length_eq, makeB_perm h]
  exact ⟨rfl, rfl⟩

/-- keys[:e] -/
theorem cutK_run {A : Option Addr} {n c e : Nat} (hc : e ≤ c) : ∀ W' : World, (Instr.slice 27 (.slice A n c) none (some (.int .i64 (e : Int))) none).run Try.prog W' = .ok (.slice A e c) W' := by
  obtain ⟨i0, hi0, hz0, hz1, hz2⟩ := info_parts infoK
  have hu : Try.prog.underlying 27 = some (.slice (Try.prog.elem 27)) := by simp [Program.elem, Try.underlying27]
  have hel : Try.prog.elem 27 = 22 := by simp [Program.elem, Try.underlying27]
  intro W'
  rw [run_slice_h W' 27 A n c hu .i64 (e : Int) (by omega) (by omega), hel]
  have hs : (Go.sizeOf 22).run Try.prog W' = .ok 1 W' := by simp [Go.sizeOf, typeInfo, hi0, hz1]
  rw [hs]
  have hadd : A.map (fun x => x.add 0) = A := by
    cases A with
    | none => rfl
    | some a => simp [Addr.add]
  by_cases h0 : c = 0
  · simp [sliced, Result.andThen, h0]
  · simp [sliced, Result.andThen, h0, hadd]

set_option maxHeartbeats 800000 in
set_option maxRecDepth 100000 in
theorem order_early (K : Option Addr) (c n : Nat) (pk t : Int) (w : World) (h : n = 0 ∨ t < 0) :
    Calls Try.prog 7 #[.slice K n c, .int .i64 pk, .int .i64 t] w fun e w' => e = .returned (.bool true) ∧ Below w.heap.size w w' := by
  by_cases h0 : n = 0
  · subst h0
    clear h
    go_enter Try.func7, Try.ntmps7
    go_wp2_with fail
    refine (shown_any _).mono ?_
    rintro e w1 ⟨rfl, hb⟩
    go_wp2
    go_ret
    exact ⟨rfl, hb⟩
  · have ht : t < 0 := by omega
    have hn0 : ((n : Int) == 0) = false := by rw [beq_eq_false_iff_ne]; omega
    clear h
    go_enter Try.func7, Try.ntmps7
    go_wp2_with fail
    refine (shown_any _).mono ?_
    rintro e w1 ⟨rfl, hb⟩
    go_wp2
    go_ret
    exact ⟨rfl, hb⟩

set_option maxHeartbeats 3200000 in
set_option maxRecDepth 100000 in
theorem order_late (K : Option Addr) (c t : Nat) (pk : Int) (ks : List (List UInt8)) (w : World) (hk : RdK w w.heap.size K ks) (h0 : ks.length ≠ 0) (hc : ks.length ≤ c) (hl : ks.length ≤ 5864062014634) (ht : t < 9223372036854775808) :
    Calls Try.prog 7 #[.slice K ks.length c, .int .i64 pk, .int .i64 (t : Int)] w fun e w' => e = .returned (.bool true) ∧ Below w.heap.size w w' := by
  obtain ⟨ps, rfl, hv, hkv⟩ := hk.pairs
  rw [List.length_map] at h0 hc hl ⊢
  rcases hv with h | ⟨g, o, rfl, hg, hcell⟩
  · exact absurd (by simpa using congrArg List.length h) h0
  obtain ⟨k, hkk⟩ : ∃ k, k = t % ps.length := ⟨_, rfl⟩
  have hkl : k < ps.length := by rw [hkk]; exact Nat.mod_lt _ (by omega)
  obtain ⟨n, hn⟩ : ∃ n, n = ps.length := ⟨_, rfl⟩
  have hmi : (t : Int) % (n : Int) = (k : Int) := by rw [hkk, hn]; push_cast; rfl
  rw [← hn] at h0 hc hl hkl ⊢
  have hn0 : ((n : Int) == 0) = false := by rw [beq_eq_false_iff_ne]; omega
  have HN := Lib.hid hn
  have HP := Lib.hid (mk_perm (((turned_perm ps (k + 1)).map (·.2))) pk)
  have HK := Lib.hid hk
  have HV := Lib.hid hkv
  have HC := Lib.hid hcell
  obtain ⟨S, hS⟩ : ∃ S, S = mk (ps.map (·.2)) pk := ⟨_, rfl⟩
  obtain ⟨E, hE⟩ : ∃ E, E = mkE (ps.map (·.2)).length pk := ⟨_, rfl⟩
  rw [← hS, ← hE] at HP
  have hE' : E = mkE n pk := by rw [hE, List.length_map, hn]
  have C1 := Lib.hid (fun w hr => make_full (some ⟨g, o, none⟩) c w.heap.size pk (ps.map (·.2)) w hr (Nat.le_refl _))
  rw [← hS, ← hE, List.length_map, ← hn] at C1
  clear hk hkk hn hkv hcell hS hE hE'
  go_enter Try.func7, Try.ntmps7
  go_wp2_with fail
  refine (shown_any _).mono ?_
  rintro e w1 ⟨rfl, hb⟩
  go_wp2
  rw [hmi]
  clear hmi hn0
  have hs1 := hb.size
  go_loopw [9, 10] (fun v i wr => ∃ j : Nat, k ≤ j ∧ j + 1 ≤ n ∧ i = .int .i64 j ∧ OwnV wr w1.heap.size v ((ps.drop (j + 1)).reverse.map (·.1)) ∧ Below w1.heap.size w1 wr) (fun _ i _ => (intOf i).toNat)
  case atStart => exact ⟨n - 1, by omega, by omega, by go_num, by rw [List.drop_eq_nil_of_le (by have := HN.out; omega)]; exact OwnV.nil_ _ _, Below.refl _ _⟩
  case round =>
    obtain ⟨j, hj1, hj2, rfl, ho, hb2⟩ := hrel
    have hlen : ((ps.drop (j + 1)).reverse.map (·.1)).length = n - (j + 1) := by have := HN.out; simp; omega
    by_cases hlt : k < j
    · obtain ⟨q, rfl⟩ : ∃ q, j = q + 1 := ⟨j - 1, by omega⟩
      have hqp : q + 1 < ps.length := by have := HN.out; omega
      have c1 : wr.cell? ⟨g, o + (q + 1), none⟩ = some ps[q + 1].1 := by
        rw [hb2.cell (Nat.lt_of_lt_of_le hg hs1), hb.cell hg, HC.out (q + 1) (by simpa using hqp), List.getElem_map]
      have HD := Lib.hid (show (ps.drop (q + 1 + 1)).reverse.map (·.1) ++ [ps[q + 1].1] = (ps.drop (q + 1)).reverse.map (·.1) by rw [List.drop_eq_getElem_cons hqp, List.reverse_cons, List.map_append]; rfl)
      obtain ⟨ua, uc, hue, _, _⟩ := HV.out ps[q + 1] (List.getElem_mem hqp)
      obtain ⟨um, hum⟩ : ∃ um, um = ps[q + 1].2.length := ⟨_, rfl⟩
      rw [← hum] at hue
      obtain ⟨L, hL⟩ : ∃ L, L = (ps.drop (q + 1 + 1)).reverse.map (·.1) := ⟨_, rfl⟩
      rw [← hL] at ho hlen HD
      rw [hue] at c1 HD
      clear hL hue hum
      have hqi : ((q + 1 : Nat) : Int) = (q : Int) + 1 := by omega
      go_wp2_with (at_builtin; refine app_val _ w1.heap.size _ L (.slice ua um uc) rfl (.tmp 36) (.tmp 41) rfl rfl rfl ho rfl ?e2 ?e3 ?_)
      case e2 => omega
      case e3 => exact hb2.size
      intro v1 w3 o3 hb3
      rw [HD.out] at o3
      go_wp2
      go_roundw
      case rel => exact ⟨q, by omega, by omega, by go_num, o3, hb2.trans hb3⟩
      case measure => simp [intOf]
    · obtain rfl : k = j := by omega
      have hcut : ∀ W' : World, (Instr.slice 27 (.slice (some ⟨g, o, none⟩) n c) none (some (.int .i64 ((k : Int) + 1))) none).run Try.prog W' = .ok (.slice (some ⟨g, o, none⟩) (k + 1) c) W' := fun W' => by
        have := cutK_run (A := some ⟨g, o, none⟩) (n := n) (c := c) (e := k + 1) (by omega) W'
        rw [show (((k + 1 : Nat)) : Int) = (k : Int) + 1 by omega] at this
        exact this
      obtain ⟨L, hL⟩ : ∃ L, L = (ps.drop (k + 1)).reverse.map (·.1) := ⟨_, rfl⟩
      obtain ⟨R, hR⟩ : ∃ R, R = (ps.take (k + 1)).map (·.1) := ⟨_, rfl⟩
      have hRl : k + 1 = R.length := by have := HN.out; rw [hR]; simp; omega
      have hcR : ∀ i (h : i < R.length), wr.cell? ⟨g, o + i, none⟩ = some R[i] := by
        intro i hi
        have hi' : i < ps.length := by have := HN.out; omega
        subst hR
        rw [hb2.cell (Nat.lt_of_lt_of_le hg hs1), hb.cell hg, HC.out i (by simpa using hi'), List.getElem_map, List.getElem_map, List.getElem_take]
      have hone : ∀ u ∈ R, u.oneCell' = true := by
        intro u hu
        rw [hR] at hu
        obtain ⟨p, hp, rfl⟩ := List.mem_map.1 hu
        exact (HV.out p (List.mem_of_mem_take hp)).one
      have HLR := Lib.hid (show L ++ R = ((ps.drop (k + 1)).reverse ++ ps.take (k + 1)).map (·.1) by rw [hL, hR, List.map_append])
      rw [← hL] at ho hlen
      replace hcR := Lib.hid hcR
      replace hone := Lib.hid hone
      replace hRl := Lib.hid hRl
      clear hL hR
      go_wp2_with (at_builtin; refine app_vals _ w1.heap.size _ L R g o (k + 1) c hRl.out rfl (.tmp 43) (.tmp 47) rfl rfl rfl ho hcR.out hone.out ?e2 ?e3 ?_)
      case e2 => have := hRl.out; omega
      case e3 => exact hb2.size
      intro v1 w3 o3 hb3
      rw [HLR.out] at o3
      obtain ⟨A', c', rfl, rv⟩ := o3.rd
      have hb4 := hb.trans ((hb2.trans hb3).mono hs1)
      clear hb2 hb3 hcut ho
      go_wp2_with fail
      refine (C1.out _ ((HK.out.below hb4).more hb4.size)).mono ?_
      rintro e w5 ⟨A1, c1, rfl, r1, hb5⟩
      have hk' : RdK w5 w5.heap.size A' (((ps.drop (k + 1)).reverse ++ ps.take (k + 1)).map (·.2)) := by
        refine RdK.of ((rv.below hb5).more' hb5.size) (fun p hp => ?_)
        have hp' : p ∈ ps := by
          rcases List.mem_append.1 hp with h | h
          · exact List.mem_of_mem_drop (List.mem_reverse.1 h)
          · exact List.mem_of_mem_take h
        have hb45 := hb4.trans (hb5.mono hb4.size)
        exact ((HV.out p hp').below hb45).more hb45.size
      have C2 := Lib.hid (make_full A' c' w5.heap.size pk _ w5 hk' (Nat.le_refl _))
      rw [HP.out.1, HP.out.2] at C2
      rw [show (((ps.drop (k + 1)).reverse ++ ps.take (k + 1)).map (·.1)).length = (((ps.drop (k + 1)).reverse ++ ps.take (k + 1)).map (·.2)).length by rw [List.length_map, List.length_map]]
      obtain ⟨m, hm⟩ : ∃ m, m = (((ps.drop (k + 1)).reverse ++ ps.take (k + 1)).map (·.2)).length := ⟨_, rfl⟩
      rw [← hm] at C2
      rw [← hm]
      have hb6 := hb4.trans (hb5.mono hb4.size)
      clear hm hk' hb5 rv o3 hb4
      go_wp2_with fail
      refine C2.out.mono ?_
      rintro e w7 ⟨A2, c2, rfl, r2, hb7⟩
      have q1 := str_of (r1.below hb7) c1
      have q2 := str_of r2 c2
      have hb8 := hb6.trans (hb7.mono hb6.size)
      clear hb7 hb6 r1 r2
      go_wp2
      go_ret
      exact ⟨by simp, hb8⟩

theorem law_order (K : Option Addr) (c : Nat) (pk t : Int) (ks : List (List UInt8)) (w : World) (hk : RdK w w.heap.size K ks) (hc : ks.length ≤ c) (hl : ks.length ≤ 5864062014634) (ht : t < 9223372036854775808) :
    Calls Try.prog 7 #[.slice K ks.length c, .int .i64 pk, .int .i64 t] w fun e w' => e = .returned (.bool true) ∧ Below w.heap.size w w' := by
  by_cases h : ks.length = 0 ∨ t < 0
  · exact order_early K c ks.length pk t w h
  · have := order_late K c t.toNat pk ks w hk (by omega) hc hl (by omega)
    rw [show ((t.toNat : Nat) : Int) = t by omega] at this
    exact this
end Go.Proofs.Ytogfojohflkdnaa
