/-
  The walk of the law BloomHolds.
-/
import Derived.Test.YtogfojohflkdnaaHolds
set_option linter.unusedVariables false
namespace Go.Proofs.Ytogfojohflkdnaa
open Go.RowKit

theorem own_at8 {w : World} {base g n c : Nat} {l : List UInt8} (h : Own w base (.slice (some ⟨g, 0, none⟩) n c) l) {i : Nat} (hi : i < l.length) : w.cell? ⟨g, i, none⟩ = some (.int .u8 (at8 l i : Int)) := by
  rw [h.cell i hi]
  unfold bv at8
  rw [List.getD_eq_getElem?_getD, List.getElem?_eq_getElem hi]
  rfl

set_option maxHeartbeats 800000 in
set_option maxRecDepth 100000 in
theorem holds_bad (K : Option Addr) (c n : Nat) (pk : Int) (M : Value) (w : World) (h : makeE n pk = true) :
    Calls Try.prog 6 #[.slice K n c, .int .i64 pk, M] w fun e w' => e = .returned (.bool true) ∧ Below w.heap.size w w' := by
  have C1 := Lib.hid (fun w => make_bad K c n pk w h)
  clear h
  go_enter Try.func6, Try.ntmps6
  go_wp2_with fail
  refine (shown_any _).mono ?_
  rintro e w1 ⟨rfl, hb⟩
  go_wp2_with fail
  refine (C1.out _).mono ?_
  rintro e w2 ⟨rfl, rfl⟩
  go_wp2
  go_ret
  exact ⟨rfl, hb⟩

set_option maxHeartbeats 3200000 in
set_option maxRecDepth 100000 in
theorem holds_ok (K : Option Addr) (c pk : Nat) (ks : List (List UInt8)) (M : Option Addr) (mc : Nat) (more : List UInt8) (w : World) (hk : RdK w w.heap.size K ks) (hm : Rd w w.heap.size M more) (hml : more.length ≤ 140737488351232) (h1 : 1 ≤ pk) (h2 : pk ≤ 30) (h3 : ks.length ≤ 65536) :
    Calls Try.prog 6 #[.slice K ks.length c, .int .i64 pk, .slice M more.length mc] w fun e w' => e = .returned (.bool true) ∧ Below w.heap.size w w' := by
  have HK := Lib.hid hk
  have HM := Lib.hid hm
  have C1 := Lib.hid (fun w hr => make_ok K c w.heap.size pk ks w hr (Nat.le_refl _) h1 h2 h3)
  have hlen := makeB_len ks pk
  have hwp := words_pos ks.length pk
  have hwl : words ks.length pk ≤ 30721 := by
    have : ks.length * pk ≤ 65536 * 30 := Nat.mul_le_mul h3 h2
    unfold words; omega
  have HF := Lib.hid (fun l key hs hk => makeB_holds (ks := ks) (pk := pk) (l := l) (key := key) h2 hs hk)
  obtain ⟨F, hF⟩ : ∃ F, F = makeB ks pk := ⟨_, rfl⟩
  rw [← hF] at C1 hlen HF
  obtain ⟨N, hN⟩ : ∃ N, N = F.length := ⟨_, rfl⟩
  rw [← hN] at hlen
  have hN9 : 9 ≤ N := by omega
  have hNl : N ≤ 245769 := by omega
  obtain ⟨n, hn⟩ : ∃ n, n = ks.length := ⟨_, rfl⟩
  rw [← hn] at h3
  rw [← hn] at C1
  rw [← hn]
  have HN := Lib.hid hn
  have HNF := Lib.hid hN
  clear hk hm hF hlen hwp hwl h1 h2 hn hN
  go_enter Try.func6, Try.ntmps6
  go_wp2_with fail
  refine (shown_any _).mono ?_
  rintro e w1 ⟨rfl, hb⟩
  go_wp2_with fail
  refine (C1.out _ ((HK.out.below hb).more hb.size)).mono ?_
  rintro e w2 ⟨v, rfl, ho, hb2⟩
  obtain ⟨g, cb, rfl, hg⟩ := ho.shape (by have := HNF.out; omega)
  have hs1 := hb.size
  have hgw : w.heap.size ≤ g := Nat.le_trans hs1 hg
  have hb := hb.trans (hb2.mono hb.size)
  clear hb2
  rw [← HNF.out] at ho
  rw [← HNF.out]
  go_wp2
  have ho := ho.mono hs1
  have hlF := HNF.out.symm
  have rdF : Rd w2 w2.heap.size (some ⟨g, 0, none⟩) F := by
    obtain ⟨A', c', e, r⟩ := ho.rd
    injection e with e1 e2 e3
    rw [e1]; exact r
  obtain ⟨W, hW⟩ : ∃ W, W = w2 := ⟨_, rfl⟩
  rw [← hW] at hb ho rdF
  rw [← hW]
  clear hW
  go_loopw [10, 11] (fun i _ wr => ∃ k : Nat, k ≤ n ∧ i = .int .i64 k ∧ wr = W) (fun i _ _ => n - (intOf i).toNat)
  case atStart => exact ⟨0, by omega, rfl, rfl⟩
  case round =>
    obtain ⟨k, hk, rfl, rfl⟩ := hrel
    by_cases hlt : k < n
    · have hkl : k < ks.length := by have := HN.out; omega
      rcases HK.out with hnil | ⟨gk, ok, rfl, hgk, hcell⟩
      · rw [hnil] at hkl; simp at hkl
      obtain ⟨a, ca, hc1, hc2, hc3⟩ := hcell k hkl
      have c1 := (hb.cell (p := ⟨gk, ok + k, none⟩) hgk).trans hc1
      have HY := Lib.hid (may_any (some ⟨g, 0, none⟩) cb wr.heap.size F a ca ks[k] wr (rdF) ((hc2.below hb).more hb.size) (by rw [hlF]; omega) hc3)
      have hy := HF.out F ks[k] (Sub.refl F) (List.getElem_mem hkl)
      rw [hy, hlF] at HY
      clear hcell hc1 hc2 hc3 hy
      go_wp2_with fail
      refine HY.out.mono ?_
      rintro e w5 ⟨rfl, rfl⟩
      go_wp2
      go_roundw
      case rel => exact ⟨k + 1, by omega, by go_num, trivial⟩
      case measure => simp [intOf]; omega
    · go_wp2
      go_loopw [12] (fun i wr' => ∃ (k : Nat) (l : List UInt8), k ≤ more.length ∧ k + 1 ≤ N ∧ i = .int .i64 k ∧ Own wr' w.heap.size (.slice (some ⟨g, 0, none⟩) N cb) l ∧ Sub F l ∧ Below w.heap.size w wr') (fun i _ => N - (intOf i).toNat)
      case atStart => exact ⟨0, F, by omega, by omega, rfl, ho, Sub.refl F, hb⟩
      case round =>
        obtain ⟨q, l, hq1, hq2, rfl, ho, hs, hb⟩ := hrel
        by_cases hm1 : q < more.length
        · by_cases hm2 : q + 1 < N
          · have hm2i : ((q : Int) + 1) < (N : Int) := by omega
            have hm3 : (0 : Int) ≤ (q : Int) + 1 := by omega
            have hw1 : IntKind.i64.wrap ((q : Int) + 1) = (q : Int) + 1 := IntWalk.i64_in _ (by omega)
            rcases HM.out with hnil | ⟨gm, om, rfl, hgm, hcm⟩
            · rw [hnil] at hm1; simp at hm1
            have cm := (hb.cell (p := ⟨gm, om + q, none⟩) hgm).trans (rd_at8 hcm hm1)
            have hll : l.length = N := hs.1.symm.trans hlF
            have cb1 := own_at8 ho (i := q + 1) (by omega)
            have f1 := ho.free (q + 1)
            have hx8 := at8_lt l (q + 1)
            have hy8 := at8_lt more q
            obtain ⟨x, hx⟩ : ∃ x, x = at8 l (q + 1) := ⟨_, rfl⟩
            obtain ⟨y, hy⟩ : ∃ y, y = at8 more q := ⟨_, rfl⟩
            rw [← hx] at cb1 hx8
            rw [← hy] at cm hy8
            have hor := or_u8 x y hx8 hy8
            have HX := Lib.hid hx
            have hxy : x ||| y < 256 := Nat.or_lt_two_pow (n := 8) hx8 hy8
            have HXY := Lib.hid hxy
            clear hcm hx hy hxy
            go_wp2_with fail
            go_region
            have o1 := ho.set (q + 1) (by8 (x ||| y))
            rw [show bv (by8 (x ||| y)) = .int .u8 ((x ||| y : Nat) : Int) by unfold bv; rw [by8_toNat HXY.out]] at o1
            have hs1 := hs.trans (sub_or (l := l) (i := q) (x := y) (by omega) (by rw [← HX.out]; exact HXY.out))
            rw [← HX.out] at hs1
            have hb1 := hb.setCell (p := ⟨g, q + 1, none⟩) hgw (.int .u8 ((x ||| y : Nat) : Int))
            clear cb1 cm f1
            go_wp2
            go_roundw
            case rel => exact ⟨q + 1, l.set (q + 1) (by8 (x ||| y)), by omega, by omega, by go_num, o1, hs1, below_drew hb1⟩
            case measure => simp [intOf]; omega
          · have hd : decide ((q : Int) + 1 < (N : Int)) = false := by rw [decide_eq_false_iff_not]; omega
            go_wp2
            have hll : l.length = N := hs.1.symm.trans hlF
            have rdF : Rd wr wr.heap.size (some ⟨g, 0, none⟩) l := by
              obtain ⟨A', c', e, r⟩ := ho.rd
              injection e with e1 e2 e3
              rw [e1]; exact r
            go_loopw [13, 14] (fun i _ ws => ∃ k : Nat, k ≤ n ∧ i = .int .i64 k ∧ ws = wr) (fun i _ _ => n - (intOf i).toNat)
            case atStart => exact ⟨0, by omega, rfl, rfl⟩
            case round =>
              obtain ⟨k, hk, rfl, rfl⟩ := hrel
              by_cases hlt : k < n
              · have hkl : k < ks.length := by have := HN.out; omega
                rcases HK.out with hnil | ⟨gk, ok, rfl, hgk, hcell⟩
                · rw [hnil] at hkl; simp at hkl
                obtain ⟨a, ca, hc1, hc2, hc3⟩ := hcell k hkl
                have c1 := (hb.cell (p := ⟨gk, ok + k, none⟩) hgk).trans hc1
                have HY := Lib.hid (may_any (some ⟨g, 0, none⟩) cb wr.heap.size l a ca ks[k] wr (rdF) ((hc2.below hb).more hb.size) (by rw [hll]; omega) hc3)
                have hy := HF.out l ks[k] hs (List.getElem_mem hkl)
                rw [hy, hll] at HY
                clear hcell hc1 hc2 hc3 hy
                go_wp2_with fail
                refine HY.out.mono ?_
                rintro e w5 ⟨rfl, rfl⟩
                go_wp2
                go_roundw
                case rel => exact ⟨k + 1, by omega, by go_num, trivial⟩
                case measure => simp [intOf]; omega
              · go_wp2
                go_ret
                exact ⟨rfl, hb⟩
        · go_wp2
          have hll : l.length = N := hs.1.symm.trans hlF
          have rdF : Rd wr wr.heap.size (some ⟨g, 0, none⟩) l := by
            obtain ⟨A', c', e, r⟩ := ho.rd
            injection e with e1 e2 e3
            rw [e1]; exact r
          go_loopw [13, 14] (fun i _ ws => ∃ k : Nat, k ≤ n ∧ i = .int .i64 k ∧ ws = wr) (fun i _ _ => n - (intOf i).toNat)
          case atStart => exact ⟨0, by omega, rfl, rfl⟩
          case round =>
            obtain ⟨k, hk, rfl, rfl⟩ := hrel
            by_cases hlt : k < n
            · have hkl : k < ks.length := by have := HN.out; omega
              rcases HK.out with hnil | ⟨gk, ok, rfl, hgk, hcell⟩
              · rw [hnil] at hkl; simp at hkl
              obtain ⟨a, ca, hc1, hc2, hc3⟩ := hcell k hkl
              have c1 := (hb.cell (p := ⟨gk, ok + k, none⟩) hgk).trans hc1
              have HY := Lib.hid (may_any (some ⟨g, 0, none⟩) cb wr.heap.size l a ca ks[k] wr (rdF) ((hc2.below hb).more hb.size) (by rw [hll]; omega) hc3)
              have hy := HF.out l ks[k] hs (List.getElem_mem hkl)
              rw [hy, hll] at HY
              clear hcell hc1 hc2 hc3 hy
              go_wp2_with fail
              refine HY.out.mono ?_
              rintro e w5 ⟨rfl, rfl⟩
              go_wp2
              go_roundw
              case rel => exact ⟨k + 1, by omega, by go_num, trivial⟩
              case measure => simp [intOf]; omega
            · go_wp2
              go_ret
              exact ⟨rfl, hb⟩

theorem law_holds (K : Option Addr) (c : Nat) (pk : Int) (ks : List (List UInt8)) (M : Option Addr) (mc : Nat) (more : List UInt8) (w : World) (hk : RdK w w.heap.size K ks) (hm : Rd w w.heap.size M more) (hml : more.length ≤ 140737488351232) :
    Calls Try.prog 6 #[.slice K ks.length c, .int .i64 pk, .slice M more.length mc] w fun e w' => e = .returned (.bool true) ∧ Below w.heap.size w w' := by
  rcases he : makeE ks.length pk with _ | _
  · unfold makeE at he
    rw [decide_eq_false_iff_not] at he
    have h := holds_ok K c pk.toNat ks M mc more w hk hm hml (by omega) (by omega) (by omega)
    rw [show ((pk.toNat : Nat) : Int) = pk by omega] at h
    exact h
  · exact holds_bad K c ks.length pk _ w he
end Go.Proofs.Ytogfojohflkdnaa
