/-
  The walk of the law SimnetFull.
-/
import Derived.Test.YtekgmgiokmbliaaAwake
set_option linter.unusedVariables false
namespace Go.Proofs.Ytekgmgiokmbliaa
open Go.RowKit

/-- one to n, each sent -/
def Count (es : List Ev) (n : Nat) : Prop := es.length = n ∧ (∀ j, j < n → (evAt es j).1 = (j : Int) + 1) ∧ Fine es
theorem Count.rise {es : List Ev} {n : Nat} (h : Count es n) (hn : n ≤ 1000) : Rise es := by
  refine ⟨fun i j h1 h2 => ?_, fun e he => ?_⟩
  · rw [h.2.1 i (by have := h.1; omega), h.2.1 j (by have := h.1; omega)]; omega
  · obtain ⟨k, hk, rfl⟩ := mem_evAt he
    rw [h.2.1 k (by have := h.1; omega)]
    have := h.1
    omega
theorem Count.snoc {es : List Ev} {n : Nat} (h : Count es n) (A : Option Addr) (c : Nat) : Count (es ++ [((n : Int) + 1, 1, 1, 1, .slice A 0 c)]) (n + 1) := by
  refine ⟨by simp [h.1], fun j hj => ?_, fun e he => ?_⟩
  · rcases Nat.lt_or_ge j n with h1 | h1
    · have := h.2.1 j h1
      unfold evAt at this ⊢
      rw [List.getD_eq_getElem?_getD] at this ⊢
      rw [List.getElem?_append_left (by rw [h.1]; exact h1)]
      exact this
    · obtain rfl : j = n := by omega
      unfold evAt
      rw [List.getD_eq_getElem?_getD, List.getElem?_append_right (by rw [h.1]; exact Nat.le_refl _), h.1, Nat.sub_self]
      rfl
  · rcases List.mem_append.1 he with h1 | h1
    · exact h.2.2 e h1
    · rw [List.mem_singleton.1 h1]
      exact ⟨by simp [isNodeB], by simp [isNodeB], by simp, A, 0, c, rfl, by omega⟩
theorem Count.has {es : List Ev} {n : Nat} (h : Count es n) {x : Int} (h1 : 1 ≤ x) (h2 : x ≤ n) : ∃ e ∈ es, e.1 = x := by
  have hk : (x - 1).toNat < n := by omega
  exact ⟨evAt es (x - 1).toNat, evAt_mem (by rw [h.1]; exact hk), by rw [h.2.1 _ hk]; omega⟩
theorem Count.not0 {es : List Ev} {n : Nat} (h : Count es n) : ∀ e ∈ es, e.1 ≠ 0 := fun e he => by
  obtain ⟨k, hk, rfl⟩ := mem_evAt he
  rw [h.2.1 k (by have := h.1; omega)]; omega

/-- one more envelope from node one to node one -/
theorem send_one (g base : Nat) (last : Int) (fv : Value) (es : List Ev) (w : World) (hN : Net w g base last fv es) (hes : es.length < 1000) (hl1 : 0 ≤ last) (hl2 : last < 4611686018427387904) :
    Calls Try.prog 11 #[.pointer (some ⟨g, 0, none⟩), .agg #[.int .i64 0, .int .i64 1, .int .i64 1, .int .i64 1, .slice none 0 0]] w fun e w' => ∃ A c fv', e = .returned (.tuple #[.int .i64 (last + 1), .int .i64 0]) ∧ Net w' g base (last + 1) fv' (es ++ [(last + 1, 1, 1, 1, .slice A 0 c)]) ∧ Two g fv.ownBlock w w' := by
  refine (send_ok g base last fv es 0 1 1 1 none 0 0 [] w hN (by decide) (by decide) (by decide) (by decide) rfl (by decide) (.inl rfl) (fun _ => rfl) (by intro q o h; cases h) hes hl1 hl2).mono ?_
  rintro e w' ⟨v, fv', rfl, hN', hv, _, hT⟩
  obtain ⟨A, c, rfl, _⟩ := hv.rd
  exact ⟨A, c, fv', rfl, hN', hT⟩
theorem Net.below2 {w w' : World} {g base B : Nat} {last : Int} {fv : Value} {es : List Ev} (h : Net w g base last fv es) (t : Two g fv.ownBlock w w') (hB : B ≤ base) (hw : B ≤ w.heap.size) : Below B w w' :=
  t.below (by have := h.gb; omega) (by intro r hr; have := (World.ownsRow.lt h.own r hr).1; omega) hw

set_option maxHeartbeats 3200000 in
set_option maxRecDepth 100000 in
theorem law_full (which : Int) (w : World) (hw1 : -9223372036854775808 ≤ which) (hw2 : which ≤ 9223372036854775807) :
    Calls Try.prog 4 #[.int .i64 which] w fun e w' => e = .returned (.bool true) ∧ Below w.heap.size w w' := by
  go_enter Try.func4, Try.ntmps4
  go_wp2_with fail
  refine (awake_any _).mono ?_
  rintro e w1 ⟨rfl, h1⟩
  go_wp2_with fail
  refine (new_any _).mono ?_
  rintro e w2 ⟨rfl, N2, h2⟩
  obtain ⟨g, hg⟩ : ∃ g, g = w1.heap.size := ⟨_, rfl⟩
  have hgw : w.heap.size ≤ g := by have := h1.size; omega
  have hb := h1.trans (h2.mono h1.size)
  rw [← hg] at N2
  rw [← hg]
  clear hg h1 h2
  have N0 := Lib.hid N2
  clear N2
  go_wp2
  go_loopw [5] (fun i wr => ∃ (k : Nat) (es : List Ev) (fv : Value), k ≤ 1000 ∧ i = .int .i64 k ∧ Hid (Count es k) ∧ Hid (Net wr g g k fv es) ∧ Below w.heap.size w wr) (fun i _ => 1000 - (intOf i).toNat)
  case atStart => exact ⟨0, [], _, by omega, rfl, Lib.hid ⟨rfl, fun j h => by omega, fun e he => by cases he⟩, N0, hb⟩
  case round =>
    clear hb
    obtain ⟨k, es, fv, hk, rfl, HC, HN, hb⟩ := hrel
    by_cases hlt : k < 1000
    · have SO := Lib.hid (send_one g g k fv es wr HN.out (by have := HC.out.1; omega) (by omega) (by omega))
      go_wp2_with fail
      refine SO.out.mono ?_
      rintro e w3 ⟨A, c, fv', rfl, N3, T3⟩
      have h3 := hb.trans (HN.out.below2 T3 hgw hb.size)
      have HN3 := Lib.hid N3
      clear N3 T3
      go_wp2
      go_roundw
      case rel => exact ⟨k + 1, _, fv', by omega, by go_num, HC.out.snoc A c, HN3.out, h3⟩
      case measure => simp [intOf]; omega
    · obtain rfl : k = 1000 := by omega
      have hC := HC.out
      have hR := hC.rise (Nat.le_refl _)
      have SF := Lib.hid (send_full g g 1000 fv es 0 1 1 1 none 0 0 wr HN.out (by decide) (by decide) (by decide) (by decide) (by decide) (by rw [hC.1]; exact Nat.le_refl _))
      go_wp2_with fail
      refine SF.out.mono ?_
      rintro e w3 ⟨rfl, h3⟩
      have N3 := HN.out.below h3
      have hb := hb.trans (h3.mono hb.size)
      have DN := Lib.hid (double_none g g 1000 fv es 0 w3 N3 hR (by rw [hC.1]; exact Nat.le_refl _) (by decide) hC.not0)
      have HN3 := Lib.hid N3
      clear h3 N3 SF HN
      go_wp2_with fail
      refine DN.out.mono ?_
      rintro e w4 ⟨rfl, h4⟩
      have N4 := HN3.out.below h4
      have hb := hb.trans (h4.mono hb.size)
      clear h4 HN3 DN
      obtain ⟨R, hRR⟩ : ∃ R, R = which.tmod 1000 := ⟨_, rfl⟩
      have hR1 : -1000 < R := by rw [hRR]; exact Int.lt_tmod_of_pos _ (by decide)
      have hR2 : R < 1000 := by rw [hRR]; exact Int.tmod_lt_of_pos _ (by decide)
      by_cases hlow : 1 + R < 1
      · have DF := Lib.hid (double_full g g 1000 fv es 1 w4 N4 hR hC.1 (by decide) (hC.has (by omega) (by omega)) hC.2.2)
        go_wp2_with fail
        refine DF.out.mono ?_
        rintro e w5 ⟨rfl, h5⟩
        have N5 := N4.below h5
        have hb := hb.trans (h5.mono hb.size)
        have DO := Lib.hid (drop_ok g g 1000 fv es 1 w5 N5 hR (by rw [hC.1]; exact Nat.le_refl _) (by omega) (hC.has (by omega) (by omega)) hC.2.2.slices)
        have HN5 := Lib.hid N5
        clear h5 N5 N4 DF
        go_wp2_with fail
        refine DO.out.mono ?_
        rintro e w6 ⟨kk, fv6, hkk, hkx, rfl, N6, ho6, T6⟩
        have h6 := hb.trans (HN5.out.below2 T6 hgw hb.size)
        have hlen6 : (es.eraseIdx kk).length < 1000 := by rw [List.length_eraseIdx, if_pos hkk, hC.1]; omega
        have SO := Lib.hid (send_one g g 1000 fv6 (es.eraseIdx kk) w6 N6 hlen6 (by omega) (by omega))
        have HN6 := Lib.hid N6
        clear N6 T6 ho6 hkx HN5 DO hb hlen6 hkk
        go_wp2_with fail
        refine SO.out.mono ?_
        rintro e w7 ⟨A, c, fv7, rfl, N7, T7⟩
        have h7 := h6.trans (HN6.out.below2 T7 hgw h6.size)
        clear N7 T7 HN6 h6
        go_wp2
        go_ret
        exact ⟨rfl, h7⟩
      · obtain ⟨K, hK⟩ : ∃ K, K = 1 + which.tmod 1000 := ⟨_, rfl⟩
        have hK1 : 1 ≤ K := by rw [hK, ← hRR]; omega
        have hK2 : K ≤ 1000 := by rw [hK, ← hRR]; omega
        clear hRR
        have DF := Lib.hid (double_full g g 1000 fv es K w4 N4 hR hC.1 (by omega) (hC.has (by omega) (by omega)) hC.2.2)
        go_wp2_with fail
        rw [← hK]
        have HK := Lib.hid hK
        clear hK
        refine DF.out.mono ?_
        rintro e w5 ⟨rfl, h5⟩
        have N5 := N4.below h5
        have hb := hb.trans (h5.mono hb.size)
        have DO := Lib.hid (drop_ok g g 1000 fv es K w5 N5 hR (by rw [hC.1]; exact Nat.le_refl _) (by omega) (hC.has (by omega) (by omega)) hC.2.2.slices)
        have HN5 := Lib.hid N5
        clear h5 N5 N4 DF
        go_wp2_with fail
        refine DO.out.mono ?_
        rintro e w6 ⟨kk, fv6, hkk, hkx, rfl, N6, ho6, T6⟩
        have h6 := hb.trans (HN5.out.below2 T6 hgw hb.size)
        have hlen6 : (es.eraseIdx kk).length < 1000 := by rw [List.length_eraseIdx, if_pos hkk, hC.1]; omega
        have SO := Lib.hid (send_one g g 1000 fv6 (es.eraseIdx kk) w6 N6 hlen6 (by omega) (by omega))
        have HN6 := Lib.hid N6
        clear N6 T6 ho6 hkx HN5 DO hb hlen6 hkk
        go_wp2_with fail
        refine SO.out.mono ?_
        rintro e w7 ⟨A, c, fv7, rfl, N7, T7⟩
        have h7 := h6.trans (HN6.out.below2 T7 hgw h6.size)
        clear N7 T7 HN6 h6
        go_wp2
        go_ret
        exact ⟨rfl, h7⟩
end Go.Proofs.Ytekgmgiokmbliaa
