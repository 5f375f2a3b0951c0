/-
  The contract of the reference's TakeNumber: it is the program's.
-/
import Derived.Test.YtaojflmbfigplaaDoorLawTorn
namespace Go.Proofs.YtaojflmbfigplaaDoor
open Go.RowKit

/-- the lowest seven bits of each byte, the first one's lowest -/
def low : List UInt8 → Nat
  | [] => 0
  | c :: t => c.toNat % 128 + 128 * low t
theorem low_append (a b : List UInt8) : low (a ++ b) = low a + low b * 2 ^ (7 * a.length) := by
  induction a with
  | nil => simp [low]
  | cons c t ih =>
    have hp : 2 ^ (7 * (t.length + 1)) = 128 * 2 ^ (7 * t.length) := by rw [Nat.mul_add, Nat.pow_add, Nat.mul_comm]
    simp only [List.cons_append, low, ih, List.length_cons, hp]
    rw [Nat.mul_add, ← Nat.mul_assoc, ← Nat.mul_assoc, Nat.mul_comm 128 (low b), Nat.add_assoc]
theorem low_lt (a : List UInt8) : low a < 2 ^ (7 * a.length) := by
  induction a with
  | nil => simp [low]
  | cons c t ih =>
    have hp : 2 ^ (7 * (t.length + 1)) = 128 * 2 ^ (7 * t.length) := by rw [Nat.mul_add, Nat.pow_add, Nat.mul_comm]
    simp only [low, List.length_cons, hp]
    have : 128 * (low t + 1) ≤ 128 * 2 ^ (7 * t.length) := Nat.mul_le_mul_left _ ih
    omega
theorem low_drop {l : List UInt8} {r : Nat} (h : r < l.length) : low (l.drop r) = l[r].toNat % 128 + 128 * low (l.drop (r + 1)) := by
  rw [drop_cons h]
  rfl
theorem low_drop_le (l : List UInt8) : ∀ r, low (l.drop r) ≤ low l
  | 0 => by simp
  | r + 1 => by
    by_cases h : r < l.length
    · have h1 := low_drop h
      have h2 := low_drop_le l r
      omega
    · rw [drop_nil (by omega)]; simp [low]

/-- bytes that go on are gathered -/
theorem tn_scan {l : List UInt8} : ∀ k, k ≤ l.length → k ≤ 9 → (∀ j (h : j < l.length), j < k → 128 ≤ l[j].toNat) → tn 0 0 l = tn k (low (l.take k)) (l.drop k)
  | 0, _, _, _ => by simp [low]
  | k + 1, h, h9, ha => by
    rw [tn_scan k (by omega) (by omega) (fun j hj hk => ha j hj (by omega))]
    have hk : k < l.length := by omega
    have hc := ha k hk (by omega)
    rw [tn_more hk (by omega) (by omega), List.take_succ_eq_append_getElem hk, low_append]
    have hm : l[k].toNat % 128 = l[k].toNat - 128 := by have := l[k].toNat_lt; omega
    simp only [low, List.length_take, Nat.mul_zero, Nat.add_zero, hm]
    rw [show min k l.length = k by omega]

/-- no last byte among the first ten -/
theorem tn_noend {l : List UInt8} (ha : ∀ j (h : j < l.length), j < 10 → 128 ≤ l[j].toNat) : tn 0 0 l = if l.length < 10 then (0, 0, 10) else (0, 0, 11) := by
  by_cases h : l.length < 10
  · rw [if_pos h, tn_scan l.length (Nat.le_refl _) (by omega) (fun j hj _ => ha j hj (by omega)), drop_nil (Nat.le_refl _)]
    rfl
  · rw [if_neg h, tn_scan 9 (by omega) (by omega) (fun j hj _ => ha j hj (by omega))]
    have := ha 9 (by omega) (by omega)
    rw [tn_at (by omega), if_pos ⟨rfl, by omega⟩]
/-- the last byte at place e -/
theorem tn_end {l : List UInt8} {e : Nat} (he : e < l.length) (h9 : e ≤ 9) (hl : l[e].toNat < 128) (ha : ∀ j (h : j < l.length), j < e → 128 ≤ l[j].toNat) :
    tn 0 0 l = if (0 < e ∧ l[e].toNat = 0) ∨ (e = 9 ∧ 1 < l[e].toNat) then (0, 0, 11) else (low (l.take (e + 1)), e + 1, 0) := by
  rw [tn_scan e (by omega) h9 ha, tn_at he]
  have hv : low (l.take (e + 1)) = low (l.take e) + l[e].toNat * 2 ^ (7 * e) := by
    rw [List.take_succ_eq_append_getElem he, low_append]
    simp only [low, List.length_take, Nat.mul_zero, Nat.add_zero, Nat.mod_eq_of_lt hl]
    rw [show min e l.length = e by omega]
  rw [hv]
  by_cases h1 : e = 9 ∧ 1 < l[e].toNat
  · rw [if_pos h1, if_pos (.inr h1)]
  · rw [if_neg h1, if_pos hl]
    by_cases h2 : l[e].toNat = 0 ∧ 0 < e
    · rw [if_pos h2, if_pos (.inl ⟨h2.2, h2.1⟩)]
    · rw [if_neg h2, if_neg (fun h => h.elim (fun h => h2 ⟨h.2, h.1⟩) h1)]
theorem low_end_lt {l : List UInt8} {e : Nat} (he : e < l.length) (h9 : e ≤ 9) (hl : l[e].toNat < 128) (h1 : ¬ (e = 9 ∧ 1 < l[e].toNat)) : low (l.take (e + 1)) < 2 ^ 64 := by
  have hv : low (l.take (e + 1)) = low (l.take e) + l[e].toNat * 2 ^ (7 * e) := by
    rw [List.take_succ_eq_append_getElem he, low_append]
    simp only [low, List.length_take, Nat.mul_zero, Nat.add_zero, Nat.mod_eq_of_lt hl]
    rw [show min e l.length = e by omega]
  have hb := low_lt (l.take e)
  rw [List.length_take, show min e l.length = e by omega] at hb
  rw [hv]
  by_cases h : e = 9
  · subst h
    have : l[9].toNat * 2 ^ (7 * 9) ≤ 1 * 2 ^ (7 * 9) := Nat.mul_le_mul_right _ (by omega)
    omega
  · have h3 := grow hb hl
    have h4 : 2 ^ (7 * (e + 1)) ≤ 2 ^ 63 := Nat.pow_le_pow_right (by decide) (by omega)
    omega

def Ahead (l : List UInt8) (k : Nat) : Prop := ∀ j (h : j < l.length), j < k → 128 ≤ l[j].toNat
def LastAt (l : List UInt8) (e : Nat) : Prop := ∃ h : e < l.length, l[e].toNat < 128 ∧ Ahead l e

set_option maxHeartbeats 3200000 in
set_option maxRecDepth 100000 in
theorem rtaken_full (g o c : Nat) (l : List UInt8) (w : World) (hc : ∀ i (h : i < l.length), w.cell? ⟨g, o + i, none⟩ = some (bv l[i])) (hl : l.length ≤ 9223372036854775807) :
    Calls Tryd.prog 19 #[.slice (some ⟨g, o, none⟩) l.length c] w fun e w' => e = .returned (.tuple #[.int .u64 (tn 0 0 l).1, .int .i64 (tn 0 0 l).2.1, .int .i64 (tn 0 0 l).2.2]) ∧ w = w' := by
  have HC := Lib.hid hc
  clear hc
  go_enter Tryd.func19, Tryd.ntmps19
  go_wp2
  go_loop [5, 6] (fun en i => ∃ k : Nat, k ≤ l.length ∧ k ≤ 10 ∧ i = .int .i64 k ∧ ((en = .int .i64 (-1) ∧ Ahead l k) ∨ (∃ e : Nat, k = e + 1 ∧ en = .int .i64 e ∧ LastAt l e))) (fun _ i => 11 - (intOf i).toNat)
  case atStart => exact ⟨0, by omega, by omega, rfl, .inl ⟨rfl, fun j _ h => by omega⟩⟩
  case round =>
    obtain ⟨k, hk, hk10, rfl, hcase⟩ := hrel
    rcases hcase with ⟨rfl, ha⟩ | ⟨e, rfl, rfl, hla⟩
    · have HA := Lib.hid ha
      clear ha
      by_cases h1 : k < l.length
      · by_cases h2 : k < 10
        · have c1 : w.cell? ⟨g, o + k, none⟩ = some (.int .u8 (l[k].toNat : Int)) := HC.out k h1
          have b1 := l[k].toNat_lt
          by_cases h3 : l[k].toNat < 128
          · go_wp2
            go_round
            case rel => exact ⟨k + 1, by omega, by omega, by go_num, .inr ⟨k, rfl, rfl, h1, h3, HA.out⟩⟩
            case measure => simp [intOf]; omega
          · go_wp2
            go_round
            case rel => exact ⟨k + 1, by omega, by omega, by go_num, .inl ⟨rfl, fun j hj hjk => by
              by_cases e : j = k
              · subst e; omega
              · exact HA.out j hj (by omega)⟩⟩
            case measure => simp [intOf]; omega
        · have hA : ∀ j (h : j < l.length), j < 10 → 128 ≤ l[j].toNat := fun j hj h10 => HA.out j hj (by omega)
          have HT := Lib.hid ((tn_noend hA).trans (if_neg (by omega)))
          clear hA
          go_wp2
          go_ret3
          exact ⟨by rw [HT.out]; rfl, rfl⟩
      · by_cases h10 : l.length < 10
        · have hA : ∀ j (h : j < l.length), j < 10 → 128 ≤ l[j].toNat := fun j hj _ => HA.out j hj (by omega)
          have HT := Lib.hid ((tn_noend hA).trans (if_pos h10))
          clear hA
          go_wp2
          go_ret3
          exact ⟨by rw [HT.out]; rfl, rfl⟩
        · have hA : ∀ j (h : j < l.length), j < 10 → 128 ≤ l[j].toNat := fun j hj _ => HA.out j hj (by omega)
          have HT := Lib.hid ((tn_noend hA).trans (if_neg h10))
          clear hA
          go_wp2
          go_ret3
          exact ⟨by rw [HT.out]; rfl, rfl⟩
    · obtain ⟨he, hlt, ha⟩ := hla
      have hte := tn_end he (by omega) hlt ha
      have c1 : w.cell? ⟨g, o + e, none⟩ = some (.int .u8 (l[e].toNat : Int)) := HC.out e he
      by_cases hz : 0 < e ∧ l[e].toNat = 0
      · have HT := Lib.hid (hte.trans (if_pos (.inl hz)))
        obtain ⟨z1, z2⟩ := hz
        have hb : ((l[e].toNat : Int) == 0) = true := by rw [z2]; rfl
        clear hte z2 ha
        go_wp2
        all_goals
          go_ret3
          exact ⟨by rw [HT.out]; rfl, rfl⟩
      · by_cases h9 : e = 9 ∧ 1 < l[e].toNat
        · have HT := Lib.hid (hte.trans (if_pos (.inr h9)))
          obtain ⟨rfl, h9⟩ := h9
          have hb : ((l[9].toNat : Int) == 0) = false := by rw [beq_eq_false_iff_ne]; omega
          clear hte hz ha
          go_wp2
          all_goals
            go_ret3
            exact ⟨by rw [HT.out]; rfl, rfl⟩
        · have HL := Lib.hid (low_end_lt he (by omega) hlt h9)
          have HT := Lib.hid (hte.trans (if_neg (fun h => h.elim hz h9)))
          rcases (show e = 0 ∨ (0 < e ∧ e ≠ 9) ∨ e = 9 by omega) with he0 | ⟨he0, he9⟩ | he9
          · subst he0
            clear hte hz h9 ha hlt c1
            go_wp2
            all_goals
              go_loop [7, 8] (fun n i => ∃ r : Nat, r ≤ 0 + 1 ∧ i = .int .i64 ((r : Int) - 1) ∧ n = .int .u64 ((low ((l.take (0 + 1)).drop r) : Nat) : Int)) (fun _ i => (intOf i + 1).toNat)
              case atStart => exact ⟨0 + 1, by omega, by go_num, by rw [drop_nil (by simp; omega)]; rfl⟩
              case round =>
                obtain ⟨r, hr, rfl, rfl⟩ := hrel
                by_cases h0 : 0 < r
                · obtain ⟨q, rfl⟩ : ∃ q, r = q + 1 := ⟨r - 1, by omega⟩
                  have hq : q < (l.take (0 + 1)).length := by rw [List.length_take]; omega
                  have c2 : w.cell? ⟨g, o + q, none⟩ = some (.int .u8 (l[q].toNat : Int)) := HC.out q (by omega)
                  have hstep := low_drop hq
                  rw [List.getElem_take] at hstep
                  have hle := low_drop_le (l.take (0 + 1)) q
                  have hlo := HL.out
                  obtain ⟨V, hV⟩ : ∃ V, V = low ((l.take (0 + 1)).drop (q + 1)) := ⟨_, rfl⟩
                  have hVb : 128 * V + l[q].toNat % 128 ≤ 18446744073709551615 := by rw [hV]; omega
                  rw [← hV] at hstep
                  rw [← hV]
                  have HS := Lib.hid hstep
                  clear hstep hle hlo hV
                  rw [show ((q + 1 : Nat) : Int) - 1 = (q : Int) by omega]
                  have b2 := l[q].toNat_lt
                  go_wp2
                  go_round
                  case rel => exact ⟨q, by omega, by go_num, by rw [HS.out]; go_num⟩
                  case measure => simp [intOf]
                · obtain rfl : r = 0 := by omega
                  go_wp2
                  go_ret3
                  exact ⟨by rw [HT.out]; rfl, rfl⟩
          · have hz0 : ((l[e].toNat : Int) == 0) = false := by rw [beq_eq_false_iff_ne]; omega
            have hz9 : ((e : Int) == 9) = false := by rw [beq_eq_false_iff_ne]; omega
            clear he9
            clear hte hz h9 ha hlt
            go_wp2
            all_goals
              go_loop [7, 8] (fun n i => ∃ r : Nat, r ≤ e + 1 ∧ i = .int .i64 ((r : Int) - 1) ∧ n = .int .u64 ((low ((l.take (e + 1)).drop r) : Nat) : Int)) (fun _ i => (intOf i + 1).toNat)
              case atStart => exact ⟨e + 1, by omega, by go_num, by rw [drop_nil (by simp; omega)]; rfl⟩
              case round =>
                obtain ⟨r, hr, rfl, rfl⟩ := hrel
                by_cases h0 : 0 < r
                · obtain ⟨q, rfl⟩ : ∃ q, r = q + 1 := ⟨r - 1, by omega⟩
                  have hq : q < (l.take (e + 1)).length := by rw [List.length_take]; omega
                  have c2 : w.cell? ⟨g, o + q, none⟩ = some (.int .u8 (l[q].toNat : Int)) := HC.out q (by omega)
                  have hstep := low_drop hq
                  rw [List.getElem_take] at hstep
                  have hle := low_drop_le (l.take (e + 1)) q
                  have hlo := HL.out
                  obtain ⟨V, hV⟩ : ∃ V, V = low ((l.take (e + 1)).drop (q + 1)) := ⟨_, rfl⟩
                  have hVb : 128 * V + l[q].toNat % 128 ≤ 18446744073709551615 := by rw [hV]; omega
                  rw [← hV] at hstep
                  rw [← hV]
                  have HS := Lib.hid hstep
                  clear hstep hle hlo hV
                  rw [show ((q + 1 : Nat) : Int) - 1 = (q : Int) by omega]
                  have b2 := l[q].toNat_lt
                  go_wp2
                  go_round
                  case rel => exact ⟨q, by omega, by go_num, by rw [HS.out]; go_num⟩
                  case measure => simp [intOf]
                · obtain rfl : r = 0 := by omega
                  go_wp2
                  go_ret3
                  exact ⟨by rw [HT.out]; rfl, rfl⟩
          · subst he9
            have hz0 : ((l[9].toNat : Int) == 0) = false := by rw [beq_eq_false_iff_ne]; omega
            have hz1 : l[9].toNat ≤ 1 := by omega
            clear hte hz h9 ha hlt
            go_wp2
            all_goals
              go_loop [7, 8] (fun n i => ∃ r : Nat, r ≤ 9 + 1 ∧ i = .int .i64 ((r : Int) - 1) ∧ n = .int .u64 ((low ((l.take (9 + 1)).drop r) : Nat) : Int)) (fun _ i => (intOf i + 1).toNat)
              case atStart => exact ⟨9 + 1, by omega, by go_num, by rw [drop_nil (by simp; omega)]; rfl⟩
              case round =>
                obtain ⟨r, hr, rfl, rfl⟩ := hrel
                by_cases h0 : 0 < r
                · obtain ⟨q, rfl⟩ : ∃ q, r = q + 1 := ⟨r - 1, by omega⟩
                  have hq : q < (l.take (9 + 1)).length := by rw [List.length_take]; omega
                  have c2 : w.cell? ⟨g, o + q, none⟩ = some (.int .u8 (l[q].toNat : Int)) := HC.out q (by omega)
                  have hstep := low_drop hq
                  rw [List.getElem_take] at hstep
                  have hle := low_drop_le (l.take (9 + 1)) q
                  have hlo := HL.out
                  obtain ⟨V, hV⟩ : ∃ V, V = low ((l.take (9 + 1)).drop (q + 1)) := ⟨_, rfl⟩
                  have hVb : 128 * V + l[q].toNat % 128 ≤ 18446744073709551615 := by rw [hV]; omega
                  rw [← hV] at hstep
                  rw [← hV]
                  have HS := Lib.hid hstep
                  clear hstep hle hlo hV
                  rw [show ((q + 1 : Nat) : Int) - 1 = (q : Int) by omega]
                  have b2 := l[q].toNat_lt
                  go_wp2
                  go_round
                  case rel => exact ⟨q, by omega, by go_num, by rw [HS.out]; go_num⟩
                  case measure => simp [intOf]
                · obtain rfl : r = 0 := by omega
                  go_wp2
                  go_ret3
                  exact ⟨by rw [HT.out]; rfl, rfl⟩
end Go.Proofs.YtaojflmbfigplaaDoor
