/-
  The walk of the law CodecTorn.
-/
import Derived.Test.YtaojflmbfigplaaDoorLawFrames
import Derived.Test.YtaojflmbfigplaaDoorLawKeys
namespace Go.Proofs.YtaojflmbfigplaaDoor
open Go.RowKit

/-- a beginning of a number's bytes that is not all of them -/
theorem tn_torn : ∀ (f i N m j : Nat), i + f ≤ 9 → j < (numF f m).length → (tn i N ((numF f m).take j)) = (0, 0, 10)
  | 0, i, N, m, j, _, hj => by
    have : j = 0 := by simp [numF] at hj; exact hj
    subst this
    rfl
  | f + 1, i, N, m, j, hi, hj => by
    cases j with
    | zero => rfl
    | succ j =>
      by_cases h : m < 128
      · rw [numF_lt h] at hj
        simp at hj
      · rw [numF_ge h] at hj ⊢
        have e : (by8 (128 + m % 128)).toNat = 128 + m % 128 := by rw [by8_nat]; omega
        rw [List.take_succ_cons]
        simp only [tn, e]
        rw [if_neg (by omega), if_neg (by omega)]
        exact tn_torn f (i + 1) _ (m / 128) j (by omega) (by simp at hj; omega)
theorem tn_torn0 {n j : Nat} (h : j < (num n).length) : tn 0 0 ((num n).take j) = (0, 0, 10) := tn_torn 9 0 0 n j (by omega) h

theorem tt_torn {s : List UInt8} (hs : s.length ≤ 2097152) {j : Nat} (hj : j < (num s.length ++ s).length) : tt ((num s.length ++ s).take j) = ([], 0, 10) := by
  unfold tt
  by_cases h : j < (num s.length).length
  · rw [List.take_append_of_le_length (by omega), tn_torn0 h]
    rfl
  · have e : (num s.length ++ s).take j = num s.length ++ s.take (j - (num s.length).length) := by
      rw [List.take_append, List.take_of_length_le (by omega)]
    rw [e, tn_num (by omega)]
    simp only [ne_eq, not_true_eq_false, if_false]
    rw [if_neg (by omega), if_pos (by simp at hj ⊢; omega)]

theorem tf_torn {k : UInt8} {s : List UInt8} (hs : s.length ≤ 2097152) {j : Nat} (hj : j < (frame k s).length) : tf ((frame k s).take j) = (0, [], 0, 10) := by
  cases j with
  | zero => rfl
  | succ j =>
    obtain ⟨S, hS⟩ : ∃ S, S = crc (head k s.length ++ s) := ⟨_, rfl⟩
    have hf : frame k s = k :: (num s.length ++ (four S ++ s)) := by
      unfold frame
      rw [← hS]
      simp [head]
    rw [hf] at hj ⊢
    rw [List.take_succ_cons]
    by_cases h : j < (num s.length).length
    · rw [List.take_append_of_le_length (by omega)]
      simp only [tf, tn_torn0 h]
      rfl
    · have e : (num s.length ++ (four S ++ s)).take j = num s.length ++ (four S ++ s).take (j - (num s.length).length) := by
        rw [List.take_append, List.take_of_length_le (by omega)]
      rw [e]
      simp only [tf, tn_num (show s.length < 2 ^ 64 by omega), ne_eq, not_true_eq_false, if_false]
      rw [if_neg (by omega), if_pos (by simp [four_len] at hj ⊢; omega)]

theorem tkt_torn : ∀ (s : List UInt8) (i : Nat) (out : List UInt8) (j : Nat), j < (kt s).length → tkt i out ((kt s).take j) = ([], 0, 10)
  | [], i, out, j, hj => by
    have : j = 0 ∨ j = 1 := by simp [kt, esc] at hj; omega
    rcases this with rfl | rfl <;> rfl
  | c :: t, i, out, j, hj => by
    have he : kt (c :: t) = (if c.toNat = 0 then [c, by8 255] else [c]) ++ kt t := by simp [kt, esc]
    rw [he] at hj ⊢
    by_cases h : c.toNat = 0
    · rw [if_pos h] at hj ⊢
      cases j with
      | zero => rfl
      | succ j =>
        cases j with
        | zero => rfl
        | succ j =>
          have h2 : (by8 255).toNat = 255 := by rw [by8_nat]
          simp only [List.cons_append, List.nil_append, List.take_succ_cons, tkt, h, h2, ne_eq, not_true_eq_false, if_false, if_true]
          exact tkt_torn t _ _ j (by simp at hj; omega)
    · rw [if_neg h] at hj ⊢
      cases j with
      | zero => rfl
      | succ j =>
        simp only [List.cons_append, List.nil_append, List.take_succ_cons]
        rw [tkt_step h]
        exact tkt_torn t _ _ j (by simp at hj; omega)

theorem takenFrame_any (A : Option Addr) (n c : Nat) (l : List UInt8) (w : World) (hn : n = l.length) (hr : Rd w w.heap.size A l) (hl : l.length ≤ 225179981367000) (hc : l.length ≤ c) (hT : Tab w) :
    Calls Tryd.prog 22 #[.slice A n c] w fun e w' => ∃ v, e = .returned (.tuple #[.int .u8 ((tf l).1.toNat : Int), v, .int .i64 (tf l).2.2.1, .int .i64 (tf l).2.2.2]) ∧ Own w' w.heap.size v (tf l).2.1 ∧ Below w.heap.size w w' := by
  subst hn
  cases l with
  | nil =>
    refine (takenFrame_none A c w).mono ?_
    rintro e w' ⟨rfl, rfl⟩
    exact ⟨_, rfl, Own.nil_ _ _, Below.refl _ _⟩
  | cons k0 t => exact takenFrame_full A c k0 t w hr hl hc hT
theorem takenText_at (A : Option Addr) (n c : Nat) (l : List UInt8) (w : World) (hn : n = l.length) (hr : Rd w w.heap.size A l) (hl : l.length ≤ 225179981367000) (hc : l.length ≤ c) :
    Calls Tryd.prog 20 #[.slice A n c] w fun e w' => ∃ v, e = .returned (.tuple #[v, .int .i64 (tt l).2.1, .int .i64 (tt l).2.2]) ∧ Own w' w.heap.size v (tt l).1 ∧ Below w.heap.size w w' := by
  subst hn
  exact takenText_any A c l w hr hl hc
theorem takenKeyText_at (A : Option Addr) (n c : Nat) (l : List UInt8) (w : World) (hn : n = l.length) (hr : Rd w w.heap.size A l) (hl : l.length ≤ 225179981367000) :
    Calls Tryd.prog 26 #[.slice A n c] w fun e w' => ∃ v, e = .returned (.tuple #[v, .int .i64 (tkt 0 [] l).2.1, .int .i64 (tkt 0 [] l).2.2]) ∧ Own w' w.heap.size v (tkt 0 [] l).1 ∧ Below w.heap.size w w' := by
  subst hn
  exact takenKeyText_any A c l w hr hl
/-- b[:q % len(b)] -/
theorem cut_mod {A : Option Addr} {n c q : Nat} (hn : 0 < n) (hc : n ≤ c) : ∀ W' : World, (Instr.slice 23 (.slice A n c) none (some (.int .i64 ((q : Int) % (n : Int)))) none).run Tryd.prog W' = .ok (.slice A (q % n) c) W' := fun W' => by
  have := cut0_run (A := A) (n := n) (c := c) (e := q % n) (Nat.le_trans (Nat.le_of_lt (Nat.mod_lt q hn)) hc) W'
  rw [Int.natCast_emod] at this
  exact this

set_option maxHeartbeats 1600000 in
set_option maxRecDepth 100000 in
theorem law_torn_long (K : Int) (A : Option Addr) (c n : Nat) (q : Int) (w : World) (hlong : 2097152 < n) (hT : Tab w) (h0 : 0 < w.heap.size) :
    Calls Tryd.prog 11 #[.int .u8 K, .slice A n c, .int .i64 q] w fun e w' => e = .returned (.bool true) ∧ Below w.heap.size w w' := by
  have HTab := Lib.hid hT
  clear hT
  go_enter Tryd.func11, Tryd.ntmps11
  go_wp2_with fail
  refine (shown_any w HTab.out h0).mono ?_
  rintro e w1 ⟨rfl, hb1⟩
  go_wp2_with fail
  refine (frame_long K A c n w1 hlong).mono ?_
  rintro e w3 ⟨rfl, rfl⟩
  go_wp2
  go_ret
  exact ⟨rfl, hb1⟩

set_option maxHeartbeats 1600000 in
set_option maxRecDepth 100000 in
theorem law_torn_less (k : UInt8) (A : Option Addr) (c : Nat) (s : List UInt8) (q : Int) (w : World) (hq : q < 0) (hs : Rd w w.heap.size A s) (hok : s.length ≤ 2097152) (hT : Tab w) (h0 : 0 < w.heap.size) :
    Calls Tryd.prog 11 #[.int .u8 (k.toNat : Int), .slice A s.length c, .int .i64 q] w fun e w' => e = .returned (.bool true) ∧ Below w.heap.size w w' := by
  have HTab := Lib.hid hT
  have HS := Lib.hid hs
  clear hT hs
  go_enter Tryd.func11, Tryd.ntmps11
  go_wp2_with fail
  refine (shown_any w HTab.out h0).mono ?_
  rintro e w1 ⟨rfl, hb1⟩
  go_wp2_with fail
  refine (frame_ok k A c s w1 ((HS.out.below hb1).more hb1.size) hok (HTab.out.below hb1 h0) (Nat.lt_of_lt_of_le h0 hb1.size)).mono ?_
  rintro e w3 ⟨v3, rfl, o3, hb3⟩
  go_wp2
  go_ret
  exact ⟨rfl, hb1.trans (hb3.mono hb1.size)⟩

set_option maxHeartbeats 3200000 in
set_option maxRecDepth 100000 in
theorem law_torn_ok (k : UInt8) (A : Option Addr) (c : Nat) (s : List UInt8) (q : Nat) (w : World) (hq : q < 9223372036854775808) (hs : Rd w w.heap.size A s) (hok : s.length ≤ 2097152) (hT : Tab w) (h0 : 0 < w.heap.size) :
    Calls Tryd.prog 11 #[.int .u8 (k.toNat : Int), .slice A s.length c, .int .i64 (q : Int)] w fun e w' => e = .returned (.bool true) ∧ Below w.heap.size w w' := by
  have HTab := Lib.hid hT
  have HS := Lib.hid hs
  have HQ := Lib.hid hq
  have hnl := num_len s.length
  have hnp := num_pos s.length
  have hel := esc_len s
  obtain ⟨F, hF⟩ : ∃ F, F = frame k s := ⟨_, rfl⟩
  have hFl : F.length = 1 + (num s.length).length + 4 + s.length := by rw [hF]; unfold frame; simp [head, four_len]; omega
  have hFb : F.length ≤ 2097172 := by omega
  have hFp : 0 < F.length := by omega
  have TF := Lib.hid (tf_torn (k := k) hok (j := q % F.length) (by rw [← hF]; exact Nat.mod_lt _ hFp))
  rw [← hF] at TF
  have HF := Lib.hid hF
  obtain ⟨T, hTe⟩ : ∃ T, T = num s.length ++ s := ⟨_, rfl⟩
  have hTl : T.length = (num s.length).length + s.length := by rw [hTe]; simp
  have hTb : T.length ≤ 2097172 := by omega
  have hTp : 0 < T.length := by omega
  have TT := Lib.hid (tt_torn hok (j := q % T.length) (by rw [← hTe]; exact Nat.mod_lt _ hTp))
  rw [← hTe] at TT
  have HTe := Lib.hid hTe
  obtain ⟨X, hX⟩ : ∃ X, X = kt s := ⟨_, rfl⟩
  have hXl : X.length = (esc s).length + 2 := by rw [hX]; simp [kt]
  have hXb : X.length ≤ 4194306 := by omega
  have hXp : 0 < X.length := by omega
  have TX := Lib.hid (tkt_torn s 0 [] (q % X.length) (by rw [← hX]; exact Nat.mod_lt _ hXp))
  rw [← hX] at TX
  have HX := Lib.hid hX
  obtain ⟨I, hI⟩ : ∃ I, I = key8 (off63 (q : Int)) := ⟨_, rfl⟩
  have hI8 : I.length = 8 := by rw [hI]; simp [key8]
  have hIp : 0 < I.length := by omega
  have HI := Lib.hid hI
  have HI8 := Lib.hid hI8
  have hm1 := Nat.mod_lt q hFp
  have hm2 := Nat.mod_lt q hTp
  have hm3 := Nat.mod_lt q hXp
  have hm4 := Nat.mod_lt q hIp
  have hI8' : I.length ≤ 8 := by omega
  have n1 : ((F.length : Int) == 0) = false := by rw [beq_eq_false_iff_ne]; omega
  have n2 : ((T.length : Int) == 0) = false := by rw [beq_eq_false_iff_ne]; omega
  have n3 : ((X.length : Int) == 0) = false := by rw [beq_eq_false_iff_ne]; omega
  have n4 : ((I.length : Int) == 0) = false := by rw [beq_eq_false_iff_ne]; omega
  clear hT hs hF hFl hTe hTl hX hXl hI hel hI8 hq
  go_enter Tryd.func11, Tryd.ntmps11
  go_wp2_with fail
  refine (shown_any w HTab.out h0).mono ?_
  rintro e w1 ⟨rfl, hb1⟩
  have r1 := (HS.out.below hb1).more hb1.size
  go_wp2_with fail
  refine (frame_ok k A c s w1 r1 hok (HTab.out.below hb1 h0) (Nat.lt_of_lt_of_le h0 hb1.size)).mono ?_
  rintro e w2 ⟨v2, rfl, o2, hb2⟩
  rw [← HF.out] at o2
  obtain ⟨A2, c2, rfl, r2, q2⟩ := o2.rdc
  go_wp2_with fail
  refine (text_ok A c s w2 ((r1.below hb2).more hb2.size) hok).mono ?_
  rintro e w3 ⟨v3, rfl, o3, hb3⟩
  rw [← HTe.out] at o3
  obtain ⟨A3, c3, rfl, r3, q3⟩ := o3.rdc
  have b13 : Below w1.heap.size w1 w3 := hb2.trans (hb3.mono hb2.size)
  go_wp2_with fail
  refine (keyText_any A c s w3 ((r1.below b13).more b13.size) (by omega)).mono ?_
  rintro e w4 ⟨v4, rfl, o4, hb4⟩
  rw [← HX.out] at o4
  obtain ⟨A4, c4, rfl, r4, q4⟩ := o4.rdc
  go_wp2_with fail
  refine (keyInt_any (q : Int) w4 (by omega) (by have := HQ.out; omega)).mono ?_
  rintro e w5 ⟨v5, rfl, o5, hb5⟩
  rw [← HI.out] at o5
  obtain ⟨A5, c5, rfl, r5, q5⟩ := o5.rdc
  have k2 := cut_mod (A := A2) (q := q) hFp q2
  have k3 := cut_mod (A := A3) (q := q) hTp q3
  have k4 := cut_mod (A := A4) (q := q) hXp q4
  have k5 := cut_mod (A := A5) (q := q) hIp q5
  have b45 : Below w4.heap.size w4 w5 := hb5
  have b35 : Below w3.heap.size w3 w5 := hb4.trans (b45.mono hb4.size)
  have b25 : Below w2.heap.size w2 w5 := hb3.trans (b35.mono hb3.size)
  have b15 : Below w1.heap.size w1 w5 := hb2.trans (b25.mono hb2.size)
  have b05 : Below w.heap.size w w5 := hb1.trans (b15.mono hb1.size)
  have l2 : (F.take (q % F.length)).length = q % F.length := by rw [List.length_take]; omega
  have l3 : (T.take (q % T.length)).length = q % T.length := by rw [List.length_take]; omega
  have l4 : (X.take (q % X.length)).length = q % X.length := by rw [List.length_take]; omega
  have l5 : (I.take (q % I.length)).length = q % I.length := by rw [List.length_take]; omega
  have L2 := Lib.hid l2
  have L3 := Lib.hid l3
  have L4 := Lib.hid l4
  have L5 := Lib.hid l5
  clear l2 l3 l4 l5
  have t2 := takenFrame_any A2 (q % F.length) c2 (F.take (q % F.length)) w5 L2.out.symm (rd_take ((r2.below b25).more b25.size) _) (by rw [L2.out]; omega) (by rw [L2.out]; omega) (HTab.out.below b05 h0)
  rw [TF.out] at t2
  have T2 := Lib.hid t2
  clear t2
  go_wp2_with fail
  refine T2.out.mono ?_
  rintro e w6 ⟨v6, rfl, o6, hb6⟩
  have t3 := takenText_at A3 (q % T.length) c3 (T.take (q % T.length)) w6 L3.out.symm (rd_take ((r3.below (b35.trans (hb6.mono b35.size))).more (Nat.le_trans b35.size hb6.size)) _) (by rw [L3.out]; omega) (by rw [L3.out]; omega)
  rw [TT.out] at t3
  have T3 := Lib.hid t3
  clear t3
  go_wp2_with fail
  refine T3.out.mono ?_
  rintro e w7 ⟨v7, rfl, o7, hb7⟩
  have b67 := hb6.trans (hb7.mono hb6.size)
  have t4 := takenKeyText_at A4 (q % X.length) c4 (X.take (q % X.length)) w7 L4.out.symm (rd_take ((r4.below (b45.trans (b67.mono b45.size))).more (Nat.le_trans b45.size b67.size)) _) (by rw [L4.out]; omega)
  rw [TX.out] at t4
  have T4 := Lib.hid t4
  clear t4
  go_wp2_with fail
  refine T4.out.mono ?_
  rintro e w8 ⟨v8, rfl, o8, hb8⟩
  have b68 := b67.trans (hb8.mono b67.size)
  go_wp2_with fail
  refine (takenKeyInt_short A5 (q % I.length) c5 w8 (by omega)).mono ?_
  rintro e w9 ⟨rfl, rfl⟩
  go_wp2
  go_ret
  exact ⟨rfl, b05.trans (b68.mono b05.size)⟩

theorem law_torn (K : Int) (A : Option Addr) (c : Nat) (s : List UInt8) (q : Int) (w : World) (hK : 0 ≤ K ∧ K ≤ 255) (hq : -9223372036854775808 ≤ q ∧ q ≤ 9223372036854775807) (hs : Rd w w.heap.size A s) (hT : Tab w) (h0 : 0 < w.heap.size) :
    Calls Tryd.prog 11 #[.int .u8 K, .slice A s.length c, .int .i64 q] w fun e w' => e = .returned (.bool true) ∧ Below w.heap.size w w' := by
  by_cases h : s.length ≤ 2097152
  · obtain ⟨k, rfl⟩ : ∃ k : UInt8, K = (k.toNat : Int) := ⟨by8 K.toNat, by rw [by8_toNat (by omega)]; omega⟩
    by_cases hq0 : q < 0
    · exact law_torn_less k A c s q w hq0 hs h hT h0
    · obtain ⟨m, rfl⟩ := Int.eq_ofNat_of_zero_le (Int.not_lt.1 hq0)
      exact law_torn_ok k A c s m w (by omega) hs h hT h0
  · exact law_torn_long K A c s.length q w (by omega) hT h0
end Go.Proofs.YtaojflmbfigplaaDoor
