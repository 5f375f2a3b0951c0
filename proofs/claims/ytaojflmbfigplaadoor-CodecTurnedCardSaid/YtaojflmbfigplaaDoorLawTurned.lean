/-
  The walk of the law CodecTurned: one byte of a frame's sum or body turned is told.
-/
import Derived.Test.YtaojflmbfigplaaDoorLawTorn
namespace Go.Proofs.YtaojflmbfigplaaDoor
open Go.RowKit

theorem tab_top : ∀ i j : Fin 16, tabAt i.val / 2 ^ 28 = tabAt j.val / 2 ^ 28 → i = j := by decide +kernel
theorem nib_inj {r s : Nat} (hr : r < 2 ^ 32) (hs : s < 2 ^ 32) (h : nib r = nib s) : r = s := by
  have ht : tabAt (r % 16) / 2 ^ 28 = tabAt (s % 16) / 2 ^ 28 := by
    have e : ∀ x, x < 2 ^ 32 → nib x / 2 ^ 28 = tabAt (x % 16) / 2 ^ 28 := fun x hx => by
      unfold nib
      rw [Nat.xor_div_two_pow, Nat.div_eq_of_lt (show x / 16 < 2 ^ 28 by omega), Nat.zero_xor]
    rw [← e r hr, ← e s hs, h]
  have hm : r % 16 = s % 16 := by
    have := tab_top ⟨r % 16, by omega⟩ ⟨s % 16, by omega⟩ ht
    exact congrArg Fin.val this
  have hd : r / 16 = s / 16 := by
    unfold nib at h
    rw [hm] at h
    have e : ∀ a b : Nat, (a ^^^ b) ^^^ b = a := fun a b => by rw [Nat.xor_assoc, Nat.xor_self, Nat.xor_zero]
    rw [← e (r / 16) (tabAt (s % 16)), h, e]
  omega
theorem crcOn_inj : ∀ (t : List UInt8) {r s : Nat}, r < 2 ^ 32 → s < 2 ^ 32 → crcOn r t = crcOn s t → r = s
  | [], _, _, _, _, h => h
  | c :: t, r, s, hr, hs, h => by
    have hc : c.toNat < 2 ^ 32 := by have := c.toNat_lt; omega
    have h1 : r ^^^ c.toNat < 2 ^ 32 := Nat.xor_lt_two_pow hr hc
    have h2 : s ^^^ c.toNat < 2 ^ 32 := Nat.xor_lt_two_pow hs hc
    have := crcOn_inj t (nib_lt (nib_lt h1)) (nib_lt (nib_lt h2)) h
    have := nib_inj h1 h2 (nib_inj (nib_lt h1) (nib_lt h2) this)
    have e : ∀ a b : Nat, (a ^^^ b) ^^^ b = a := fun a b => by rw [Nat.xor_assoc, Nat.xor_self, Nat.xor_zero]
    rw [← e r c.toNat, this, e]
theorem crc_turned (a t : List UInt8) (c d : UInt8) (h : c ≠ d) : crc (a ++ c :: t) ≠ crc (a ++ d :: t) := by
  intro he
  have hR : crcOn 4294967295 a < 2 ^ 32 := crcOn_lt (by decide)
  have h1 := crcOn_lt (l := a ++ c :: t) (r := 4294967295) (by decide)
  have h2 := crcOn_lt (l := a ++ d :: t) (r := 4294967295) (by decide)
  have he' : crcOn 4294967295 (a ++ c :: t) = crcOn 4294967295 (a ++ d :: t) := by unfold crc at he; omega
  rw [← crcOn_append, ← crcOn_append] at he'
  have hc : c.toNat < 2 ^ 32 := by have := c.toNat_lt; omega
  have hd : d.toNat < 2 ^ 32 := by have := d.toNat_lt; omega
  have x1 := Nat.xor_lt_two_pow hR hc
  have x2 := Nat.xor_lt_two_pow hR hd
  have h3 := crcOn_inj t (nib_lt (nib_lt x1)) (nib_lt (nib_lt x2)) he'
  have h4 := nib_inj x1 x2 (nib_inj (nib_lt x1) (nib_lt x2) h3)
  have e : ∀ r b : Nat, r ^^^ (r ^^^ b) = b := fun r b => by rw [← Nat.xor_assoc, Nat.xor_self, Nat.zero_xor]
  apply h
  apply UInt8.toNat_inj.1
  rw [← e (crcOn 4294967295 a) c.toNat, h4, e]
theorem four_inj {S T : Nat} (hS : S ≤ 4294967295) (hT : T ≤ 4294967295) (h : four S = four T) : S = T := by
  unfold four at h
  simp only [List.cons.injEq, and_true] at h
  obtain ⟨h0, h1, h2, h3⟩ := h
  have e : ∀ a b : Nat, by8 a = by8 b → a % 256 = b % 256 := fun a b h => by rw [← by8_nat a, ← by8_nat b, h]
  have h0 := e _ _ h0
  have h1 := e _ _ h1
  have h2 := e _ _ h2
  have h3 := e _ _ h3
  omega

/-- a frame with one byte of its sum or its body another one -/
theorem tf_turned {k : UInt8} {s : List UInt8} (hs : s.length ≤ 2097152) {m : Nat} {d : UInt8} (hm : m < s.length + 4) (hd : ∀ h : 1 + (num s.length).length + m < (frame k s).length, (frame k s)[1 + (num s.length).length + m] ≠ d) :
    tf ((frame k s).set (1 + (num s.length).length + m) d) = (0, [], 0, 13) := by
  obtain ⟨S, hS⟩ : ∃ S, S = crc (head k s.length ++ s) := ⟨_, rfl⟩
  have hSb : S ≤ 4294967295 := by rw [hS]; have := crc_lt (head k s.length ++ s); omega
  obtain ⟨N, hN⟩ : ∃ N, N = num s.length := ⟨_, rfl⟩
  have hf : frame k s = k :: (N ++ (four S ++ s)) := by
    unfold frame
    rw [← hS, hN]
    simp [head]
  have hh : head k s.length = k :: N := by rw [hN]; rfl
  rw [hf] at hd ⊢
  rw [← hN] at hd ⊢
  have hset : (k :: (N ++ (four S ++ s))).set (1 + N.length + m) d = k :: (N ++ (four S ++ s).set m d) := by
    rw [show 1 + N.length + m = (N.length + m) + 1 by omega, List.set_cons_succ, List.set_append_right _ _ (by omega)]
    simp
  have hget : ∀ h : m < (four S ++ s).length, (four S ++ s)[m] ≠ d := fun h => by
    have h2 : 1 + N.length + m < (k :: (N ++ (four S ++ s))).length := by simp [four_len] at h ⊢; omega
    have := hd h2
    have e : (k :: (N ++ (four S ++ s)))[1 + N.length + m] = (four S ++ s)[m] := by
      have e1 : (k :: (N ++ (four S ++ s)))[1 + N.length + m]? = (four S ++ s)[m]? := by
        rw [show 1 + N.length + m = (N.length + m) + 1 by omega, List.getElem?_cons_succ, List.getElem?_append_right (by omega)]
        simp
      rw [List.getElem?_eq_getElem h2, List.getElem?_eq_getElem h] at e1
      exact Option.some.inj e1
    rw [← e]
    exact this
  rw [hset]
  obtain ⟨Z, hZ⟩ : ∃ Z, Z = (four S ++ s).set m d := ⟨_, rfl⟩
  have hZl : Z.length = 4 + s.length := by rw [hZ]; simp [four_len]
  rw [← hZ]
  have hT := tn_num (n := s.length) (by omega) Z
  rw [← hN] at hT
  have d1 : (k :: (N ++ Z)).drop (1 + N.length) = Z := by rw [Nat.add_comm, List.drop_succ_cons, List.drop_left]
  have d2 : (k :: (N ++ Z)).drop (1 + N.length + 4) = Z.drop 4 := by rw [← List.drop_drop, d1]
  have d3 : (k :: (N ++ Z)).take (1 + N.length) = head k s.length := by rw [Nat.add_comm, List.take_succ_cons, List.take_left, hh]
  simp only [tf, hT, ne_eq, not_true_eq_false, if_false]
  rw [d1, d2, d3, if_neg (by omega), if_neg (by simp; omega)]
  have h4 : (Z.drop 4).take s.length = Z.drop 4 := List.take_of_length_le (by simp; omega)
  rw [h4, if_neg]
  intro he
  by_cases h : m < 4
  · have e1 : Z.take 4 = (four S).set m d := by rw [hZ, List.set_append_left _ _ (by simpa [four_len] using h), show (4 : Nat) = ((four S).set m d).length by simp [four_len], List.take_left]
    have e2 : Z.drop 4 = s := by rw [hZ, List.set_append_left _ _ (by simpa [four_len] using h), show (4 : Nat) = ((four S).set m d).length by simp [four_len], List.drop_left]
    rw [e1, e2, ← hS] at he
    have hm4 : m < (four S).length := by simpa [four_len] using h
    have e3 : ((four S).set m d)[m]'(by simpa using hm4) = d := by simp
    have e4 : (four S ++ s)[m]'(by simp; omega) = (four S)[m] := List.getElem_append_left hm4
    apply hget (by simp; omega)
    rw [e4, ← e3]
    congr 1
    exact he.symm
  · have e1 : Z.take 4 = four S := by rw [hZ, List.set_append_right _ _ (by simp [four_len]; omega), show (4 : Nat) = (four S).length from rfl, List.take_left]
    have e2 : Z.drop 4 = s.set (m - 4) d := by rw [hZ, List.set_append_right _ _ (by simp [four_len]; omega), show (4 : Nat) = (four S).length from rfl, List.drop_left]
    rw [e1, e2] at he
    have hSS := four_inj hSb (by have := crc_lt (head k s.length ++ s.set (m - 4) d); omega) he
    have hi : m - 4 < s.length := by omega
    have e5 : s = s.take (m - 4) ++ s[m - 4] :: s.drop (m - 4 + 1) := by rw [← drop_cons hi, List.take_append_drop]
    have e6 : s.set (m - 4) d = s.take (m - 4) ++ d :: s.drop (m - 4 + 1) := by rw [List.set_eq_take_append_cons_drop, if_pos hi]
    have hne : s[m - 4] ≠ d := by
      have := hget (by simp [four_len]; omega)
      rw [List.getElem_append_right (by simp [four_len]; omega)] at this
      exact this
    rw [hS, e6] at hSS
    obtain ⟨H, hH⟩ : ∃ H, H = head k s.length := ⟨_, rfl⟩
    rw [← hH] at hSS
    conv at hSS => lhs; rw [e5]
    rw [← List.append_assoc, ← List.append_assoc] at hSS
    exact crc_turned _ _ _ _ hne hSS

theorem xor8 (a b : UInt8) : bits .xor .u8 (a.toNat : Int) (b.toNat : Int) = ((a ^^^ b).toNat : Int) := by
  have ha : (BitVec.ofInt 8 (a.toNat : Int)).toNat = a.toNat := by
    rw [BitVec.ofInt_natCast, BitVec.toNat_ofNat]; exact Nat.mod_eq_of_lt a.toNat_lt
  have hb : (BitVec.ofInt 8 (b.toNat : Int)).toNat = b.toNat := by
    rw [BitVec.ofInt_natCast, BitVec.toNat_ofNat]; exact Nat.mod_eq_of_lt b.toNat_lt
  have hx : a.toNat ^^^ b.toNat < 2 ^ 8 := Nat.xor_lt_two_pow a.toNat_lt b.toNat_lt
  show IntKind.u8.wrap ((BitVec.ofInt 8 (a.toNat : Int) ^^^ BitVec.ofInt 8 (b.toNat : Int)).toNat : Int) = _
  rw [BitVec.toNat_xor, ha, hb, UInt8.toNat_xor, IntKind.wrap_u8]
  omega
theorem xor_ne (a b : UInt8) (h : b.toNat ≠ 0) : a ≠ a ^^^ b := by
  intro e
  have e1 := congrArg UInt8.toNat e
  rw [UInt8.toNat_xor] at e1
  apply h
  calc b.toNat = a.toNat ^^^ (a.toNat ^^^ b.toNat) := by rw [← Nat.xor_assoc, Nat.xor_self, Nat.zero_xor]
    _ = 0 := by rw [← e1, Nat.xor_self]

set_option maxHeartbeats 1600000 in
set_option maxRecDepth 100000 in
theorem law_turned_long (K Y : Int) (A : Option Addr) (c n : Nat) (q : Int) (w : World) (hlong : 2097152 < n) (hT : Tab w) (h0 : 0 < w.heap.size) :
    Calls Tryd.prog 12 #[.int .u8 K, .slice A n c, .int .i64 q, .int .u8 Y] w fun e w' => e = .returned (.bool true) ∧ Below w.heap.size w w' := by
  have HTab := Lib.hid hT
  clear hT
  go_enter Tryd.func12, Tryd.ntmps12
  go_wp2_with fail
  refine (shown_any w HTab.out h0).mono ?_
  rintro e w1 ⟨rfl, hb1⟩
  go_wp2_with fail
  refine (frame_long K A c n w1 hlong).mono ?_
  rintro e w3 ⟨rfl, rfl⟩
  go_wp2
  go_ret
  exact ⟨rfl, hb1⟩

set_option maxHeartbeats 1600000 in
set_option maxRecDepth 100000 in
theorem law_turned_less (k : UInt8) (A : Option Addr) (c : Nat) (s : List UInt8) (q Y : Int) (w : World) (hq : q < 0) (hs : Rd w w.heap.size A s) (hok : s.length ≤ 2097152) (hT : Tab w) (h0 : 0 < w.heap.size) :
    Calls Tryd.prog 12 #[.int .u8 (k.toNat : Int), .slice A s.length c, .int .i64 q, .int .u8 Y] w fun e w' => e = .returned (.bool true) ∧ Below w.heap.size w w' := by
  have HTab := Lib.hid hT
  have HS := Lib.hid hs
  clear hT hs
  go_enter Tryd.func12, Tryd.ntmps12
  go_wp2_with fail
  refine (shown_any w HTab.out h0).mono ?_
  rintro e w1 ⟨rfl, hb1⟩
  go_wp2_with fail
  refine (frame_ok k A c s w1 ((HS.out.below hb1).more hb1.size) hok (HTab.out.below hb1 h0) (Nat.lt_of_lt_of_le h0 hb1.size)).mono ?_
  rintro e w3 ⟨v3, rfl, o3, hb3⟩
  go_wp2
  go_ret
  exact ⟨rfl, hb1.trans (hb3.mono hb1.size)⟩

set_option maxHeartbeats 1600000 in
set_option maxRecDepth 100000 in
theorem law_turned_zero (k : UInt8) (A : Option Addr) (c : Nat) (s : List UInt8) (q : Int) (w : World) (hq : 0 ≤ q) (hs : Rd w w.heap.size A s) (hok : s.length ≤ 2097152) (hT : Tab w) (h0 : 0 < w.heap.size) :
    Calls Tryd.prog 12 #[.int .u8 (k.toNat : Int), .slice A s.length c, .int .i64 q, .int .u8 0] w fun e w' => e = .returned (.bool true) ∧ Below w.heap.size w w' := by
  have HTab := Lib.hid hT
  have HS := Lib.hid hs
  clear hT hs
  go_enter Tryd.func12, Tryd.ntmps12
  go_wp2_with fail
  refine (shown_any w HTab.out h0).mono ?_
  rintro e w1 ⟨rfl, hb1⟩
  go_wp2_with fail
  refine (frame_ok k A c s w1 ((HS.out.below hb1).more hb1.size) hok (HTab.out.below hb1 h0) (Nat.lt_of_lt_of_le h0 hb1.size)).mono ?_
  rintro e w3 ⟨v3, rfl, o3, hb3⟩
  go_wp2
  go_ret
  exact ⟨rfl, hb1.trans (hb3.mono hb1.size)⟩

set_option maxHeartbeats 3200000 in
set_option maxRecDepth 100000 in
theorem law_turned_ok (k y : UInt8) (A : Option Addr) (c : Nat) (s : List UInt8) (q : Nat) (w : World) (hy : y.toNat ≠ 0) (hs : Rd w w.heap.size A s) (hok : s.length ≤ 2097152) (hT : Tab w) (h0 : 0 < w.heap.size) :
    Calls Tryd.prog 12 #[.int .u8 (k.toNat : Int), .slice A s.length c, .int .i64 (q : Int), .int .u8 (y.toNat : Int)] w fun e w' => e = .returned (.bool true) ∧ Below w.heap.size w w' := by
  have HTab := Lib.hid hT
  have HS := Lib.hid hs
  have hnl := num_len s.length
  have hnp := num_pos s.length
  have hby : ((y.toNat : Int) == 0) = false := by rw [beq_eq_false_iff_ne]; omega
  obtain ⟨M, hM⟩ : ∃ M, M = q % (s.length + 4) := ⟨_, rfl⟩
  have hMl : M < s.length + 4 := by rw [hM]; exact Nat.mod_lt _ (by omega)
  have hMi : (q : Int) % ((s.length : Int) + 4) = (M : Int) := by rw [hM, Int.natCast_emod]; simp
  obtain ⟨P, hP⟩ : ∃ P, P = 1 + (num s.length).length := ⟨_, rfl⟩
  obtain ⟨F, hF⟩ : ∃ F, F = frame k s := ⟨_, rfl⟩
  have hFl : F.length = P + 4 + s.length := by rw [hF, hP]; unfold frame; simp [head, four_len]; omega
  have hPi : (F.length : Int) - (s.length : Int) - 4 = (P : Int) := by omega
  have hPb : P ≤ 11 := by omega
  have hFb : F.length ≤ 2097172 := by omega
  have hPM : P + M < F.length := by omega
  have hsum : (s.length : Int) + 4 ≠ 0 := by omega
  have hnz : ((s.length : Int) + 4 == 0) = false := by rw [beq_eq_false_iff_ne]; omega
  have TF := Lib.hid (tf_turned (k := k) hok (m := M) (d := F[P + M] ^^^ y) hMl (fun h => by
    have e : (frame k s)[1 + (num s.length).length + M] = F[P + M] := by
      have : (frame k s)[1 + (num s.length).length + M]? = F[P + M]? := by rw [hF, hP]
      rw [List.getElem?_eq_getElem h, List.getElem?_eq_getElem hPM] at this
      exact Option.some.inj this
    rw [e]
    exact xor_ne _ _ hy))
  rw [← hF, ← hP] at TF
  have hx := xor8 F[P + M] y
  rw [UInt8.toNat_xor] at hx
  have HF := Lib.hid hF
  have HMi := hMi
  clear hT hs hF hFl hM hP hMi hy
  go_enter Tryd.func12, Tryd.ntmps12
  go_wp2_with fail
  refine (shown_any w HTab.out h0).mono ?_
  rintro e w1 ⟨rfl, hb1⟩
  have r1 := (HS.out.below hb1).more hb1.size
  go_wp2_with fail
  refine (frame_ok k A c s w1 r1 hok (HTab.out.below hb1 h0) (Nat.lt_of_lt_of_le h0 hb1.size)).mono ?_
  rintro e w2 ⟨v2, rfl, o2, hb2⟩
  rw [← HF.out] at o2
  have b02 : Below w.heap.size w w2 := hb1.trans (hb2.mono hb1.size)
  obtain ⟨g, c2, rfl, q2⟩ : ∃ g c2, v2 = .slice (some ⟨g, 0, none⟩) F.length c2 ∧ F.length ≤ c2 := by
    rcases o2.2 with ⟨he, hn⟩ | ⟨g, cap, cur, he, _, _, hnc, _⟩
    · omega
    · exact ⟨g, cap, he, hnc⟩
  have c1 : w2.cell? ⟨g, P + M, none⟩ = some (.int .u8 (F[P + M].toNat : Int)) := o2.cell (P + M) hPM
  have f1 := o2.free (P + M)
  have o3 := o2.set (P + M) (F[P + M] ^^^ y)
  have gl := o2.lt
  have e3 : Value.int .u8 ((F[P + M].toNat ^^^ y.toNat : Nat) : Int) = bv (F[P + M] ^^^ y) := by unfold bv; rw [UInt8.toNat_xor]
  rw [← e3] at o3
  have E3 := Lib.hid e3
  clear e3
  have hFs : F.length = (F.set (P + M) (F[P + M] ^^^ y)).length := by rw [List.length_set]
  have HFs := Lib.hid hFs
  clear hFs
  obtain ⟨w3, hw3⟩ : ∃ w3, w3 = w2.setCell ⟨g, P + M, none⟩ (Value.int .u8 ((F[P + M].toNat ^^^ y.toNat : Nat) : Int)) := ⟨_, rfl⟩
  rw [← hw3] at o3
  have b13 : Below w1.heap.size w1 w3 := by rw [hw3]; exact hb2.setCell gl.1 _
  have b03 : Below w.heap.size w w3 := hb1.trans (b13.mono hb1.size)
  have r3 : Rd w3 w3.heap.size (some ⟨g, 0, none⟩) (F.set (P + M) (F[P + M] ^^^ y)) := by
    have o3' : Own w3 w1.heap.size (.slice (some ⟨g, 0, none⟩) (F.set (P + M) (F[P + M] ^^^ y)).length c2) (F.set (P + M) (F[P + M] ^^^ y)) := by rw [← HFs.out]; exact o3
    obtain ⟨A5, c5, h5, r5⟩ := o3'.rd
    injection h5 with h5 _ _
    rw [h5]
    exact r5
  have ht := takenFrame_any (some ⟨g, 0, none⟩) F.length c2 _ w3 HFs.out r3 (by rw [← HFs.out]; omega) (by rw [← HFs.out]; omega) (HTab.out.below b03 h0)
  rw [TF.out] at ht
  rw [hw3] at ht
  have b03' := b03
  rw [hw3] at b03'
  have HT := Lib.hid ht
  clear ht hw3 r3 o3
  go_wp2_with fail
  refine HT.out.mono ?_
  rintro e w4 ⟨v4, rfl, o4, hb4⟩
  go_wp2
  go_ret
  exact ⟨rfl, b03'.trans (hb4.mono b03'.size)⟩

theorem law_turned (K Y : Int) (A : Option Addr) (c : Nat) (s : List UInt8) (q : Int) (w : World) (hK : 0 ≤ K ∧ K ≤ 255) (hY : 0 ≤ Y ∧ Y ≤ 255) (hs : Rd w w.heap.size A s) (hT : Tab w) (h0 : 0 < w.heap.size) :
    Calls Tryd.prog 12 #[.int .u8 K, .slice A s.length c, .int .i64 q, .int .u8 Y] w fun e w' => e = .returned (.bool true) ∧ Below w.heap.size w w' := by
  by_cases h : s.length ≤ 2097152
  · obtain ⟨k, rfl⟩ : ∃ k : UInt8, K = (k.toNat : Int) := ⟨by8 K.toNat, by rw [by8_toNat (by omega)]; omega⟩
    by_cases hq0 : q < 0
    · exact law_turned_less k A c s q Y w hq0 hs h hT h0
    · by_cases hy0 : Y = 0
      · subst hy0
        exact law_turned_zero k A c s q w (by omega) hs h hT h0
      · obtain ⟨m, rfl⟩ := Int.eq_ofNat_of_zero_le (Int.not_lt.1 hq0)
        obtain ⟨y, rfl⟩ : ∃ y : UInt8, Y = (y.toNat : Int) := ⟨by8 Y.toNat, by rw [by8_toNat (by omega)]; omega⟩
        exact law_turned_ok k y A c s m w (by omega) hs h hT h0
  · exact law_turned_long K Y A c s.length q w (by omega) hT h0
end Go.Proofs.YtaojflmbfigplaaDoor
