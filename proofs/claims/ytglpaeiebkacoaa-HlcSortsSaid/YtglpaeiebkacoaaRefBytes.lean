/-
  The contract of the reference's Bytes.
-/
import Derived.Test.YtglpaeiebkacoaaRefRead
namespace Go.Proofs.Ytglpaeiebkacoaa
open Go.RowKit

def mid (a m : Nat) : List UInt8 := List.replicate (7 - m) 0 ++ beB a m ++ [0, 0]
theorem mid_set (a m : Nat) (h : m < 7) : (mid a m).set (6 - m) (by8 (a / 2 ^ (8 * m))) = mid a (m + 1) := by
  match m, h with
  | 0, _ => rfl
  | 1, _ => rfl
  | 2, _ => rfl
  | 3, _ => rfl
  | 4, _ => rfl
  | 5, _ => rfl
  | 6, _ => rfl
theorem mid_len (a m : Nat) (h : m ≤ 7) : (mid a m).length = 9 := by simp [mid, beB_len]; omega
theorem mid_end (a b : Nat) : ((mid a 7).set 7 (by8 (b / 256))).set 8 (by8 b) = stBytes a b := by
  simp [mid, stBytes, beB]
theorem by8_mod (n : Nat) : by8 (n % 256) = by8 n := by
  apply UInt8.toNat_inj.1
  rw [by8_nat, by8_nat]; omega

set_option maxHeartbeats 800000 in
set_option maxRecDepth 100000 in
theorem rbytes_bad (a b : Int) (w : World) (h : stOk a b = false) : Calls Try.prog 19 #[.agg #[.int .i64 a, .int .i64 b]] w fun e w' => e = .returned (.tuple #[.slice none 0 0, .int .i64 80]) ∧ Below w.heap.size w w' := by
  go_enter Try.func19, Try.ntmps19
  go_wp2_with (go_at_call 14; refine (rright_any _ _ _).mono ?_; rintro e w1 ⟨rfl, hb1⟩; rw [h])
  refine bodyPost_ret (results2 rfl _ _ _) rfl ?_
  exact ⟨rfl, (below1 _ _).trans (hb1.mono (by simp))⟩

theorem stOk_le {a b : Nat} (h : stOk a b = true) : a ≤ 9007199254740991 ∧ b ≤ 65535 := by
  simp [stOk, wallOk] at h
  omega

set_option maxHeartbeats 800000 in
set_option maxRecDepth 100000 in
theorem rbytes_ok (a b : Nat) (w : World) (h : stOk a b = true) : Calls Try.prog 19 #[.agg #[.int .i64 a, .int .i64 b]] w fun e w' => ∃ v, e = .returned (.tuple #[v, .int .i64 0]) ∧ Own w' w.heap.size v (stBytes a b) ∧ Below w.heap.size w w' := by
  obtain ⟨ha, hb⟩ := stOk_le h
  replace h := Lib.hid h
  go_enter Try.func19, Try.ntmps19
  go_wp2_with (first | (go_at_call 14; refine (rright_any _ _ _).mono ?_; rintro e w1 ⟨rfl, hb1⟩; rw [h.out]) | (at_make; refine make_zeros _ 9 _ _ rfl rfl rfl _ _ rfl rfl rfl (by omega) ?_))
  intro w2 hown hbel hlt
  have z0 := kept0 hb1 (show (w.alloc (.cells #[.int .i64 (a : Int), .int .i64 (b : Int)] 23)).cell? ⟨w.heap.size, 0, none⟩ = some (.int .i64 (a : Int)) by rw [World.cell?_alloc_at _ _ _ _ rfl]; rfl)
  have z1 := kept0 hb1 (show (w.alloc (.cells #[.int .i64 (a : Int), .int .i64 (b : Int)] 23)).cell? ⟨w.heap.size, 1, none⟩ = some (.int .i64 (b : Int)) by rw [World.cell?_alloc_at _ _ _ _ rfl]; rfl)
  have b01 : Below w.heap.size w w1 := (below1 _ _).trans (hb1.mono (by simp))
  clear hb1
  have y0 := kept0 hbel z0
  go_wp2
  go_loopw [6, 7] (fun n i wr => ∃ m : Nat, m ≤ 7 ∧ i = .int .i64 (6 - (m : Int)) ∧ n = .int .i64 ((a / 2 ^ (8 * m) : Nat) : Int) ∧ Own wr w1.heap.size (.slice (some ⟨w1.heap.size, 0, none⟩) 9 9) (mid a m) ∧ Below w1.heap.size w1 wr) (fun _ i _ => (intOf i + 1).toNat)
  case atStart => exact ⟨0, by omega, rfl, by simp, hown, hbel⟩
  case round =>
    obtain ⟨m, hm, rfl, rfl, hown, hbel⟩ := hrel
    have hml := mid_len a m hm
    have hdv : a / 2 ^ (8 * m) ≤ a := Nat.div_le_self _ _
    by_cases hlt7 : m < 7
    · have hl6 : 6 - m < (mid a m).length := by omega
      obtain ⟨X, c1⟩ : ∃ X, wr.cell? ⟨w1.heap.size, 6 - m, none⟩ = some (.int .u8 X) := ⟨_, hown.cell (6 - m) hl6⟩
      have c2 := hown.free (6 - m)
      have HV := Lib.hid (show (((a / 2 ^ (8 * m) : Nat) : Int) % 256) = ((by8 (a / 2 ^ (8 * m))).toNat : Int) by rw [by8_nat]; omega)
      have HD := Lib.hid (show a / 2 ^ (8 * (m + 1)) = a / 2 ^ (8 * m) / 256 by rw [Nat.div_div_eq_div_mul, show 8 * (m + 1) = 8 * m + 8 by omega, Nat.pow_add])
      have HM := Lib.hid (mid_set a m hlt7)
      obtain ⟨Y, hY⟩ : ∃ Y, Y = a / 2 ^ (8 * m) := ⟨_, rfl⟩
      rw [← hY] at HV HD HM hdv
      rw [← hY]
      clear hY
      obtain ⟨q, hq⟩ : ∃ q, q = 6 - m := ⟨_, rfl⟩
      rw [← hq] at c1 c2 HM hl6
      rw [show 6 - (m : Int) = (q : Int) by omega]
      replace hq := Lib.hid hq
      go_wp2
      go_roundw
      case rel =>
        refine ⟨m + 1, by omega, by have := hq.out; go_num, by rw [HD.out]; go_num, ?_, hbel.setCell (Nat.le_refl _) _⟩
        rw [← HM.out]
        have := hown.set q (by8 Y)
        unfold bv at this
        rw [← HV.out] at this
        exact this
      case measure => have := hq.out; simp [intOf]
    · obtain rfl : m = 7 := by omega
      have y0 := kept0 hbel z0
      have y1 := kept0 hbel z1
      have hw := hown.lt
      obtain ⟨X7, c7⟩ : ∃ X, wr.cell? ⟨w1.heap.size, 7, none⟩ = some (.int .u8 X) := ⟨_, hown.cell 7 (by omega)⟩
      obtain ⟨X8, c8⟩ : ∃ X, wr.cell? ⟨w1.heap.size, 8, none⟩ = some (.int .u8 X) := ⟨_, hown.cell 8 (by omega)⟩
      have f7 := hown.free 7
      have f8 := hown.free 8
      have o2 := (hown.set 7 (by8 (b / 256))).set 8 (by8 b)
      rw [mid_end] at o2
      have hne : w.heap.size < w1.heap.size := World.block_lt_of_cell? _ _ z0
      have O2 := Lib.hid o2
      have E7 := Lib.hid (show ((b : Int) / 256) = ((by8 (b / 256)).toNat : Int) by rw [by8_nat]; omega)
      have E8 := Lib.hid (show ((b : Int) % 256) = ((by8 b).toNat : Int) by rw [by8_nat]; omega)
      clear o2
      go_wp2
      refine bodyPost_ret (results2 rfl _ _ _) rfl ?_
      refine ⟨_, rfl, ?_, ?_⟩
      · have := O2.out
        unfold bv at this
        rw [← E7.out, ← E8.out] at this
        exact this.mono b01.size
      · exact ((b01.trans (hbel.mono b01.size)).setCell (by simp; omega) _).setCell (by simp; omega) _
end Go.Proofs.Ytglpaeiebkacoaa
