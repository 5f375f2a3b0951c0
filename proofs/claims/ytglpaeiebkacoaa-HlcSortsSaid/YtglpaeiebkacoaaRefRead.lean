/-
  The contract of the reference's Read of nine bytes.
-/
import Derived.Test.YtglpaeiebkacoaaReadFull
namespace Go.Proofs.Ytglpaeiebkacoaa
open Go.RowKit

theorem numB_two (x y : UInt8) : numB 0 [x, y] = x.toNat * 256 + y.toNat := by simp [numB]
theorem drop7 {b : List UInt8} (hl : b.length = 9) : b.drop 7 = [b[7], b[8]] := by
  rw [drop_cons (by omega), drop_cons (by omega), drop_nil (by omega)]

set_option maxHeartbeats 800000 in
set_option maxRecDepth 100000 in
theorem rread_full (g o c : Nat) (b : List UInt8) (w : World) (hg : g < w.heap.size) (hcell : ∀ i (h : i < b.length), w.cell? ⟨g, o + i, none⟩ = some (bv b[i])) (hl : b.length = 9) :
    Calls Try.prog 21 #[.slice (some ⟨g, o, none⟩) 9 c] w fun e w' => e = .returned (.tuple #[.agg #[.int .i64 ((rdSt b).1 : Nat), .int .i64 ((rdSt b).2.1 : Nat)], .int .i64 ((rdSt b).2.2 : Nat)]) ∧ Below w.heap.size w w' := by
  obtain ⟨W, hW⟩ : ∃ W, W = numB 0 (b.take 7) := ⟨_, rfl⟩
  obtain ⟨L, hL⟩ : ∃ L, L = numB 0 (b.drop 7) := ⟨_, rfl⟩
  have hrd : rdSt b = if stOk W L = true then (W, L, 0) else (0, 0, 80) := by rw [hW, hL]; rfl
  have hb9 : ((9 : Int) != 9) = false := rfl
  have hr9 := Lib.hid hrd
  have hWh := Lib.hid hW
  have c7 := hcell 7 (by omega)
  have c8 := hcell 8 (by omega)
  rw [drop7 hl, numB_two] at hL
  obtain ⟨x7, h7⟩ : ∃ x7, x7 = b[7].toNat := ⟨_, rfl⟩
  obtain ⟨x8, h8⟩ : ∃ x8, x8 = b[8].toNat := ⟨_, rfl⟩
  have l7 : x7 < 256 := by rw [h7]; exact b[7].toNat_lt
  have l8 : x8 < 256 := by rw [h8]; exact b[8].toNat_lt
  unfold bv at c7 c8
  rw [← h7] at c7 hL
  rw [← h8] at c8 hL
  have M7 : IntKind.i64.wrap (x7 : Int) = (x7 : Int) := IntWalk.i64_in _ (by omega)
  have M8 : IntKind.i64.wrap (x8 : Int) = (x8 : Int) := IntWalk.i64_in _ (by omega)
  have M1 : IntKind.i64.wrap ((x7 : Int) * 256) = (x7 : Int) * 256 := IntWalk.i64_in _ (by omega)
  have M2 : IntKind.i64.wrap ((x7 : Int) * 256 + (x8 : Int)) = (L : Int) := by rw [IntWalk.i64_in _ (by omega)]; omega
  have HC := Lib.hid hcell
  have HL := Lib.hid hl
  clear hrd hcell hW hL h7 h8 hl
  by_cases hk : stOk W L = true
  · rw [hr9.out, if_pos hk]
    clear hr9
    replace hk := Lib.hid hk
    go_enter Try.func21, Try.ntmps21
    go_wp2
    go_loopw [4, 5] (fun n i wr => ∃ k : Nat, k ≤ 7 ∧ i = .int .i64 k ∧ n = .int .i64 (numB 0 (b.take k)) ∧ wr = w.alloc (.cells #[.int .i64 0, .int .i64 0] 23)) (fun _ i _ => 7 - (intOf i).toNat)
    case atStart => exact ⟨0, by omega, rfl, rfl, rfl⟩
    case round =>
      obtain ⟨k, hk7, rfl, rfl, rfl⟩ := hrel
      by_cases hlt : k < 7
      · have hkl : k < b.length := by have := HL.out; omega
        have c1 := (below1 w (.cells #[.int .i64 0, .int .i64 0] 23)).cell (p := ⟨g, o + k, none⟩) hg |>.trans (HC.out k hkl)
        have hb := numB_lt (b.take k) 0 0 (by decide)
        rw [List.length_take] at hb
        have HS := Lib.hid (show numB 0 (b.take (k + 1)) = numB 0 (b.take k) * 256 + b[k].toNat by rw [List.take_succ_eq_append_getElem hkl, numB_snoc])
        obtain ⟨N, hN⟩ : ∃ N, N = numB 0 (b.take k) := ⟨_, rfl⟩
        obtain ⟨x, hx⟩ : ∃ x, x = b[k].toNat := ⟨_, rfl⟩
        have lx : x < 256 := by rw [hx]; exact b[k].toNat_lt
        unfold bv at c1
        rw [← hx] at c1 HS
        rw [← hN] at HS hb
        rw [← hN]
        have hN6 : N < 281474976710656 := Nat.lt_of_lt_of_le hb (Nat.le_trans (Nat.pow_le_pow_right (by decide) (show 0 + min k b.length ≤ 6 by omega)) (by decide))
        clear hN hb hx
        go_wp2
        refine ⟨⟨k + 1, by omega, by go_num, ?_, trivial⟩, by simp [intOf]; omega⟩
        rw [HS.out]
        go_num
      · obtain rfl : k = 7 := by omega
        rw [← hWh.out]
        have c7 := ((below1 w (.cells #[.int .i64 0, .int .i64 0] 23)).cell (p := ⟨g, o + 7, none⟩) hg).trans c7
        have c8 := ((below1 w (.cells #[.int .i64 0, .int .i64 0] 23)).cell (p := ⟨g, o + 8, none⟩) hg).trans c8
        have n7 := World.new_ne _ _ c7
        have n8 := World.new_ne _ _ c8
        go_wp2_with fail
        go_region_held3 (fun w' => w'.cell? ⟨g, o + 7, none⟩ = some (.int .u8 x7) ∧ w'.cell? ⟨g, o + 8, none⟩ = some (.int .u8 x8)) (first | exact ⟨c7, c8⟩ | go_keep) (fail)
        go_wp2_with (go_at_call 14; refine (rright_any _ _ _).mono ?_; rintro e w1 ⟨rfl, hb1⟩; rw [hk.out]; obtain ⟨z0, z1, y0, y1, f0, f1, hb⟩ := after_read (below_of_drew hb1); clear hb1; have hs := hb.size)
        all_goals refine bodyPost_ret (v := .tuple #[.agg #[.int .i64 W, .int .i64 L], .int .i64 0]) (by rw [results_cell_tmp rfl]; go_simp) rfl ?_
        all_goals exact ⟨rfl, (hb.setCell (by simp) _).setCell (by simp) _⟩
  · rw [hr9.out, if_neg hk]
    clear hr9
    rw [Bool.not_eq_true] at hk
    replace hk := Lib.hid hk
    go_enter Try.func21, Try.ntmps21
    go_wp2
    go_loopw [4, 5] (fun n i wr => ∃ k : Nat, k ≤ 7 ∧ i = .int .i64 k ∧ n = .int .i64 (numB 0 (b.take k)) ∧ wr = w.alloc (.cells #[.int .i64 0, .int .i64 0] 23)) (fun _ i _ => 7 - (intOf i).toNat)
    case atStart => exact ⟨0, by omega, rfl, rfl, rfl⟩
    case round =>
      obtain ⟨k, hk7, rfl, rfl, rfl⟩ := hrel
      by_cases hlt : k < 7
      · have hkl : k < b.length := by have := HL.out; omega
        have c1 := (below1 w (.cells #[.int .i64 0, .int .i64 0] 23)).cell (p := ⟨g, o + k, none⟩) hg |>.trans (HC.out k hkl)
        have hb := numB_lt (b.take k) 0 0 (by decide)
        rw [List.length_take] at hb
        have HS := Lib.hid (show numB 0 (b.take (k + 1)) = numB 0 (b.take k) * 256 + b[k].toNat by rw [List.take_succ_eq_append_getElem hkl, numB_snoc])
        obtain ⟨N, hN⟩ : ∃ N, N = numB 0 (b.take k) := ⟨_, rfl⟩
        obtain ⟨x, hx⟩ : ∃ x, x = b[k].toNat := ⟨_, rfl⟩
        have lx : x < 256 := by rw [hx]; exact b[k].toNat_lt
        unfold bv at c1
        rw [← hx] at c1 HS
        rw [← hN] at HS hb
        rw [← hN]
        have hN6 : N < 281474976710656 := Nat.lt_of_lt_of_le hb (Nat.le_trans (Nat.pow_le_pow_right (by decide) (show 0 + min k b.length ≤ 6 by omega)) (by decide))
        clear hN hb hx
        go_wp2
        refine ⟨⟨k + 1, by omega, by go_num, ?_, trivial⟩, by simp [intOf]; omega⟩
        rw [HS.out]
        go_num
      · obtain rfl : k = 7 := by omega
        rw [← hWh.out]
        have c7 := ((below1 w (.cells #[.int .i64 0, .int .i64 0] 23)).cell (p := ⟨g, o + 7, none⟩) hg).trans c7
        have c8 := ((below1 w (.cells #[.int .i64 0, .int .i64 0] 23)).cell (p := ⟨g, o + 8, none⟩) hg).trans c8
        have n7 := World.new_ne _ _ c7
        have n8 := World.new_ne _ _ c8
        go_wp2_with fail
        go_region_held3 (fun w' => w'.cell? ⟨g, o + 7, none⟩ = some (.int .u8 x7) ∧ w'.cell? ⟨g, o + 8, none⟩ = some (.int .u8 x8)) (first | exact ⟨c7, c8⟩ | go_keep) (fail)
        go_wp2_with (go_at_call 14; refine (rright_any _ _ _).mono ?_; rintro e w1 ⟨rfl, hb1⟩; rw [hk.out]; obtain ⟨z0, z1, y0, y1, f0, f1, hb⟩ := after_read (below_of_drew hb1); clear hb1; have hs := hb.size)
        all_goals refine bodyPost_ret (v := .tuple #[.agg #[.int .i64 0, .int .i64 0], .int .i64 80]) (by rw [results_cell_tmp rfl]; go_simp) rfl ?_
        all_goals exact ⟨rfl, (hb.setCell (by simp) _).setCell (by simp) _⟩
end Go.Proofs.Ytglpaeiebkacoaa
