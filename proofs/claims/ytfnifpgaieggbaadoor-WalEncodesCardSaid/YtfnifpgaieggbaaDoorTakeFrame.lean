/-
  The contract of codec.TakeFrame.
-/
import Derived.Test.YtfnifpgaieggbaaDoorTakeText
import Derived.Test.YtfnifpgaieggbaaDoorFrame
import Derived.Deep.RegionWith
namespace Go.Proofs.YtfnifpgaieggbaaDoor
open Go.RowKit

/-- a frame read off the front of bytes: kind, body, how many bytes, the error -/
def tf : List UInt8 → UInt8 × List UInt8 × Nat × Nat
  | [] => (0, [], 0, 10)
  | c :: t =>
    if (tn 0 0 t).2.2 ≠ 0 then (0, [], 0, (tn 0 0 t).2.2)
    else if 2097152 < (tn 0 0 t).1 then (0, [], 0, 12)
    else if (c :: t).length < 1 + (tn 0 0 t).2.1 + 4 + (tn 0 0 t).1 then (0, [], 0, 10)
    else if ((c :: t).drop (1 + (tn 0 0 t).2.1)).take 4 = four (crc ((c :: t).take (1 + (tn 0 0 t).2.1) ++ ((c :: t).drop (1 + (tn 0 0 t).2.1 + 4)).take (tn 0 0 t).1)) then
      (c, ((c :: t).drop (1 + (tn 0 0 t).2.1 + 4)).take (tn 0 0 t).1, 1 + (tn 0 0 t).2.1 + 4 + (tn 0 0 t).1, 0)
    else (0, [], 0, 13)

theorem four_iff {l : List UInt8} {j S : Nat} (h : j + 4 ≤ l.length) (hS : S ≤ 4294967295) :
    (l.drop j).take 4 = four S ↔ (l[j].toNat = S % 256 ∧ l[j + 1].toNat = S / 256 % 256 ∧ l[j + 2].toNat = S / 65536 % 256 ∧ l[j + 3].toNat = S / 16777216) := by
  rw [drop_cons (by omega), drop_cons (k := j + 1) (by omega), drop_cons (k := j + 1 + 1) (by omega), drop_cons (k := j + 1 + 1 + 1) (by omega)]
  simp only [List.take_succ_cons, List.take_zero, four, List.cons.injEq, and_true]
  have e : ∀ (a : UInt8) (n : Nat), a = by8 n ↔ a.toNat = n % 256 := fun a n => by
    constructor
    · rintro rfl; exact by8_nat n
    · intro h
      apply UInt8.toNat_inj.1
      rw [h, by8_nat]
  rw [e, e, e, e, show S / 16777216 % 256 = S / 16777216 by omega]

theorem results4 {fn : Func} {t u v x : Tmp} (h : fn.results = #[.tmp t, .tmp u, .tmp v, .tmp x]) (tmps : Array Value) (P : Program) (w : World) :
    (results fn tmps).run P w = .ok (.tuple #[tmps.getD t undef, tmps.getD u undef, tmps.getD v undef, tmps.getD x undef]) w := by simp [results, h]

theorem takenFrame_none (A : Option Addr) (c : Nat) (w : World) :
    Calls Tryd.prog 25 #[.slice A 0 c] w fun e w' => e = .returned (.tuple #[.int .u8 0, .slice none 0 0, .int .i64 0, .int .i64 10]) ∧ w = w' := by
  go_enter Tryd.func25, Tryd.ntmps25
  go_wp2
  refine bodyPost_ret (results4 rfl _ _ _) rfl ?_
  exact ⟨rfl, rfl⟩

theorem sumOn_at (r c B n : Nat) (A : Option Addr) (l : List UInt8) (w : World) (hn : n = l.length) (hr : r < 2 ^ 32) (hT : Tab w) (hc : Rd w B A l) (hl : l.length ≤ 9223372036854775807) :
    Calls Tryd.prog 33 #[.int .u32 r, .slice A n c] w fun e w' => e = .returned (.int .u32 (crcOn r l)) ∧ w = w' := by
  subst hn
  exact sumOn_any r c B A l w hr hT hc hl

set_option maxHeartbeats 3200000 in
set_option maxRecDepth 100000 in
theorem takenFrame_full (A : Option Addr) (c : Nat) (k0 : UInt8) (t : List UInt8) (w : World) (hr : Rd w w.heap.size A (k0 :: t)) (hl : (k0 :: t).length ≤ 225179981367000) (hc : (k0 :: t).length ≤ c) (hT : Tab w) :
    Calls Tryd.prog 25 #[.slice A (k0 :: t).length c] w fun e w' => ∃ v, e = .returned (.tuple #[.int .u8 ((tf (k0 :: t)).1.toNat : Int), v, .int .i64 (tf (k0 :: t)).2.2.1, .int .i64 (tf (k0 :: t)).2.2.2]) ∧ Own w' w.heap.size v (tf (k0 :: t)).2.1 ∧ Below w.heap.size w w' := by
  obtain ⟨A1, hc1, r1⟩ := cut1_run (k := 1) rfl hr (by simp) hc
  have hk := taken_any A1 (c - 1) _ t w r1 (by simp at hl; omega)
  have hf := tn_fits t 0 0
  have hlt := tn_lt t 0 0 (by omega) (by decide)
  have htt : tf (k0 :: t) = if (tn 0 0 t).2.2 ≠ 0 then (0, [], 0, (tn 0 0 t).2.2)
    else if 2097152 < (tn 0 0 t).1 then (0, [], 0, 12)
    else if (k0 :: t).length < 1 + (tn 0 0 t).2.1 + 4 + (tn 0 0 t).1 then (0, [], 0, 10)
    else if ((k0 :: t).drop (1 + (tn 0 0 t).2.1)).take 4 = four (crc ((k0 :: t).take (1 + (tn 0 0 t).2.1) ++ ((k0 :: t).drop (1 + (tn 0 0 t).2.1 + 4)).take (tn 0 0 t).1)) then
      (k0, ((k0 :: t).drop (1 + (tn 0 0 t).2.1 + 4)).take (tn 0 0 t).1, 1 + (tn 0 0 t).2.1 + 4 + (tn 0 0 t).1, 0)
    else (0, [], 0, 13) := rfl
  obtain ⟨n, hn⟩ : ∃ n, n = (tn 0 0 t).1 := ⟨_, rfl⟩
  obtain ⟨k, hk'⟩ : ∃ k, k = (tn 0 0 t).2.1 := ⟨_, rfl⟩
  obtain ⟨er, he⟩ : ∃ er, er = (tn 0 0 t).2.2 := ⟨_, rfl⟩
  rw [← hn] at hk hlt htt
  rw [← hk'] at hk hf htt
  rw [← he] at hk hf htt
  clear hn hk' he
  obtain ⟨hf1, hf2, hf3⟩ := hf
  have hf3 := hf3 (by omega)
  have htl : t.length + 1 = (k0 :: t).length := rfl
  obtain ⟨l, hle⟩ : ∃ l, l = k0 :: t := ⟨_, rfl⟩
  have hl0 : 0 < l.length := by rw [hle]; simp
  have hk0 : l[0] = k0 := by simp [hle]
  have ht1 : t.length = l.length - 1 := by rw [hle]; rfl
  rw [← hle] at hr hl hc htt hc1 htl
  rw [ht1] at hk hf1
  have hc1' : ∀ W' : World, (Instr.slice 28 (.slice A l.length c) (some (.int .i64 1)) none none).run Tryd.prog W' = .ok (.slice A1 (l.length - 1) (c - 1)) W' := hc1
  rw [← hle]
  have HK := Lib.hid hk
  have HR := Lib.hid hr
  have HT := Lib.hid hT
  have HK0 := Lib.hid hk0
  clear hk hr hc1 hT hle ht1 hk0 htl r1
  have hb0 : ((l.length : Int) == 0) = false := by rw [beq_eq_false_iff_ne]; omega
  by_cases h0 : er = 0
  · have hb : ((er : Int) != 0) = false := by rw [h0]; rfl
    rw [if_neg (by omega)] at htt
    by_cases h1 : 2097152 < n
    · have HT' := Lib.hid (htt.trans (if_pos h1))
      clear htt h0
      rw [HT'.out]
      go_enter Tryd.func25, Tryd.ntmps25
      go_wp2_with fail
      refine HK.out.mono ?_
      rintro e w1 ⟨rfl, rfl⟩
      go_wp2
      refine bodyPost_ret (results4 rfl _ _ _) rfl ?_
      exact ⟨_, rfl, Own.nil_ _ _, Below.refl _ _⟩
    · rw [if_neg h1] at htt
      by_cases h2 : l.length < 1 + k + 4 + n
      · have HT' := Lib.hid (htt.trans (if_pos h2))
        clear htt h0
        rw [HT'.out]
        go_enter Tryd.func25, Tryd.ntmps25
        go_wp2_with fail
        refine HK.out.mono ?_
        rintro e w1 ⟨rfl, rfl⟩
        go_wp2
        refine bodyPost_ret (results4 rfl _ _ _) rfl ?_
        exact ⟨_, rfl, Own.nil_ _ _, Below.refl _ _⟩
      · rw [if_neg h2] at htt
        obtain ⟨S, hS⟩ : ∃ S, S = crc (l.take (1 + k) ++ (l.drop (1 + k + 4)).take n) := ⟨_, rfl⟩
        have hSb : S ≤ 4294967295 := by rw [hS]; have := crc_lt (l.take (1 + k) ++ (l.drop (1 + k + 4)).take n); omega
        have hinv := inv32 (crcOn_lt (l := (l.drop (1 + k + 4)).take n) (r := crcOn 4294967295 (l.take (1 + k))) (crcOn_lt (by decide)))
        rw [show 4294967295 - crcOn (crcOn 4294967295 (l.take (1 + k))) ((l.drop (1 + k + 4)).take n) = S by rw [hS, crcOn_append]; rfl] at hinv
        rw [← hS] at htt
        clear hS
        have h4 : 1 + k + 4 ≤ l.length := by omega
        have hiff := four_iff h4 hSb
        rcases HR.out with hn0 | ⟨g, o, rfl, hg, hcell⟩
        · rw [hn0] at hl0; simp at hl0
        obtain ⟨A2, hc2, r2⟩ := cut_run (k := 1 + k + 4) (e := 1 + k + 4 + n) rfl HR.out (by omega) (by omega) hc
        rw [show 1 + k + 4 + n - (1 + k + 4) = n by omega] at r2
        have hc2' : ∀ W' : World, (Instr.slice 28 (.slice (some ⟨g, o, none⟩) l.length c) (some (.int .i64 (1 + (k : Int) + 4))) (some (.int .i64 (1 + (k : Int) + 4 + (n : Int)))) none).run Tryd.prog W' = .ok (.slice A2 n (c - (1 + k + 4))) W' := fun W' => by
          have := hc2 W'
          rw [show 1 + k + 4 + n - (1 + k + 4) = n by omega, show ((1 + k + 4 + n : Nat) : Int) = 1 + (k : Int) + 4 + (n : Int) by omega, show ((1 + k + 4 : Nat) : Int) = 1 + (k : Int) + 4 by omega] at this
          exact this
        have hc0' : ∀ W' : World, (Instr.slice 28 (.slice (some ⟨g, o, none⟩) l.length c) none (some (.int .i64 (1 + (k : Int)))) none).run Tryd.prog W' = .ok (.slice (some ⟨g, o, none⟩) (1 + k) c) W' := fun W' => by
          have := cut0_run (A := some ⟨g, o, none⟩) (n := l.length) (c := c) (e := 1 + k) (by omega) W'
          rw [show ((1 + k : Nat) : Int) = 1 + (k : Int) by omega] at this
          exact this
        have HB := Lib.hid (show n = ((l.drop (1 + k + 4)).take n).length by rw [List.length_take, List.length_drop]; omega)
        have HH := Lib.hid (show 1 + k = (l.take (1 + k)).length by rw [List.length_take]; omega)
        have R2 := Lib.hid r2
        have R1 := Lib.hid (rd_take HR.out (1 + k))
        have y0 : w.cell? ⟨g, o + (1 + k), none⟩ = some (.int .u8 (l[1 + k].toNat : Int)) := hcell (1 + k) (by omega)
        have y1 : w.cell? ⟨g, o + (1 + k + 1), none⟩ = some (.int .u8 (l[1 + k + 1].toNat : Int)) := hcell (1 + k + 1) (by omega)
        have y2 : w.cell? ⟨g, o + (1 + k + 2), none⟩ = some (.int .u8 (l[1 + k + 2].toNat : Int)) := hcell (1 + k + 2) (by omega)
        have y3 : w.cell? ⟨g, o + (1 + k + 3), none⟩ = some (.int .u8 (l[1 + k + 3].toNat : Int)) := hcell (1 + k + 3) (by omega)
        have y9 : w.cell? ⟨g, o, none⟩ = some (.int .u8 (k0.toNat : Int)) := by have := hcell 0 (by omega); rw [Nat.add_zero, HK0.out] at this; exact this
        obtain ⟨x0, hx0⟩ : ∃ x, x = l[1 + k].toNat := ⟨_, rfl⟩
        obtain ⟨x1, hx1⟩ : ∃ x, x = l[1 + k + 1].toNat := ⟨_, rfl⟩
        obtain ⟨x2, hx2⟩ : ∃ x, x = l[1 + k + 2].toNat := ⟨_, rfl⟩
        obtain ⟨x3, hx3⟩ : ∃ x, x = l[1 + k + 3].toNat := ⟨_, rfl⟩
        rw [← hx0] at y0 hiff
        rw [← hx1] at y1 hiff
        rw [← hx2] at y2 hiff
        rw [← hx3] at y3 hiff
        clear hx0 hx1 hx2 hx3 hcell hc2 r2
        have HI := Lib.hid hiff
        have HTT := Lib.hid htt
        clear hiff htt h0
        have q0 : 4294967295 < 2 ^ 32 := by decide
        by_cases hall : x0 = S % 256 ∧ x1 = S / 256 % 256 ∧ x2 = S / 65536 % 256 ∧ x3 = S / 16777216
        · have HT' := Lib.hid (HTT.out.trans (if_pos (HI.out.2 hall)))
          obtain ⟨p0, p1, p2, p3⟩ := hall
          have e0 : ((x0 : Int) != (S : Int) % 256) = false := by rw [bne_eq_false_iff_eq]; omega
          have e1 : ((x1 : Int) != (S : Int) / 256 % 256) = false := by rw [bne_eq_false_iff_eq]; omega
          have e2 : ((x2 : Int) != (S : Int) / 65536 % 256) = false := by rw [bne_eq_false_iff_eq]; omega
          have e3 : ((x3 : Int) != (S : Int) / 16777216) = false := by rw [bne_eq_false_iff_eq]; omega
          clear p0 p1 p2 p3
          rw [HT'.out]
          go_enter Tryd.func25, Tryd.ntmps25
          go_wp2_with fail
          refine HK.out.mono ?_
          rintro e w1 ⟨rfl, rfl⟩
          go_wp2_with fail
          go_quiet ((first | (go_at_call_of 33 (Value.int .u32 4294967295); exact still1 (sumOn_at 4294967295 _ w.heap.size (1 + k) _ (l.take (1 + k)) _ HH.out (by decide) HT.out R1.out (by rw [← HH.out]; omega))) | (go_at_call 33; exact still1 (sumOn_at _ _ w.heap.size n _ ((l.drop (1 + k + 4)).take n) _ HB.out (crcOn_lt (by decide)) HT.out R2.out (by rw [← HB.out]; omega)))))
          rw [show (if IntKind.u32.signed = true then (-1 : Int) else IntKind.u32.max) = IntKind.u32.max from rfl, hinv]
          go_wp2
          go_region_with (go_at_call 38; refine (fresh_at A2 n _ ((l.drop (1 + k + 4)).take n) _ HB.out (by exact R2.out) (by rw [← HB.out]; omega)).mono ?_; rintro e w1 ⟨v, rfl, o1, hb1⟩; have z9 := (hb1.cell (p := ⟨g, o, none⟩) hg).trans y9)
          all_goals
            go_wp2
            refine bodyPost_ret (results4 rfl _ _ _) rfl ?_
            exact ⟨_, rfl, o1, (below_drewN (Below.refl w.heap.size w) _).trans hb1⟩
        · have HT' := Lib.hid (HTT.out.trans (if_neg (fun h => hall (HI.out.1 h))))
          rw [HT'.out]
          have hcase : x0 ≠ S % 256 ∨ (x0 = S % 256 ∧ x1 ≠ S / 256 % 256) ∨ (x0 = S % 256 ∧ x1 = S / 256 % 256 ∧ x2 ≠ S / 65536 % 256) ∨ (x0 = S % 256 ∧ x1 = S / 256 % 256 ∧ x2 = S / 65536 % 256 ∧ x3 ≠ S / 16777216) := by omega
          clear hall
          rcases hcase with h | ⟨p0, h⟩ | ⟨p0, p1, h⟩ | ⟨p0, p1, p2, h⟩
          · have e0 : ((x0 : Int) != (S : Int) % 256) = true := by rw [bne_iff_ne]; omega
            clear h
            go_enter Tryd.func25, Tryd.ntmps25
            go_wp2_with fail
            refine HK.out.mono ?_
            rintro e w1 ⟨rfl, rfl⟩
            go_wp2_with fail
            go_quiet ((first | (go_at_call_of 33 (Value.int .u32 4294967295); exact still1 (sumOn_at 4294967295 _ w.heap.size (1 + k) _ (l.take (1 + k)) _ HH.out (by decide) HT.out R1.out (by rw [← HH.out]; omega))) | (go_at_call 33; exact still1 (sumOn_at _ _ w.heap.size n _ ((l.drop (1 + k + 4)).take n) _ HB.out (crcOn_lt (by decide)) HT.out R2.out (by rw [← HB.out]; omega)))))
            rw [show (if IntKind.u32.signed = true then (-1 : Int) else IntKind.u32.max) = IntKind.u32.max from rfl, hinv]
            go_wp2
            refine bodyPost_ret (results4 rfl _ _ _) rfl ?_
            exact ⟨_, rfl, Own.nil_ _ _, below_drewN (Below.refl _ _) _⟩
          · have e0 : ((x0 : Int) != (S : Int) % 256) = false := by rw [bne_eq_false_iff_eq]; omega
            have e1 : ((x1 : Int) != (S : Int) / 256 % 256) = true := by rw [bne_iff_ne]; omega
            clear h p0
            go_enter Tryd.func25, Tryd.ntmps25
            go_wp2_with fail
            refine HK.out.mono ?_
            rintro e w1 ⟨rfl, rfl⟩
            go_wp2_with fail
            go_quiet ((first | (go_at_call_of 33 (Value.int .u32 4294967295); exact still1 (sumOn_at 4294967295 _ w.heap.size (1 + k) _ (l.take (1 + k)) _ HH.out (by decide) HT.out R1.out (by rw [← HH.out]; omega))) | (go_at_call 33; exact still1 (sumOn_at _ _ w.heap.size n _ ((l.drop (1 + k + 4)).take n) _ HB.out (crcOn_lt (by decide)) HT.out R2.out (by rw [← HB.out]; omega)))))
            rw [show (if IntKind.u32.signed = true then (-1 : Int) else IntKind.u32.max) = IntKind.u32.max from rfl, hinv]
            go_wp2
            refine bodyPost_ret (results4 rfl _ _ _) rfl ?_
            exact ⟨_, rfl, Own.nil_ _ _, below_drewN (Below.refl _ _) _⟩
          · have e0 : ((x0 : Int) != (S : Int) % 256) = false := by rw [bne_eq_false_iff_eq]; omega
            have e1 : ((x1 : Int) != (S : Int) / 256 % 256) = false := by rw [bne_eq_false_iff_eq]; omega
            have e2 : ((x2 : Int) != (S : Int) / 65536 % 256) = true := by rw [bne_iff_ne]; omega
            clear h p0 p1
            go_enter Tryd.func25, Tryd.ntmps25
            go_wp2_with fail
            refine HK.out.mono ?_
            rintro e w1 ⟨rfl, rfl⟩
            go_wp2_with fail
            go_quiet ((first | (go_at_call_of 33 (Value.int .u32 4294967295); exact still1 (sumOn_at 4294967295 _ w.heap.size (1 + k) _ (l.take (1 + k)) _ HH.out (by decide) HT.out R1.out (by rw [← HH.out]; omega))) | (go_at_call 33; exact still1 (sumOn_at _ _ w.heap.size n _ ((l.drop (1 + k + 4)).take n) _ HB.out (crcOn_lt (by decide)) HT.out R2.out (by rw [← HB.out]; omega)))))
            rw [show (if IntKind.u32.signed = true then (-1 : Int) else IntKind.u32.max) = IntKind.u32.max from rfl, hinv]
            go_wp2
            refine bodyPost_ret (results4 rfl _ _ _) rfl ?_
            exact ⟨_, rfl, Own.nil_ _ _, below_drewN (Below.refl _ _) _⟩
          · have e0 : ((x0 : Int) != (S : Int) % 256) = false := by rw [bne_eq_false_iff_eq]; omega
            have e1 : ((x1 : Int) != (S : Int) / 256 % 256) = false := by rw [bne_eq_false_iff_eq]; omega
            have e2 : ((x2 : Int) != (S : Int) / 65536 % 256) = false := by rw [bne_eq_false_iff_eq]; omega
            have e3 : ((x3 : Int) != (S : Int) / 16777216) = true := by rw [bne_iff_ne]; omega
            clear h p0 p1 p2
            go_enter Tryd.func25, Tryd.ntmps25
            go_wp2_with fail
            refine HK.out.mono ?_
            rintro e w1 ⟨rfl, rfl⟩
            go_wp2_with fail
            go_quiet ((first | (go_at_call_of 33 (Value.int .u32 4294967295); exact still1 (sumOn_at 4294967295 _ w.heap.size (1 + k) _ (l.take (1 + k)) _ HH.out (by decide) HT.out R1.out (by rw [← HH.out]; omega))) | (go_at_call 33; exact still1 (sumOn_at _ _ w.heap.size n _ ((l.drop (1 + k + 4)).take n) _ HB.out (crcOn_lt (by decide)) HT.out R2.out (by rw [← HB.out]; omega)))))
            rw [show (if IntKind.u32.signed = true then (-1 : Int) else IntKind.u32.max) = IntKind.u32.max from rfl, hinv]
            go_wp2
            refine bodyPost_ret (results4 rfl _ _ _) rfl ?_
            exact ⟨_, rfl, Own.nil_ _ _, below_drewN (Below.refl _ _) _⟩
  · have hb : ((er : Int) != 0) = true := by rw [bne_iff_ne]; omega
    have HT' := Lib.hid (htt.trans (if_pos h0))
    clear htt h0
    rw [HT'.out]
    go_enter Tryd.func25, Tryd.ntmps25
    go_wp2_with fail
    refine HK.out.mono ?_
    rintro e w1 ⟨rfl, rfl⟩
    go_wp2
    refine bodyPost_ret (results4 rfl _ _ _) rfl ?_
    exact ⟨_, rfl, Own.nil_ _ _, Below.refl _ _⟩
end Go.Proofs.YtfnifpgaieggbaaDoor
