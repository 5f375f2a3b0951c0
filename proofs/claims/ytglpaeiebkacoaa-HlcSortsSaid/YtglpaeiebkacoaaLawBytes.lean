/-
  The walk of the law HlcBytes.
-/
import Derived.Test.YtglpaeiebkacoaaRefBytes
import Derived.Test.YtglpaeiebkacoaaLawStamps
import Derived.Test.YtglpaeiebkacoaaCut
namespace Go.Proofs.Ytglpaeiebkacoaa
open Go.RowKit

def stB (a b : Int) : List UInt8 := if stOk a b = true then stBytes a.toNat b.toNat else []
def stE (a b : Int) : Int := if stOk a b = true then 0 else 80
theorem stOk_nat {a b : Int} (h : stOk a b = true) : ((a.toNat : Nat) : Int) = a ∧ ((b.toNat : Nat) : Int) = b := by
  simp [stOk, wallOk] at h
  omega

theorem bytes_any (a b : Int) (w : World) : Calls Try.prog 18 #[.agg #[.int .i64 a, .int .i64 b]] w fun e w' => ∃ A c, e = .returned (.tuple #[.slice A (stB a b).length c, .int .i64 (stE a b)]) ∧ Rd w' w'.heap.size A (stB a b) ∧ Below w.heap.size w w' := by
  unfold stB stE
  by_cases h : stOk a b = true
  · obtain ⟨ea, eb⟩ := stOk_nat h
    rw [if_pos h, if_pos h]
    have hc := bytes_ok a.toNat b.toNat w (by rw [ea, eb]; exact h)
    rw [ea, eb] at hc
    refine hc.mono ?_
    rintro e w' ⟨v, rfl, ho, hb⟩
    obtain ⟨A, c, rfl, hr⟩ := ho.rd
    exact ⟨A, c, rfl, hr, hb⟩
  · rw [if_neg h, if_neg h]
    refine (bytes_bad a b w (by simpa using h)).mono ?_
    rintro e w' ⟨rfl, hb⟩
    exact ⟨none, 0, rfl, Rd.nil_ _ _ _, hb⟩
theorem rbytes_any (a b : Int) (w : World) : Calls Try.prog 19 #[.agg #[.int .i64 a, .int .i64 b]] w fun e w' => ∃ A c, e = .returned (.tuple #[.slice A (stB a b).length c, .int .i64 (stE a b)]) ∧ Rd w' w'.heap.size A (stB a b) ∧ Below w.heap.size w w' := by
  unfold stB stE
  by_cases h : stOk a b = true
  · obtain ⟨ea, eb⟩ := stOk_nat h
    rw [if_pos h, if_pos h]
    have hc := rbytes_ok a.toNat b.toNat w (by rw [ea, eb]; exact h)
    rw [ea, eb] at hc
    refine hc.mono ?_
    rintro e w' ⟨v, rfl, ho, hb⟩
    obtain ⟨A, c, rfl, hr⟩ := ho.rd
    exact ⟨A, c, rfl, hr, hb⟩
  · rw [if_neg h, if_neg h]
    refine (rbytes_bad a b w (by simpa using h)).mono ?_
    rintro e w' ⟨rfl, hb⟩
    exact ⟨none, 0, rfl, Rd.nil_ _ _ _, hb⟩

def rdAll (b : List UInt8) : Nat × Nat × Nat := if b.length = 9 then rdSt b else (0, 0, 80)
theorem rd_nine {w : World} {B : Nat} {A : Option Addr} {b : List UInt8} (hr : Rd w B A b) (h : b.length = 9) : ∃ g o, A = some ⟨g, o, none⟩ ∧ g < B ∧ ∀ i (h : i < b.length), w.cell? ⟨g, o + i, none⟩ = some (bv b[i]) := by
  rcases hr with rfl | h
  · simp at h
  · exact h
theorem read_any (A : Option Addr) (c : Nat) (b : List UInt8) (w : World) (hr : Rd w w.heap.size A b) (hc : b.length ≤ c) :
    Calls Try.prog 20 #[.slice A b.length c] w fun e w' => e = .returned (.tuple #[.agg #[.int .i64 ((rdAll b).1 : Nat), .int .i64 ((rdAll b).2.1 : Nat)], .int .i64 ((rdAll b).2.2 : Nat)]) ∧ Below w.heap.size w w' := by
  unfold rdAll
  by_cases h : b.length = 9
  · obtain ⟨g, o, rfl, hg, hcell⟩ := rd_nine hr h
    have := read_full g o c b w hg hcell h (by omega)
    rw [if_pos h]
    rw [h]
    exact this
  · rw [if_neg h]
    exact read_short A b.length c w h
theorem rread_any (A : Option Addr) (c : Nat) (b : List UInt8) (w : World) (hr : Rd w w.heap.size A b) :
    Calls Try.prog 21 #[.slice A b.length c] w fun e w' => e = .returned (.tuple #[.agg #[.int .i64 ((rdAll b).1 : Nat), .int .i64 ((rdAll b).2.1 : Nat)], .int .i64 ((rdAll b).2.2 : Nat)]) ∧ Below w.heap.size w w' := by
  unfold rdAll
  by_cases h : b.length = 9
  · obtain ⟨g, o, rfl, hg, hcell⟩ := rd_nine hr h
    have := rread_full g o c b w hg hcell h
    rw [if_pos h]
    rw [h]
    exact this
  · rw [if_neg h]
    exact rread_short A b.length c w h

set_option maxHeartbeats 1600000 in
set_option maxRecDepth 100000 in
theorem law_bytes (a b : Int) (A : Option Addr) (c : Nat) (l : List UInt8) (w : World) (hr : Rd w w.heap.size A l) (hc : l.length ≤ c) :
    Calls Try.prog 4 #[.agg #[.int .i64 a, .int .i64 b], .slice A l.length c] w fun e w' => e = .returned (.bool true) ∧ Below w.heap.size w w' := by
  have HR := Lib.hid hr
  clear hr
  obtain ⟨S, hS⟩ : ∃ S, S = stB a b := ⟨_, rfl⟩
  obtain ⟨E, hE⟩ : ∃ E, E = stE a b := ⟨_, rfl⟩
  obtain ⟨R, hR⟩ : ∃ R, R = rdAll l := ⟨_, rfl⟩
  have C1 := Lib.hid (bytes_any a b)
  have C2 := Lib.hid (rbytes_any a b)
  have C3 := Lib.hid (fun w hr => read_any A c l w hr hc)
  have C4 := Lib.hid (fun w hr => rread_any A c l w hr)
  rw [← hS, ← hE] at C1 C2
  rw [← hR] at C3 C4
  clear hS hE hR hc
  go_enter Try.func4, Try.ntmps4
  go_wp2_with fail
  refine (awake_any _).mono ?_
  rintro e w1 ⟨rfl, hb1⟩
  obtain ⟨z0, z1, _, _, b1⟩ := after_one hb1
  clear hb1
  go_wp2_with fail
  refine (C1.out _).mono ?_
  rintro e w2 ⟨A2, c2, rfl, r2, hb2⟩
  have z0 := kept0 hb2 z0
  have z1 := kept0 hb2 z1
  have b2 := b1.trans (hb2.mono b1.size)
  clear hb2
  go_wp2_with fail
  refine (C2.out _).mono ?_
  rintro e w3 ⟨A3, c3, rfl, r3, hb3⟩
  have r2 := r2.below hb3
  have b3 := b2.trans (hb3.mono b2.size)
  have s3 := hb3.size
  clear hb3
  go_wp2_with fail
  refine (C3.out _ ((HR.out.below b3).more b3.size)).mono ?_
  rintro e w4 ⟨rfl, hb4⟩
  have r2 := ((r2.more s3).below hb4).more hb4.size
  have r3 := (r3.below hb4).more hb4.size
  have b4 := b3.trans (hb4.mono b3.size)
  clear hb4
  go_wp2_with fail
  have bA := b4.alloc b4.size (.cells #[.int .i64 (R.1 : Nat), .int .i64 (R.2.1 : Nat)] 23)
  refine (C4.out _ ((HR.out.below bA).more bA.size)).mono ?_
  rintro e w5 ⟨rfl, hb5⟩
  have y0 := kept0 hb5 (laid0 w4 (.int .i64 (R.1 : Nat)) (.int .i64 (R.2.1 : Nat)) 23)
  have y1 := kept0 hb5 (laid1 w4 (.int .i64 (R.1 : Nat)) (.int .i64 (R.2.1 : Nat)) 23)
  have s4 := b4.size
  have hb45 : Below w4.heap.size w4 w5 := (below1 w4 _).trans (hb5.mono (by simp))
  have b5 := b4.trans (hb45.mono b4.size)
  have x0 := over y0 (.cells #[.int .i64 (R.1 : Nat), .int .i64 (R.2.1 : Nat)] 23)
  have x1 := over y1 (.cells #[.int .i64 (R.1 : Nat), .int .i64 (R.2.1 : Nat)] 23)
  have v0 := laid0 w5 (.int .i64 (R.1 : Nat)) (.int .i64 (R.2.1 : Nat)) 23
  have v1 := laid1 w5 (.int .i64 (R.1 : Nat)) (.int .i64 (R.2.1 : Nat)) 23
  have hbV : Below w5.heap.size w5 (w5.alloc (.cells #[.int .i64 (R.1 : Nat), .int .i64 (R.2.1 : Nat)] 23)) := below1 w5 _
  have q2 := str_of ((r2.below hb45).more hb45.size |>.below hbV) c2
  have q3 := str_of ((r3.below hb45).more hb45.size |>.below hbV) c3
  have b6 := b5.alloc b5.size (.cells #[.int .i64 (R.1 : Nat), .int .i64 (R.2.1 : Nat)] 23)
  clear hb45 hbV hb5 y0 y1 s4 b4 b5 bA
  go_wp2
  go_ret
  exact ⟨by simp, b6⟩
end Go.Proofs.Ytglpaeiebkacoaa
