/-
  The contract of the law's 'shown': the document's examples hold.
-/
import Derived.Test.YtaojflmbfigplaaDoorNumber
import Derived.Test.YtaojflmbfigplaaDoorTakeNumber
import Derived.Test.YtaojflmbfigplaaDoorSum
import Derived.Test.YtaojflmbfigplaaDoorTakeKeyText
import Derived.Test.YtaojflmbfigplaaDoorKeyInt
import Derived.Lib.SlBytesConst
import Derived.Laws.IdiomStrings
namespace Go.Proofs.YtaojflmbfigplaaDoor
open Go.RowKit

theorem rd_lit (w : World) (l : List UInt8) (C : Array Value) (hC : C.toList = l.map bv) : Rd (w.alloc (.cells C 5)) (w.heap.size + 1) (some ⟨w.heap.size, 0, none⟩) l := by
  refine .inr ⟨w.heap.size, 0, rfl, by omega, fun i hi => ?_⟩
  rw [World.cell?_alloc_at _ _ _ _ rfl, ← Array.getElem?_toList, hC]
  simp [List.getElem?_map, List.getElem?_eq_getElem hi]

/-- string(b) -/
theorem str_of {w : World} {B : Nat} {A : Option Addr} {l : List UInt8} (h : Rd w B A l) (c : Nat) : (convert 23 9 (.slice A l.length c)).run Tryd.prog w = .ok (.string ⟨l.toArray⟩) w := by
  rcases h with rfl | ⟨g, o, rfl, _, hc⟩
  · rcases A with _ | ad
    · exact run_convert_bytes_nil w 23 5 Tryd.underlying23 Tryd.underlying5 0 c 9 Tryd.underlying9
    · exact run_convert_bytes_back w 23 9 5 ad c [] Tryd.underlying23 Tryd.underlying5 Tryd.underlying9 (fun j hj => by simp at hj)
  · exact run_convert_bytes_back w 23 9 5 ⟨g, o, none⟩ c l Tryd.underlying23 Tryd.underlying5 Tryd.underlying9 (fun j hj => by rw [add_at]; exact hc j hj)

theorem ex_tn : tn 0 0 [172, 2, 7] = (300, 2, 0) := by decide +kernel
theorem ex_num : num 300 = [172, 2] := by decide +kernel
theorem ex_crc : crc [49, 50, 51, 52, 53, 54, 55, 56, 57] = 3421780262 := by decide +kernel
theorem ex_tkt : tkt 0 [] [97, 0, 255, 98, 0, 1, 5] = ([97, 0, 98], 6, 0) := by decide +kernel
theorem ex_key : key8 (off63 (-1)) = [127, 255, 255, 255, 255, 255, 255, 255] := by decide +kernel

theorem ex_taken (w : World) : Calls Tryd.prog 16 #[.slice (some ⟨w.heap.size, 0, none⟩) 3 3] (w.alloc (.cells #[.int .u8 172, .int .u8 2, .int .u8 7] 5)) fun e w' => e = .returned (.tuple #[.int .u64 300, .int .i64 2, .int .i64 0]) ∧ w.alloc (.cells #[.int .u8 172, .int .u8 2, .int .u8 7] 5) = w' := by
  have h := taken_any (some ⟨w.heap.size, 0, none⟩) 3 (w.heap.size + 1) [172, 2, 7] _ (rd_lit w [172, 2, 7] #[.int .u8 172, .int .u8 2, .int .u8 7] rfl) (by decide)
  rw [ex_tn] at h
  exact h

theorem rd_mark (w : World) (l : List UInt8) (C : Array Value) (m : Nat × Nat) (hC : C.toList = l.map bv) : Rd (w.alloc (.cells C 5 m)) (w.heap.size + 1) (some ⟨w.heap.size, 0, none⟩) l := by
  refine .inr ⟨w.heap.size, 0, rfl, by omega, fun i hi => ?_⟩
  rw [Nat.zero_add, World.cell?_alloc_mark, ← Array.getElem?_toList, hC]
  simp [List.getElem?_map, List.getElem?_eq_getElem hi]

theorem ex_sum (w : World) (hT : Tab w) (h0 : 0 < w.heap.size) (m : Nat × Nat) : Calls Tryd.prog 32 #[.slice (some ⟨w.heap.size, 0, none⟩) 9 9] (w.alloc (.cells #[.int .u8 49, .int .u8 50, .int .u8 51, .int .u8 52, .int .u8 53, .int .u8 54, .int .u8 55, .int .u8 56, .int .u8 57] 5 m)) fun e w' =>
    e = .returned (.int .u32 3421780262) ∧ w.alloc (.cells #[.int .u8 49, .int .u8 50, .int .u8 51, .int .u8 52, .int .u8 53, .int .u8 54, .int .u8 55, .int .u8 56, .int .u8 57] 5 m) = w' := by
  have h := sum_any 9 (w.heap.size + 1) (some ⟨w.heap.size, 0, none⟩) [49, 50, 51, 52, 53, 54, 55, 56, 57] _ (hT.below ((Below.refl w.heap.size w).alloc (Nat.le_refl _) (.cells #[.int .u8 49, .int .u8 50, .int .u8 51, .int .u8 52, .int .u8 53, .int .u8 54, .int .u8 55, .int .u8 56, .int .u8 57] 5 m)) h0) (rd_mark w [49, 50, 51, 52, 53, 54, 55, 56, 57] _ m rfl) (by decide)
  rw [ex_crc] at h
  exact h
theorem ex_takenKeyText (w : World) (g : Nat) (hg : g = w.heap.size) : Calls Tryd.prog 26 #[.slice (some ⟨g, 0, none⟩) 7 7] (w.alloc (.cells #[.int .u8 97, .int .u8 0, .int .u8 255, .int .u8 98, .int .u8 0, .int .u8 1, .int .u8 5] 5)) fun e w' =>
    ∃ A c, e = .returned (.tuple #[.slice A 3 c, .int .i64 6, .int .i64 0]) ∧ Rd w' w'.heap.size A [97, 0, 98] ∧ Below w.heap.size w w' := by
  subst hg
  have h := takenKeyText_any (some ⟨w.heap.size, 0, none⟩) 7 [97, 0, 255, 98, 0, 1, 5] _ ((rd_lit w [97, 0, 255, 98, 0, 1, 5] #[.int .u8 97, .int .u8 0, .int .u8 255, .int .u8 98, .int .u8 0, .int .u8 1, .int .u8 5] rfl).more (by simp)) (by decide)
  rw [ex_tkt] at h
  refine h.mono ?_
  rintro e w' ⟨v, rfl, hown, hb⟩
  obtain ⟨A, c, rfl, hr⟩ := hown.rd
  exact ⟨A, c, rfl, hr, ((Below.refl w.heap.size w).alloc (Nat.le_refl _) _).trans (hb.mono (by simp))⟩
theorem ex_number (w : World) : Calls Tryd.prog 15 #[.int .u64 300] w fun e w' => ∃ A c, e = .returned (.slice A 2 c) ∧ Rd w' w'.heap.size A [172, 2] ∧ Below w.heap.size w w' := by
  have h := number_any 300 w (by decide)
  rw [ex_num] at h
  refine h.mono ?_
  rintro e w' ⟨v, rfl, hown, hb⟩
  obtain ⟨A, c, rfl, hr⟩ := hown.rd
  exact ⟨A, c, rfl, hr, hb⟩
theorem ex_keyInt (w : World) : Calls Tryd.prog 35 #[.int .i64 (-1)] w fun e w' => ∃ g c, e = .returned (.slice (some ⟨g, 0, none⟩) 8 c) ∧ w'.cell? ⟨g, 0, none⟩ = some (.int .u8 127) ∧ w'.cell? ⟨g, 7, none⟩ = some (.int .u8 255) ∧ Below w.heap.size w w' := by
  have h := keyInt_any (-1) w (by decide) (by decide)
  rw [ex_key] at h
  refine h.mono ?_
  rintro e w' ⟨v, rfl, hown, hb⟩
  obtain ⟨A, c, rfl, hr⟩ := hown.rd
  rcases hown.2 with ⟨he, hn⟩ | ⟨g, cap, cur, he, _⟩
  · simp at hn
  · injection he with he
    subst he
    exact ⟨g, c, rfl, hown.cell 0 (by decide), hown.cell 7 (by decide), hb⟩

set_option maxHeartbeats 800000 in
set_option maxRecDepth 100000 in
theorem shown_any (w : World) (hT : Tab w) (h0 : 0 < w.heap.size) :
    Calls Tryd.prog 13 #[] w fun e w' => e = .returned (.bool true) ∧ Below w.heap.size w w' := by
  have HT := Lib.hid hT
  clear hT
  have kc := fun (w : World) (C : Array Value) (n c : Nat) => Lib.run_convert_bytes_const (P := Tryd.prog) w 23 5 C n c Tryd.underlying23 Tryd.underlying5
  go_enter Tryd.func13, Tryd.ntmps13
  go_wp2_with (go_at_call 16; refine (ex_taken _).mono ?_; rintro e w' ⟨rfl, rfl⟩)
  refine (ex_number _).mono ?_
  rintro e w1 ⟨A1, c1, rfl, hr1, hb1⟩
  have hb1' : Below w.heap.size w w1 := ((Below.refl w.heap.size w).alloc (Nat.le_refl _) _).trans (hb1.mono (by simp))
  have HT1 := Lib.hid (HT.out.below hb1' h0)
  have l1 := hb1'.size
  go_wp2_with fail
  refine (ex_sum w1 HT1.out (by omega) _).mono ?_
  rintro e w2 ⟨rfl, rfl⟩
  go_wp2_with fail
  refine (ex_takenKeyText _ _ (by simp)).mono ?_
  rintro e w3 ⟨A3, c3, rfl, hr3, hb3⟩
  go_wp2_with fail
  refine (ex_keyInt _).mono ?_
  rintro e w4 ⟨g4, c4, rfl, f0, f7, hb4⟩
  have hb14 : Below w1.heap.size w1 w4 := (((Below.refl w1.heap.size w1).alloc (Nat.le_refl _) _).trans (hb3.mono (by simp))).trans (hb4.mono (by have := hb3.size; simp at this; omega))
  have hs1 : (convert 23 9 (.slice A1 2 c1)).run Tryd.prog w4 = .ok (.string ⟨#[172, 2]⟩) w4 := str_of (hr1.below hb14) c1
  have hs3 : (convert 23 9 (.slice A3 3 c3)).run Tryd.prog w4 = .ok (.string ⟨#[97, 0, 98]⟩) w4 := str_of (hr3.below (hb4.mono (Nat.le_refl _))) c3
  go_wp2
  go_ret
  exact ⟨rfl, hb1'.trans (hb14.mono l1)⟩
end Go.Proofs.YtaojflmbfigplaaDoor
