/-
  The contract of the law's 'shown': the document's examples hold.
-/
import Derived.Test.YtogfojohflkdnaaMake
import Derived.Lib.SlBytesConst
namespace Go.Proofs.Ytogfojohflkdnaa
open Go.RowKit

theorem ex_hash : hash [97] = 12638187200555641996 := by decide +kernel
theorem ex_blank : makeB [] 10 = [6, 0, 0, 0, 0, 0, 0, 0, 0] := by decide +kernel
theorem ex_may : mayB [6, 0, 0, 0, 0, 0, 0, 0, 0] [97] = false := by decide +kernel
theorem ex_none : mayB [] [97] = true := rfl
theorem rd_one (w : World) (m : Nat × Nat) : Rd (w.alloc (.cells #[.int .u8 97] 5 m)) (w.heap.size + 1) (some ⟨w.heap.size, 0, none⟩) [97] := rd_mark w [97] _ m rfl

theorem shown_make (w : World) : Calls Try.prog 13 #[.slice none 0 0, .int .i64 10] w fun e w' => ∃ A c, e = .returned (.tuple #[.slice A 9 c, .int .i64 0]) ∧ Rd w' w'.heap.size A [6, 0, 0, 0, 0, 0, 0, 0, 0] ∧ Below w.heap.size w w' := by
  have h := make_ok none 0 0 10 [] w (.inl rfl) (Nat.zero_le _) (by decide) (by decide) (by decide)
  rw [ex_blank] at h
  refine h.mono ?_
  rintro e w' ⟨v, rfl, hown, hb⟩
  obtain ⟨A, c, rfl, hr⟩ := hown.rd
  exact ⟨A, c, rfl, hr, hb⟩
theorem shown_bad (w : World) : Calls Try.prog 13 #[.slice none 0 0, .int .i64 31] w fun e w' => e = .returned (.tuple #[.slice none 0 0, .int .i64 1]) ∧ w = w' :=
  make_bad none 0 0 31 w (by decide)
theorem shown_hash (w : World) (m : Nat × Nat) : Calls Try.prog 10 #[.slice (some ⟨w.heap.size, 0, none⟩) 1 1] (w.alloc (.cells #[.int .u8 97] 5 m)) fun e w' => e = .returned (.int .u64 12638187200555641996) ∧ w.alloc (.cells #[.int .u8 97] 5 m) = w' := by
  have h := hash_any (some ⟨w.heap.size, 0, none⟩) 1 (w.heap.size + 1) [97] _ (rd_one w m) (by decide)
  rw [ex_hash] at h
  exact h
theorem shown_none (w : World) (m : Nat × Nat) : Calls Try.prog 16 #[.slice none 0 0, .slice (some ⟨w.heap.size, 0, none⟩) 1 1] (w.alloc (.cells #[.int .u8 97] 5 m)) fun e w' => e = .returned (.bool true) ∧ w.alloc (.cells #[.int .u8 97] 5 m) = w' :=
  may_any none 0 (w.heap.size + 1) [] (some ⟨w.heap.size, 0, none⟩) 1 [97] _ (Rd.nil_ _ _ _) (rd_one w m) (by decide) (by decide)
theorem shown_may (A : Option Addr) (c : Nat) (w : World) (m : Nat × Nat) (h : Rd w w.heap.size A [6, 0, 0, 0, 0, 0, 0, 0, 0]) : Calls Try.prog 16 #[.slice A 9 c, .slice (some ⟨w.heap.size, 0, none⟩) 1 1] (w.alloc (.cells #[.int .u8 97] 5 m)) fun e w' => e = .returned (.bool false) ∧ Below w.heap.size w w' := by
  have h := may_any A c (w.heap.size + 1) [6, 0, 0, 0, 0, 0, 0, 0, 0] (some ⟨w.heap.size, 0, none⟩) 1 [97] (w.alloc (.cells #[.int .u8 97] 5 m)) ((h.below ((Below.refl _ _).alloc (Nat.le_refl _) _)).more (by omega)) (rd_one w m) (by decide) (by decide)
  rw [ex_may] at h
  refine h.mono ?_
  rintro e w' ⟨rfl, rfl⟩
  exact ⟨rfl, (Below.refl _ _).alloc (Nat.le_refl _) _⟩

set_option maxHeartbeats 800000 in
set_option maxRecDepth 100000 in
theorem shown_any (w : World) : Calls Try.prog 8 #[] w fun e w' => e = .returned (.bool true) ∧ Below w.heap.size w w' := by
  have kc := fun (w : World) (C : Array Value) (n c : Nat) => Lib.run_convert_bytes_const (P := Try.prog) w 22 5 C n c Try.underlying22 Try.underlying5
  go_enter Try.func8, Try.ntmps8
  go_wp2_with fail
  refine (shown_hash _ _).mono ?_
  rintro e w1 ⟨rfl, rfl⟩
  go_wp2_with fail
  refine (shown_make _).mono ?_
  rintro e w2 ⟨A, c, rfl, hr, hb2⟩
  have hb : Below w.heap.size w w2 := ((Below.refl _ _).alloc (Nat.le_refl _) _).trans (hb2.mono (by simp))
  clear hb2
  have c0 : ∃ g o, A = some ⟨g, o, none⟩ ∧ w2.cell? ⟨g, o, none⟩ = some (.int .u8 6) := by
    rcases hr with h | ⟨g, o, e, hg, hc⟩
    · cases h
    · exact ⟨g, o, e, hc 0 (by decide)⟩
  obtain ⟨g, o, rfl, c0⟩ := c0
  go_wp2_with fail
  refine (shown_bad _).mono ?_
  rintro e w3 ⟨rfl, rfl⟩
  go_wp2_with fail
  refine (shown_may _ c w2 _ hr).mono ?_
  rintro e w3 ⟨rfl, hb3⟩
  have c0 := (hb3.cell (World.block_lt_of_cell? _ _ c0)).trans c0
  have hb := hb.trans (hb3.mono hb.size)
  clear hb3 hr
  go_wp2_with fail
  refine (shown_none _ _).mono ?_
  rintro e w4 ⟨rfl, rfl⟩
  have hb' := (hb.alloc hb.size (.cells #[.int .u8 97] 5 (1, 2)))
  have hg := World.block_lt_of_cell? _ _ c0
  have c1 : (w3.alloc (.cells #[.int .u8 97] 5 (1, 2))).cell? ⟨g, o, none⟩ = some (.int .u8 6) := by rw [World.cell?_alloc_lt _ _ _ hg]; exact c0
  go_wp2
  go_ret
  exact ⟨rfl, hb'⟩
end Go.Proofs.Ytogfojohflkdnaa
