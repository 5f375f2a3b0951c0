/-
  The contracts of codec.Text, codec.fresh, codec.TakeText and of the reference's Text.
-/
import Derived.Test.YtaojflmbfigplaaDoorRefNumber
import Derived.Test.YtaojflmbfigplaaDoorLent
namespace Go.Proofs.YtaojflmbfigplaaDoor
open Go.RowKit

set_option maxHeartbeats 800000 in
set_option maxRecDepth 100000 in
theorem text_ok (A : Option Addr) (c : Nat) (s : List UInt8) (w : World) (hr : Rd w w.heap.size A s) (hl : s.length ≤ 2097152) :
    Calls Tryd.prog 30 #[.slice A s.length c] w fun e w' => ∃ v, e = .returned (.tuple #[v, .int .i64 0]) ∧ Own w' w.heap.size v (num s.length ++ s) ∧ Below w.heap.size w w' := by
  have HR := Lib.hid hr
  have hnl := num_len s.length
  clear hr
  go_enter Tryd.func30, Tryd.ntmps30
  go_wp2_with fail
  refine (number_any s.length w (Nat.lt_of_le_of_lt hl (by decide))).mono ?_
  rintro e w1 ⟨v1, rfl, o1, hb1⟩
  go_wp2_with (at_builtin; refine app_bytes _ w.heap.size _ (num s.length) s A c rfl (.tmp 10) (.tmp 11) rfl rfl rfl o1 ((HR.out.below hb1).more hb1.size) ?e1 ?e2 ?_)
  case e1 => omega
  case e2 => exact hb1.size
  intro v2 w2 o2 hb2 _
  go_wp2
  go_ret2
  exact ⟨_, rfl, o2, hb1.trans hb2⟩
set_option maxHeartbeats 800000 in
set_option maxRecDepth 100000 in
theorem text_long (A : Option Addr) (c n : Nat) (w : World) (hl : 2097152 < n) :
    Calls Tryd.prog 30 #[.slice A n c] w fun e w' => e = .returned (.tuple #[.slice none 0 0, .int .i64 12]) ∧ w = w' := by
  go_enter Tryd.func30, Tryd.ntmps30
  go_wp2
  go_ret2
  exact ⟨rfl, rfl⟩
set_option maxHeartbeats 800000 in
set_option maxRecDepth 100000 in
theorem rtext_ok (A : Option Addr) (c : Nat) (s : List UInt8) (w : World) (hr : Rd w w.heap.size A s) (hl : s.length ≤ 2097152) :
    Calls Tryd.prog 29 #[.slice A s.length c] w fun e w' => ∃ v, e = .returned (.tuple #[v, .int .i64 0]) ∧ Own w' w.heap.size v (num s.length ++ s) ∧ Below w.heap.size w w' := by
  have HR := Lib.hid hr
  have hnl := num_len s.length
  clear hr
  go_enter Tryd.func29, Tryd.ntmps29
  go_wp2_with fail
  refine (rnumber_any s.length w (Nat.le_trans hl (by decide))).mono ?_
  rintro e w1 ⟨v1, rfl, o1, hb1⟩
  go_wp2_with (at_builtin; refine app_bytes _ w.heap.size _ (num s.length) s A c rfl (.tmp 12) (.tmp 13) rfl rfl rfl o1 ((HR.out.below hb1).more hb1.size) ?e1 ?e2 ?_)
  case e1 => omega
  case e2 => exact hb1.size
  intro v2 w2 o2 hb2 _
  go_wp2
  go_ret2
  exact ⟨_, rfl, o2, hb1.trans hb2⟩
set_option maxHeartbeats 800000 in
set_option maxRecDepth 100000 in
theorem rtext_long (A : Option Addr) (c n : Nat) (w : World) (hl : 2097152 < n) :
    Calls Tryd.prog 29 #[.slice A n c] w fun e w' => e = .returned (.tuple #[.slice none 0 0, .int .i64 12]) ∧ w = w' := by
  go_enter Tryd.func29, Tryd.ntmps29
  go_wp2
  go_ret2
  exact ⟨rfl, rfl⟩

set_option maxRecDepth 100000 in
theorem fresh_any (A : Option Addr) (c : Nat) (s : List UInt8) (w : World) (hr : Rd w w.heap.size A s) (hl : s.length ≤ 225179981368000) :
    Calls Tryd.prog 41 #[.slice A s.length c] w fun e w' => ∃ v, e = .returned v ∧ Own w' w.heap.size v s ∧ Below w.heap.size w w' := by
  have HR := Lib.hid hr
  clear hr
  go_enter Tryd.func41, Tryd.ntmps41
  go_wp2_with (at_builtin; refine app_bytes _ w.heap.size _ [] s A c rfl (.tmp 3) (.tmp 4) rfl rfl rfl (own_made w) ((HR.out.below ((Below.refl _ _).alloc (Nat.le_refl _) _)).more (by simp)) ?e1 ?e2 ?_)
  case e1 => simpa using hl
  case e2 => simp
  intro v2 w2 o2 hb2 _
  go_wp2
  go_ret
  exact ⟨_, rfl, by simpa using o2, ((Below.refl w.heap.size w).alloc (Nat.le_refl _) _).trans hb2⟩

/-- b[k:e] -/
theorem cut_run {W : World} {B : Nat} {A : Option Addr} {l : List UInt8} {n c k e : Nat} (hn : n = l.length) (hr : Rd W B A l) (hk : k ≤ e) (he : e ≤ l.length) (hc : l.length ≤ c) :
    ∃ A', (∀ W' : World, (Instr.slice 23 (.slice A n c) (some (.int .i64 (k : Int))) (some (.int .i64 (e : Int))) none).run Tryd.prog W' = .ok (.slice A' (e - k) (c - k)) W') ∧ Rd W B A' ((l.drop k).take (e - k)) := by
  obtain ⟨i0, hi0, hz0, hz1, hz2⟩ := info_parts info8
  have hu : Tryd.prog.underlying 23 = some (.slice (Tryd.prog.elem 23)) := by simp [Program.elem, Tryd.underlying23]
  have hel : Tryd.prog.elem 23 = 5 := by simp [Program.elem, Tryd.underlying23]
  refine ⟨if c = k then A else A.map (·.add (k * 1)), fun W' => ?_, ?_⟩
  · rw [run_slice_lh W' 23 A n c hu .i64 .i64 (k : Int) (e : Int) (by omega) (by omega) (by omega), hel]
    have hs : (Go.sizeOf 5).run Tryd.prog W' = .ok 1 W' := by simp [Go.sizeOf, typeInfo, hi0, hz1]
    rw [hs]
    simp [sliced, Result.andThen]
  · by_cases h0 : e = k
    · subst h0
      exact .inl (by simp)
    · rcases hr with rfl | ⟨g, o, rfl, hg, hcell⟩
      · simp at he; omega
      · rw [if_neg (by omega)]
        refine .inr ⟨g, o + k, by simp [add_at], hg, fun i hi => ?_⟩
        have hi' : i < e - k := by simp at hi; omega
        rw [Nat.add_assoc, hcell (k + i) (by omega)]
        simp
/-- b[k:], b[:e] are cuts too -/
theorem drop_take_all {l : List UInt8} {k : Nat} : (l.drop k).take (l.length - k) = l.drop k := by
  rw [List.take_of_length_le]
  simp
end Go.Proofs.YtaojflmbfigplaaDoor
