/-
  The contracts of codec.KeyText and of the reference's.
-/
import Derived.Test.YtaojflmbfigplaaDoorFrame
namespace Go.Proofs.YtaojflmbfigplaaDoor
open Go.RowKit

/-- a text's bytes as a key's, without its end -/
def esc (l : List UInt8) : List UInt8 := l.flatMap fun c => if c.toNat = 0 then [c, by8 255] else [c]
def kt (l : List UInt8) : List UInt8 := esc l ++ [0, 1]
theorem esc_snoc {l : List UInt8} {k : Nat} (h : k < l.length) : esc (l.take (k + 1)) = esc (l.take k) ++ (if l[k].toNat = 0 then [l[k], by8 255] else [l[k]]) := by
  unfold esc
  rw [List.take_succ_eq_append_getElem h, List.flatMap_append]
  simp
theorem esc_len (l : List UInt8) : (esc l).length ≤ 2 * l.length := by
  induction l with
  | nil => simp [esc]
  | cons c t ih =>
    unfold esc at ih ⊢
    rw [List.flatMap_cons, List.length_append, List.length_cons]
    split <;> simp only [List.length_cons, List.length_nil] <;> omega

set_option maxHeartbeats 1600000 in
set_option maxRecDepth 100000 in
theorem keyText_full (g o c : Nat) (l : List UInt8) (w : World) (hg : g < w.heap.size) (hc : ∀ i (h : i < l.length), w.cell? ⟨g, o + i, none⟩ = some (bv l[i])) (hl : l.length ≤ 112589990683000) :
    Calls Tryd.prog 36 #[.slice (some ⟨g, o, none⟩) l.length c] w fun e w' => ∃ v, e = .returned v ∧ Own w' w.heap.size v (kt l) ∧ Below w.heap.size w w' := by
  have HC := Lib.hid hc
  clear hc
  go_enter Tryd.func36, Tryd.ntmps36
  go_wp2_with (at_make; refine make_room _ (l.length + 2) _ (by omega) rfl _ _ rfl rfl rfl (by omega) ?_)
  intro w0 o0 hb0
  go_wp2
  go_loopw [3, 12] (fun v i wr => ∃ k : Nat, k ≤ l.length ∧ i = .int .i64 k ∧ Own wr w.heap.size v (esc (l.take k)) ∧ Below w.heap.size w wr) (fun _ i _ => l.length - (intOf i).toNat)
  case atStart => exact ⟨0, by omega, rfl, o0, hb0⟩
  case round =>
    obtain ⟨k, hk, rfl, hown, hbel⟩ := hrel
    have hel := esc_len (l.take k)
    have hel : (esc (l.take k)).length ≤ 2 * l.length := by rw [List.length_take] at hel; omega
    by_cases hlt : k < l.length
    · have c1 : wr.cell? ⟨g, o + k, none⟩ = some (.int .u8 (l[k].toNat : Int)) := (hbel.cell (p := ⟨g, o + k, none⟩) hg).trans (HC.out k hlt)
      have HS := Lib.hid (esc_snoc hlt)
      obtain ⟨E, hE⟩ : ∃ E, E = esc (l.take k) := ⟨_, rfl⟩
      rw [← hE] at hel HS hown
      clear hE
      go_wp2_with (at_builtin; refine app_one _ w.heap.size _ E l[k] _ rfl rfl (.tmp 16) (.tmp 18) rfl rfl rfl hown ?e2 ?e3 ?_)
      case e2 => omega
      case e3 => exact hbel.size
      intro v' w' h1 h2
      by_cases h0 : l[k].toNat = 0
      · have HS2 := Lib.hid (HS.out.trans (by rw [if_pos h0]))
        have hb : ((l[k].toNat : Int) == 0) = true := by rw [h0]; rfl
        clear h0
        go_wp2_with (at_builtin; refine app_one _ w.heap.size _ _ (by8 255) _ ?f1 rfl (.tmp 22) (.tmp 23) rfl rfl rfl h1 ?f2 ?f3 ?_)
        case f1 => rfl
        case f2 => simp; omega
        case f3 => exact (hbel.trans h2).size
        intro v'' w'' h3 h4
        go_wp2
        go_roundw
        case rel => exact ⟨k + 1, by omega, by go_num, by rw [HS2.out]; simpa using h3, (hbel.trans h2).trans h4⟩
        case measure => simp [intOf]; omega
      · have HS2 := Lib.hid (HS.out.trans (by rw [if_neg h0]))
        have hb : ((l[k].toNat : Int) == 0) = false := by rw [beq_eq_false_iff_ne]; omega
        clear h0
        go_wp2
        go_roundw
        case rel => exact ⟨k + 1, by omega, by go_num, by rw [HS2.out]; exact h1, hbel.trans h2⟩
        case measure => simp [intOf]; omega
    · rw [List.take_of_length_le (by omega)] at hown hel
      go_wp2_with (at_builtin; refine app_bytes _ w.heap.size _ (esc l) [0, 1] (some ⟨wr.heap.size, 0, none⟩) 2 rfl (.tmp 26) (.tmp 27) rfl rfl rfl (hown.alloc _) ((rd_lit wr [0, 1] _ rfl).more (by simp)) ?i1 ?i2 ?_)
      case i1 => simp; omega
      case i2 => have := hbel.size; simp; omega
      intro v' w' h1 h2 _
      go_wp2
      go_ret
      exact ⟨_, rfl, h1, (hbel.alloc hbel.size _).trans h2⟩

set_option maxHeartbeats 800000 in
set_option maxRecDepth 100000 in
theorem keyText_none (A : Option Addr) (c : Nat) (w : World) :
    Calls Tryd.prog 36 #[.slice A 0 c] w fun e w' => ∃ v, e = .returned v ∧ Own w' w.heap.size v (kt []) ∧ Below w.heap.size w w' := by
  go_enter Tryd.func36, Tryd.ntmps36
  go_wp2_with (at_make; refine make_room _ 2 _ (by omega) rfl _ _ rfl rfl rfl (by omega) ?_)
  intro w0 o0 hb0
  go_wp2
  refine wp_loop_rounds 1 ?_
  rw [rounds_succ]
  go_wp2_with (at_builtin; refine app_bytes _ w.heap.size _ [] [0, 1] (some ⟨w0.heap.size, 0, none⟩) 2 rfl (.tmp 26) (.tmp 27) rfl rfl rfl (o0.alloc _) ((rd_lit w0 [0, 1] _ rfl).more (by simp)) ?i1 ?i2 ?_)
  case i1 => decide
  case i2 => have := hb0.size; simp; omega
  intro v' w' h1 h2 _
  go_wp2
  go_ret
  exact ⟨_, rfl, h1, (hb0.alloc hb0.size _).trans h2⟩

theorem keyText_any (A : Option Addr) (c : Nat) (l : List UInt8) (w : World) (hr : Rd w w.heap.size A l) (hl : l.length ≤ 112589990683000) :
    Calls Tryd.prog 36 #[.slice A l.length c] w fun e w' => ∃ v, e = .returned v ∧ Own w' w.heap.size v (kt l) ∧ Below w.heap.size w w' := by
  rcases hr with rfl | ⟨g, o, rfl, hg, hc⟩
  · exact keyText_none A c w
  · exact keyText_full g o c l w hg hc hl

set_option maxHeartbeats 1600000 in
set_option maxRecDepth 100000 in
theorem rkeyText_full (g o c : Nat) (l : List UInt8) (w : World) (hg : g < w.heap.size) (hc : ∀ i (h : i < l.length), w.cell? ⟨g, o + i, none⟩ = some (bv l[i])) (hl : l.length ≤ 112589990683000) :
    Calls Tryd.prog 38 #[.slice (some ⟨g, o, none⟩) l.length c] w fun e w' => ∃ v, e = .returned v ∧ Own w' w.heap.size v (kt l) ∧ Below w.heap.size w w' := by
  have HC := Lib.hid hc
  clear hc
  go_enter Tryd.func38, Tryd.ntmps38
  go_wp2
  go_loopw [3, 4] (fun v i wr => ∃ k : Nat, k ≤ l.length ∧ i = .int .i64 k ∧ Own wr w.heap.size v (esc (l.take k)) ∧ Below w.heap.size w wr) (fun _ i _ => l.length - (intOf i).toNat)
  case atStart => exact ⟨0, by omega, rfl, Own.nil_ _ _, Below.refl _ _⟩
  case round =>
    obtain ⟨k, hk, rfl, hown, hbel⟩ := hrel
    have hel := esc_len (l.take k)
    have hel : (esc (l.take k)).length ≤ 2 * l.length := by rw [List.length_take] at hel; omega
    by_cases hlt : k < l.length
    · have c1 : wr.cell? ⟨g, o + k, none⟩ = some (.int .u8 (l[k].toNat : Int)) := (hbel.cell (p := ⟨g, o + k, none⟩) hg).trans (HC.out k hlt)
      have HS := Lib.hid (esc_snoc hlt)
      obtain ⟨E, hE⟩ : ∃ E, E = esc (l.take k) := ⟨_, rfl⟩
      rw [← hE] at hel HS hown
      clear hE
      go_wp2_with (at_builtin; refine app_one _ w.heap.size _ E l[k] _ rfl rfl (.tmp 11) (.tmp 16) rfl rfl rfl hown ?e2 ?e3 ?_)
      case e2 => omega
      case e3 => exact hbel.size
      intro v' w' h1 h2
      have c2 : w'.cell? ⟨g, o + k, none⟩ = some (.int .u8 (l[k].toNat : Int)) := ((hbel.trans h2).cell (p := ⟨g, o + k, none⟩) hg).trans (HC.out k hlt)
      by_cases h0 : l[k].toNat = 0
      · have HS2 := Lib.hid (HS.out.trans (by rw [if_pos h0]))
        have hb : ((l[k].toNat : Int) == 0) = true := by rw [h0]; rfl
        clear h0
        go_wp2_with (at_builtin; refine app_one _ w.heap.size _ _ (by8 255) _ ?f1 rfl (.tmp 23) (.tmp 24) rfl rfl rfl h1 ?f2 ?f3 ?_)
        case f1 => rfl
        case f2 => simp; omega
        case f3 => exact (hbel.trans h2).size
        intro v'' w'' h3 h4
        go_wp2
        go_roundw
        case rel => exact ⟨k + 1, by omega, by go_num, by rw [HS2.out]; simpa using h3, (hbel.trans h2).trans h4⟩
        case measure => simp [intOf]; omega
      · have HS2 := Lib.hid (HS.out.trans (by rw [if_neg h0]))
        have hb : ((l[k].toNat : Int) == 0) = false := by rw [beq_eq_false_iff_ne]; omega
        clear h0
        go_wp2
        go_roundw
        case rel => exact ⟨k + 1, by omega, by go_num, by rw [HS2.out]; exact h1, hbel.trans h2⟩
        case measure => simp [intOf]; omega
    · rw [List.take_of_length_le (by omega)] at hown hel
      go_wp2_with (at_builtin; refine app_bytes _ w.heap.size _ (esc l) [0, 1] (some ⟨wr.heap.size, 0, none⟩) 2 rfl (.tmp 26) (.tmp 27) rfl rfl rfl (hown.alloc _) ((rd_lit wr [0, 1] _ rfl).more (by simp)) ?i1 ?i2 ?_)
      case i1 => simp; omega
      case i2 => have := hbel.size; simp; omega
      intro v' w' h1 h2 _
      go_wp2
      go_ret
      exact ⟨_, rfl, h1, (hbel.alloc hbel.size _).trans h2⟩
set_option maxHeartbeats 800000 in
set_option maxRecDepth 100000 in
theorem rkeyText_none (A : Option Addr) (c : Nat) (w : World) :
    Calls Tryd.prog 38 #[.slice A 0 c] w fun e w' => ∃ v, e = .returned v ∧ Own w' w.heap.size v (kt []) ∧ Below w.heap.size w w' := by
  go_enter Tryd.func38, Tryd.ntmps38
  go_wp2
  refine wp_loop_rounds 1 ?_
  rw [rounds_succ]
  go_wp2_with (at_builtin; refine app_bytes _ w.heap.size _ [] [0, 1] (some ⟨w.heap.size, 0, none⟩) 2 rfl (.tmp 26) (.tmp 27) rfl rfl rfl (Own.nil_ _ _) ((rd_lit w [0, 1] _ rfl).more (by simp)) ?i1 ?i2 ?_)
  case i1 => decide
  case i2 => simp
  intro v' w' h1 h2 _
  go_wp2
  go_ret
  exact ⟨_, rfl, h1, ((Below.refl w.heap.size w).alloc (Nat.le_refl _) _).trans h2⟩
theorem rkeyText_any (A : Option Addr) (c : Nat) (l : List UInt8) (w : World) (hr : Rd w w.heap.size A l) (hl : l.length ≤ 112589990683000) :
    Calls Tryd.prog 38 #[.slice A l.length c] w fun e w' => ∃ v, e = .returned v ∧ Own w' w.heap.size v (kt l) ∧ Below w.heap.size w w' := by
  rcases hr with rfl | ⟨g, o, rfl, hg, hc⟩
  · exact rkeyText_none A c w
  · exact rkeyText_full g o c l w hg hc hl
end Go.Proofs.YtaojflmbfigplaaDoor
