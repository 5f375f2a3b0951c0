/-
  The contract of codec.TakeKeyText.
-/
import Derived.Test.YtaojflmbfigplaaDoorBase
import Derived.Outline
namespace Go.Proofs.YtaojflmbfigplaaDoor
open Go.RowKit

/-- a key's text read off the front of bytes, from place i on, with out gathered: the text, how many bytes, the error -/
def tkt : Nat → List UInt8 → List UInt8 → List UInt8 × Nat × Nat
  | _, _, [] => ([], 0, 10)
  | _, _, [_] => ([], 0, 10)
  | i, out, c :: d :: t =>
    if c.toNat ≠ 0 then tkt (i + 1) (out ++ [c]) (d :: t)
    else if d.toNat = 255 then tkt (i + 2) (out ++ [by8 0]) t
    else if d.toNat = 1 then (out, i + 2, 0) else ([], 0, 11)

theorem tkt_plain {l out : List UInt8} {k i : Nat} (h : k < l.length) (hc : l[k].toNat ≠ 0) : tkt i out (l.drop k) = tkt (i + 1) (out ++ [l[k]]) (l.drop (k + 1)) := by
  rw [drop_cons h]
  by_cases h2 : k + 1 < l.length
  · rw [drop_cons h2]
    simp only [tkt]
    rw [if_pos hc]
  · rw [drop_nil (l := l) (k := k + 1) (by omega)]
    rfl
theorem tkt_two {l out : List UInt8} {k i : Nat} (h : k + 1 < l.length) (hc : l[k].toNat = 0) : tkt i out (l.drop k) = if l[k + 1].toNat = 255 then tkt (i + 2) (out ++ [by8 0]) (l.drop (k + 2))
    else if l[k + 1].toNat = 1 then (out, i + 2, 0) else ([], 0, 11) := by
  rw [drop_cons (by omega), drop_cons h]
  simp only [tkt]
  rw [if_neg (by omega)]
theorem tkt_short {l out : List UInt8} {k i : Nat} (h : k + 1 = l.length) : tkt i out (l.drop k) = ([], 0, 10) := by
  rw [drop_cons (by omega), drop_nil (l := l) (k := k + 1) (by omega)]
  rfl

theorem own_made (w : World) : Own (w.alloc (.cells #[] 5)) w.heap.size (.slice (some ⟨w.heap.size, 0, none⟩) 0 0) [] := World.ownsRow_made w #[] 0 (Nat.le_refl _) (by unfold maxLen; omega) rfl

set_option maxHeartbeats 800000 in
set_option maxRecDepth 100000 in
theorem takenKeyText_full (g o c : Nat) (l : List UInt8) (w : World) (hg : g < w.heap.size) (hc : ∀ i (h : i < l.length), w.cell? ⟨g, o + i, none⟩ = some (bv l[i])) (hl : l.length ≤ 225179981367000) :
    Calls Tryd.prog 26 #[.slice (some ⟨g, o, none⟩) l.length c] w fun e w' => ∃ v, e = .returned (.tuple #[v, .int .i64 (tkt 0 [] l).2.1, .int .i64 (tkt 0 [] l).2.2]) ∧ Own w' w.heap.size v (tkt 0 [] l).1 ∧ Below w.heap.size w w' := by
  have HC := Lib.hid hc
  clear hc
  go_enter Tryd.func26, Tryd.ntmps26
  go_wp2
  go_loopw [5, 6] (fun v i wr => ∃ (k : Nat) (out : List UInt8), k ≤ l.length ∧ i = .int .i64 k ∧ out.length ≤ k ∧ tkt 0 [] l = tkt k out (l.drop k) ∧ Own wr w.heap.size v out ∧ Below w.heap.size w wr) (fun _ i _ => l.length - (intOf i).toNat)
  case atStart => exact ⟨0, [], by omega, rfl, by simp, rfl, own_made w, (Below.refl _ _).alloc (Nat.le_refl _) _⟩
  case round =>
    obtain ⟨k, out, hk, rfl, ho, ht, hown, hbel⟩ := hrel
    have HT := Lib.hid ht
    clear ht
    by_cases hlt : k < l.length
    · have c1 : wr.cell? ⟨g, o + k, none⟩ = some (.int .u8 (l[k].toNat : Int)) := (hbel.cell (p := ⟨g, o + k, none⟩) hg).trans (HC.out k hlt)
      by_cases h0 : l[k].toNat = 0
      · have hb : ((l[k].toNat : Int) != 0) = false := by rw [h0]; rfl
        by_cases h1 : k + 1 = l.length
        · have hb1 : ((k : Int) + 1 == (l.length : Int)) = true := by rw [beq_iff_eq]; omega
          have HS := Lib.hid (tkt_short (out := out) (i := k) h1)
          clear h0 h1
          go_wp2
          go_ret3
          exact ⟨_, by rw [HT.out, HS.out]; rfl, by rw [HT.out, HS.out]; exact Own.nil_ _ _, hbel⟩
        · have hb1 : ((k : Int) + 1 == (l.length : Int)) = false := by rw [beq_eq_false_iff_ne]; omega
          have hk1 : k + 1 < l.length := by omega
          have c2 : wr.cell? ⟨g, o + (k + 1), none⟩ = some (.int .u8 (l[k + 1].toNat : Int)) := (hbel.cell (p := ⟨g, o + (k + 1), none⟩) hg).trans (HC.out (k + 1) hk1)
          have HS := Lib.hid (tkt_two (out := out) (i := k) hk1 h0)
          obtain ⟨d, hd⟩ : ∃ d, d = l[k + 1].toNat := ⟨_, rfl⟩
          rw [← hd] at c2 HS
          clear h0 h1
          by_cases h255 : d = 255
          · have HS2 := Lib.hid (HS.out.trans (if_pos h255))
            have hb2 : ((d : Int) == 255) = true := by rw [beq_iff_eq]; omega
            clear HS h255 hd
            go_wp2_with (at_builtin; go_loud (refine app_one _ w.heap.size _ out (by8 0) _ ?e1 rfl (.tmp 38) (.tmp 39) rfl rfl rfl hown ?e2 ?e3 ?_))
            case e1 => rfl
            case e2 => omega
            case e3 => exact hbel.size
            intro v' w' h1 h2
            go_wp2
            go_roundw
            case rel => exact ⟨k + 2, _, by omega, by go_num, by simp; omega, by rw [HT.out, HS2.out], h1, hbel.trans h2⟩
            case measure => simp [intOf]; omega
          · have hb2 : ((d : Int) == 255) = false := by rw [beq_eq_false_iff_ne]; omega
            have HS2 := Lib.hid (HS.out.trans (if_neg h255))
            by_cases h11 : d = 1
            · have HS3 := Lib.hid (HS2.out.trans (if_pos h11))
              have hb3 : ((d : Int) == 1) = true := by rw [beq_iff_eq]; omega
              clear HS HS2 h255 h11 hd
              go_wp2
              go_ret3
              exact ⟨_, by rw [HT.out, HS3.out]; rfl, by rw [HT.out, HS3.out]; exact hown, hbel⟩
            · have HS3 := Lib.hid (HS2.out.trans (if_neg h11))
              have hb3 : ((d : Int) == 1) = false := by rw [beq_eq_false_iff_ne]; omega
              clear HS HS2 h255 h11 hd
              go_wp2
              go_ret3
              exact ⟨_, by rw [HT.out, HS3.out]; rfl, by rw [HT.out, HS3.out]; exact Own.nil_ _ _, hbel⟩
      · have hb : ((l[k].toNat : Int) != 0) = true := by rw [bne_iff_ne]; omega
        have HS := Lib.hid (tkt_plain (out := out) (i := k) hlt h0)
        clear h0
        go_wp2_with (at_builtin; go_loud (refine app_one _ w.heap.size _ out l[k] _ rfl rfl (.tmp 19) (.tmp 24) rfl rfl rfl hown ?e2 ?e3 ?_))
        case e2 => omega
        case e3 => exact hbel.size
        intro v' w' h1 h2
        go_wp2
        go_roundw
        case rel => exact ⟨k + 1, _, by omega, by go_num, by simp; omega, by rw [HT.out, HS.out], h1, hbel.trans h2⟩
        case measure => simp [intOf]; omega
    · go_wp2
      go_ret3
      exact ⟨_, by rw [HT.out, drop_nil (by omega)]; rfl, by rw [HT.out, drop_nil (by omega)]; exact Own.nil_ _ _, hbel⟩

theorem takenKeyText_none (A : Option Addr) (c : Nat) (w : World) :
    Calls Tryd.prog 26 #[.slice A 0 c] w fun e w' => e = .returned (.tuple #[.slice none 0 0, .int .i64 0, .int .i64 10]) ∧ Below w.heap.size w w' := by
  go_enter Tryd.func26, Tryd.ntmps26
  go_wp2
  refine wp_loop_rounds 1 ?_
  rw [rounds_succ]
  go_wp2
  go_ret3
  exact ⟨rfl, (Below.refl _ _).alloc (Nat.le_refl _) _⟩

/-- codec.TakeKeyText, whatever the bytes -/
theorem takenKeyText_any (A : Option Addr) (c : Nat) (l : List UInt8) (w : World) (hr : Rd w w.heap.size A l) (hl : l.length ≤ 225179981367000) :
    Calls Tryd.prog 26 #[.slice A l.length c] w fun e w' => ∃ v, e = .returned (.tuple #[v, .int .i64 (tkt 0 [] l).2.1, .int .i64 (tkt 0 [] l).2.2]) ∧ Own w' w.heap.size v (tkt 0 [] l).1 ∧ Below w.heap.size w w' := by
  rcases hr with rfl | ⟨g, o, rfl, hg, hc⟩
  · refine (takenKeyText_none A c w).mono ?_
    rintro e w' ⟨rfl, hb⟩
    exact ⟨_, rfl, Own.nil_ _ _, hb⟩
  · exact takenKeyText_full g o c l w hg hc hl
end Go.Proofs.YtaojflmbfigplaaDoor
