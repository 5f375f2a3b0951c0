/-
  The place of a number among ranges.
-/
import Derived.Test.YtninjoepdchmiaaList
set_option linter.unusedVariables false
namespace Go.Proofs.Ytninjoepdchmiaa
open Go.RowKit

set_option maxRecDepth 100000 in
theorem has1_any (x : RV) (g : Nat) (id : Int) (w : World) (hg : w.cell? ⟨g, 0, none⟩ = some (.int .i64 id)) :
    Calls Try.prog 54 #[rval x, .pointer (some ⟨g, 0, none⟩)] w fun e w' => e = .returned (.bool (x.d.id == id)) ∧ Below w.heap.size w w' := by
  obtain ⟨⟨xid, gen, fr, en⟩, F, fc, T, tc⟩ := x
  simp only [rval]
  have hb := below1' w (.cells #[.int .i64 xid, .slice F fr.length fc, .slice T en.length tc, .int .i64 gen] 46)
  have hg2 := (hb.cell (p := ⟨g, 0, none⟩) (World.block_lt_of_cell? _ _ hg)).trans hg
  go_enter Try.func54, Try.ntmps54
  go_wp2
  go_ret
  exact ⟨rfl, hb⟩
set_option maxRecDepth 100000 in
theorem has_any (id : Int) (w : World) :
    Calls Try.prog 53 #[.int .i64 id] w fun e w' => e = .returned (.func (.func 54) #[] #[.pointer (some ⟨w.heap.size, 0, none⟩)]) ∧ w'.cell? ⟨w.heap.size, 0, none⟩ = some (.int .i64 id) ∧ Below w.heap.size w w' := by
  have hb := below1' w (.cells #[.int .i64 id] 3)
  have hc := (Cell.new w #[.int .i64 id] 3 0 _ rfl).1
  go_enter Try.func53, Try.ntmps53
  go_wp2
  go_ret
  exact ⟨rfl, hc, hb⟩

/-- the place of the first one with a number, or how many there are -/
def idxD (ds : List RD) (id : Int) : Nat := (ds.takeWhile fun r => !(r.id == id)).length
def idxI (ds : List RD) (id : Int) : Int := if idxD ds id < ds.length then ((idxD ds id : Nat) : Int) else -1
theorem tw_len {α : Type} {p : α → Bool} : ∀ {l : List α} {i : Nat}, i ≤ l.length → (∀ j (h : j < l.length), j < i → p l[j] = true) → (∀ h : i < l.length, p l[i] = false) → (l.takeWhile p).length = i
  | [], i, h, _, _ => by simp at h; simp [h]
  | a :: l, 0, _, _, h2 => by
    have := h2 (by simp)
    simp only [List.getElem_cons_zero] at this
    simp [List.takeWhile, this]
  | a :: l, i + 1, h, h1, h2 => by
    have h0 := h1 0 (by simp) (by omega)
    simp only [List.getElem_cons_zero] at h0
    have := tw_len (p := p) (l := l) (i := i) (by simp at h; omega) (fun j h hj => by have := h1 (j + 1) (by simp; omega) (by omega); simpa using this) (fun h => by have := h2 (by simp; omega); simpa using this)
    simp [List.takeWhile, h0, this]

set_option maxHeartbeats 1600000 in
set_option maxRecDepth 100000 in
theorem index_any (L : List RV) (A : Option Addr) (n c g : Nat) (id : Int) (w : World) (hn : n = L.length) (hr : RsRd w w.heap.size A L) (hl : n ≤ 140737488351232) (hg : w.cell? ⟨g, 0, none⟩ = some (.int .i64 id)) :
    Calls Try.prog 55 #[.slice A n c, .func (.func 54) #[] #[.pointer (some ⟨g, 0, none⟩)]] w fun e w' => e = .returned (.int .i64 (idxI (L.map (·.d)) id)) ∧ Below w.heap.size w w' := by
  have HR := Lib.hid hr
  have HN := Lib.hid hn
  have hgl := World.block_lt_of_cell? _ _ hg
  have HG := Lib.hid (fun (w' : World) (h : Below w.heap.size w w') => (h.cell (p := ⟨g, 0, none⟩) hgl).trans hg)
  obtain ⟨ds, hds⟩ : ∃ ds, ds = L.map (·.d) := ⟨_, rfl⟩
  have HD : Hid (∀ k (h : k < L.length), ∃ h2 : k < ds.length, ds[k] = L[k].d) := fun k h => by
    have h2 : k < ds.length := by rw [hds]; simpa using h
    exact ⟨h2, by simp [hds]⟩
  have HDN : Hid (n = ds.length) := by show _ = _; rw [hds, hn]; simp
  rw [← hds]
  clear hr hn hds hg hgl
  go_enter Try.func55, Try.ntmps55
  go_wp2
  go_loopw [8] (fun s8 wr => ∃ k : Nat, s8 = .int .i64 k ∧ k ≤ n ∧ Hid (∀ j (h : j < ds.length), j < k → (!(ds[j].id == id)) = true) ∧ Below w.heap.size w wr) (fun s8 _ => n - (intOf s8).toNat)
  case atStart => exact ⟨0, rfl, Nat.zero_le _, (fun j _ h => absurd h (Nat.not_lt_zero _)), Below.refl _ _⟩
  case round =>
    obtain ⟨k, rfl, hk, HI, hb⟩ := hrel
    by_cases hlt : k < n
    · have hkl : k < L.length := by have := HN.out; omega
      rcases HR.out with h0 | ⟨q, o, hA, hq, hcell⟩
      · rw [h0] at hkl; simp at hkl
      rw [hA]
      obtain ⟨q0, q1, q2, q3, htx⟩ := hcell k hkl
      obtain ⟨hk2, hdk⟩ := HD.out k hkl
      have HDK := Lib.hid (And.intro hk2 hdk)
      obtain ⟨x, hx⟩ : ∃ x, x = L[k] := ⟨_, rfl⟩
      rw [← hx] at q0 q1 q2 q3
      have HX : Hid (∃ h : k < ds.length, ds[k] = x.d) := ⟨hk2, by rw [hx]; exact hdk⟩
      have d0 := (hb.cell (p := ⟨q, o + k * 4, none⟩) hq).trans q0
      have d1 := (hb.cell (p := ⟨q, o + k * 4 + 1, none⟩) hq).trans q1
      have d2 := (hb.cell (p := ⟨q, o + k * 4 + 2, none⟩) hq).trans q2
      have d3 := (hb.cell (p := ⟨q, o + k * 4 + 3, none⟩) hq).trans q3
      have C := has1_any x g id wr (HG.out wr hb)
      simp only [rval] at C
      have HC := Lib.hid C
      have HB := Lib.hid hb
      have hlt' : (k : Int) < (n : Int) := by omega
      obtain ⟨bb, hbb⟩ : ∃ y, y = (x.d.id == id) := ⟨_, rfl⟩
      replace HC := HC.out
      rw [← hbb] at HC
      replace HC := Lib.hid HC
      have HBB := Lib.hid hbb
      clear hcell q0 q1 q2 q3 htx hx hdk hk2 HDK C hb hA hbb
      cases bb with
      | true =>
        have HF : Hid (idxI ds id = (k : Int)) := by
          obtain ⟨h, hd⟩ := HX.out
          have : idxD ds id = k := tw_len (by omega) HI.out (fun _ => by rw [hd, ← HBB.out]; rfl)
          show _ = _
          unfold idxI
          rw [this, if_pos h]
        go_wp2_with (go_at_call 54; refine HC.out.mono ?_; rintro e w2 ⟨rfl, h2⟩)
        go_ret
        exact ⟨by rw [HF.out]; rfl, HB.out.trans (h2.mono HB.out.size)⟩
      | false =>
        have HF : Hid (∀ j (h : j < ds.length), j < k + 1 → (!(ds[j].id == id)) = true) := fun j h hj => by
          by_cases he : j = k
          · subst he
            obtain ⟨h', hd⟩ := HX.out
            rw [hd, ← HBB.out]; rfl
          · exact HI.out j h (by omega)
        go_wp2_with (go_at_call 54; refine HC.out.mono ?_; rintro e w2 ⟨rfl, h2⟩)
        go_roundw
        case rel => exact ⟨k + 1, by go_num, by omega, HF, HB.out.trans (h2.mono HB.out.size)⟩
        case measure => simp [intOf]; omega
    · have hkn : k = n := by omega
      have HF : Hid (idxI ds id = -1) := by
        have : idxD ds id = k := tw_len (by have := HDN.out; omega) HI.out (fun h => by have := HDN.out; omega)
        show _ = _
        unfold idxI
        rw [this, if_neg (by have := HDN.out; omega)]
      subst hkn
      go_wp2
      go_ret
      exact ⟨by rw [HF.out]; rfl, hb⟩
end Go.Proofs.Ytninjoepdchmiaa
