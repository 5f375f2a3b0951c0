/-
  find: the one of ranges that has a key; the table's Find.
-/
import Derived.Test.YtninjoepdchmiaaPlaceF
import Derived.Test.YtninjoepdchmiaaList
import Derived.Test.YtninjoepdchmiaaInter
import Derived.StillTailTactics
import Derived.Deep.RegionHeld3
set_option linter.unusedVariables false
namespace Go.Proofs.Ytninjoepdchmiaa
open Go.RowKit

theorem len_max {n : Nat} (h : n ≤ 140737488351232) : n ≤ maxB := Nat.le_trans h (by decide)
set_option maxHeartbeats 1600000 in
set_option maxRecDepth 100000 in
theorem find1_any (x : RV) (kb : Nat) (K : Option Addr) (nk kc : Nat) (key : List UInt8) (w : World) (hx : RTx w w.heap.size x) (hk : w.cell? ⟨kb, 0, none⟩ = some (.slice K nk kc)) (hs : Src w K nk kc key) :
    Calls Try.prog 79 #[rval x, .pointer (some ⟨kb, 0, none⟩)] w fun e w' => e = .returned (.bool (ebB x.d.to key)) ∧ Below w.heap.size w w' := by
  obtain ⟨⟨id, gen, fr, en⟩, F, fc, T, tc⟩ := x
  simp only [rval]
  have hb := below1' w (.cells #[.int .i64 id, .slice F fr.length fc, .slice T en.length tc, .int .i64 gen] 46)
  have C := Lib.hid (ends_any F T K fr.length fc en.length tc nk kc en key _ rfl hs.1.1 (hx.t.keep' hb) (hs.2.keep' hb) (len_max hx.lt) (len_max (by rw [hs.1.1]; exact hs.1.2.2)))
  have hk2 := (hb.cell (p := ⟨kb, 0, none⟩) (World.block_lt_of_cell? _ _ hk)).trans hk
  obtain ⟨b, hb'⟩ : ∃ b, b = ebB en key := ⟨_, rfl⟩
  rw [← hb'] at C
  rw [← hb']
  clear hb' hx hs
  go_enter Try.func79, Try.ntmps79
  go_wp2_with fail
  refine C.out.mono ?_
  rintro e w2 ⟨rfl, h2⟩
  have HB := Lib.hid (hb.trans (h2.mono hb.size))
  clear h2 C hb
  go_wp2
  go_ret
  exact ⟨rfl, HB.out⟩

/-- ranges whose ends rise: what ends behind a key is followed by such alone -/
def Mono (ds : List RD) : Prop := ∀ key i j (hi : i < ds.length) (hj : j < ds.length), i ≤ j → ebB ds[i].to key = true → ebB ds[j].to key = true
def findK (ds : List RD) (key : List UInt8) : Nat := (ds.takeWhile fun r => !ebB r.to key).length
theorem findK_of {ds : List RD} {key : List UInt8} {k : Nat} (hk : k ≤ ds.length) (h1 : ∀ j (h : j < ds.length), j < k → ebB ds[j].to key = false) (h2 : ∀ j (h : j < ds.length), k ≤ j → ebB ds[j].to key = true) : k = findK ds key := by
  unfold findK
  have : ∀ (ds : List RD) (k : Nat), k ≤ ds.length → (∀ j (h : j < ds.length), j < k → ebB ds[j].to key = false) → (∀ j (h : j < ds.length), k ≤ j → ebB ds[j].to key = true) → k = (ds.takeWhile fun r => !ebB r.to key).length := by
    intro ds
    induction ds with
    | nil => intro k hk _ _; simp at hk; simp [hk]
    | cons r ds ih =>
      intro k hk h1 h2
      cases k with
      | zero =>
        have := h2 0 (by simp) (Nat.le_refl _)
        simp only [List.getElem_cons_zero] at this
        simp [List.takeWhile, this]
      | succ k =>
        have h0 := h1 0 (by simp) (by omega)
        simp only [List.getElem_cons_zero] at h0
        have := ih k (by simp at hk; omega) (fun j h hj => by have := h1 (j + 1) (by simp; omega) (by omega); simpa using this) (fun j h hj => by have := h2 (j + 1) (by simp; omega) (by omega); simpa using this)
        simp [List.takeWhile, h0]
        exact this
  exact this ds k hk h1 h2
def findOk (ds : List RD) (key : List UInt8) : Bool := match ds[findK ds key]? with | some r => ctB r.fr r.to key | none => false

set_option maxHeartbeats 3200000 in
set_option maxRecDepth 100000 in
theorem find_any (L : List RV) (A : Option Addr) (n c : Nat) (K : Option Addr) (nk kc : Nat) (key : List UInt8) (w : World) (hn : n = L.length) (hr : RsRd w w.heap.size A L) (hl : n ≤ 140737488351232) (hm : Mono (L.map (·.d))) (hs : Src w K nk kc key) :
    Calls Try.prog 60 #[.slice A n c, .slice K nk kc] w fun e w' => e = .returned (.tuple #[.int .i64 (findK (L.map (·.d)) key), .bool (findOk (L.map (·.d)) key)]) ∧ Below w.heap.size w w' := by
  have hb := below1' w (.cells #[.slice K nk kc] 24)
  have B0 := Cell.new w #[.slice K nk kc] 24 0 _ rfl
  have P := Lib.hid (placeF (.pointer (some ⟨w.heap.size, 0, none⟩)) L A n c (fun k => match (L.map (·.d))[k]? with | some r => ebB r.to key | none => true) _ hn (hr.keep hb) hl
    (fun w' k x hw hx => by
      have h := find1_any x w.heap.size K nk kc key w' (by
        rcases (hr.keep hb).keep hw with h0 | ⟨q, o, _, _, hc⟩
        · rw [h0] at hx; simp at hx
        · have hk : k < L.length := by
            rcases Nat.lt_or_ge k L.length with h | h
            · exact h
            · rw [List.getElem?_eq_none h] at hx; cases hx
          have := (hc k hk).2.2.2.2
          rw [List.getElem?_eq_getElem hk] at hx
          injection hx with hx
          rw [← hx]; exact this) ((B0.keep hw).1) ((hs.keep hb).keep hw)
      have e : (L.map (·.d))[k]? = some x.d := by rw [List.getElem?_map, hx]; rfl
      simp only [e]
      exact h)
    (fun i j hij hj hp => by
      have hi' : i < (L.map (·.d)).length := by simp; omega
      have hj' : j < (L.map (·.d)).length := by simp; omega
      rw [List.getElem?_eq_getElem hi'] at hp
      rw [List.getElem?_eq_getElem hj']
      exact hm key i j hi' hj' hij hp))
  have HK := Lib.hid (fun (k : Nat) (h1 : k ≤ n) (h2 : ∀ j, j < k → (match (L.map (·.d))[j]? with | some r => ebB r.to key | none => true) = false) (h3 : ∀ j, k ≤ j → j < n → (match (L.map (·.d))[j]? with | some r => ebB r.to key | none => true) = true) =>
    findK_of (ds := L.map (·.d)) (key := key) (k := k) (by simp; omega) (fun j hj hjk => by have := h2 j hjk; rw [List.getElem?_eq_getElem hj] at this; exact this) (fun j hj hjk => by have := h3 j hjk (by simp at hj; omega); rw [List.getElem?_eq_getElem hj] at this; exact this))
  have HR := Lib.hid hr
  have HS := Lib.hid hs
  have HN := Lib.hid hn
  obtain ⟨ds, hds⟩ : ∃ x, x = L.map (·.d) := ⟨_, rfl⟩
  rw [← hds] at HK P
  rw [← hds]
  have HDS := Lib.hid hds
  obtain ⟨u, hu⟩ : ∃ u, u = w.heap.size := ⟨_, rfl⟩
  rw [← hu] at P B0
  clear hr hs hn hm hds
  go_enter Try.func60, Try.ntmps60
  go_wp2_with fail
  rw [← hu]
  clear hu
  refine P.out.mono ?_
  rintro e w2 ⟨⟨k, rfl, h1, h2, h3⟩, h4⟩
  have HB2 := Lib.hid (hb.trans (h4.mono hb.size))
  have HKK := Lib.hid (HK.out k h1 h2 h3)
  have X0 := Lib.hid (B0.keep h4)
  have HR2 := Lib.hid (HR.out.keep HB2.out)
  have HS2 := Lib.hid (HS.out.keep HB2.out)
  clear h2 h3 h4 P B0 hb HK
  by_cases hlt : k < n
  · have hkl : k < L.length := by have := HN.out; omega
    rcases HR2.out with h0 | ⟨q, o, rfl, hq, hcell⟩
    · rw [h0] at hkl; simp at hkl
    obtain ⟨c0, c1, c2, c3, htx⟩ := hcell k hkl
    have HE : Hid (ds[k]? = some L[k].d) := by show _ = _; rw [HDS.out, List.getElem?_map, List.getElem?_eq_getElem hkl]; rfl
    obtain ⟨x, hx⟩ : ∃ x, x = L[k] := ⟨_, rfl⟩
    replace HE := HE.out
    rw [← hx] at c0 c1 c2 c3 htx HE
    have HE := Lib.hid HE
    have C := Lib.hid (contains_any x.F x.T K x.d.fr.length x.fc x.d.to.length x.tc nk kc x.d.fr x.d.to key w2.drew rfl rfl HS.out.1.1 htx.f htx.t HS2.out.2 (len_max htx.lf) (len_max htx.lt) (len_max (by rw [HS.out.1.1]; exact HS.out.1.2.2)))
    have HOK : Hid (findOk ds key = ctB x.d.fr x.d.to key) := by show _ = _; unfold findOk; rw [← HKK.out, HE.out]
    obtain ⟨b, hb'⟩ : ∃ b, b = ctB x.d.fr x.d.to key := ⟨_, rfl⟩
    rw [← hb'] at C HOK
    have hlt' : (k : Int) < (n : Int) := by omega
    have x0 := X0.out.1
    clear hcell hx hb' htx
    go_upto_region 2 with fail
    have HX0 := Lib.hid (World.block_lt_of_cell? w2 _ x0)
    have HQQ := Lib.hid hq
    go_region_held3 (fun w' => w'.cell? ⟨u, 0, none⟩ = some (.slice K nk kc) ∧ w'.cell? ⟨q, o + k * 4 + 1, none⟩ = some (.slice x.F x.d.fr.length x.fc) ∧ w'.cell? ⟨q, o + k * 4 + 2, none⟩ = some (.slice x.T x.d.to.length x.tc)) (first | exact ⟨x0, c1, c2⟩ | exact ⟨v0, v1, v2⟩ | assumption)
      (first
        | (go_at_call 56; refine C.out.mono ?_; rintro e w3 ⟨rfl, h3⟩; have v0 := (h3.cell (p := ⟨u, 0, none⟩) HX0.out).trans (show w2.drew.cell? _ = _ from x0); have v1 := (h3.cell (p := ⟨q, o + k * 4 + 1, none⟩) HQQ.out).trans (show w2.drew.cell? _ = _ from c1); have v2 := (h3.cell (p := ⟨q, o + k * 4 + 2, none⟩) HQQ.out).trans (show w2.drew.cell? _ = _ from c2)))
    have HB3 := Lib.hid (HB2.out.trans (below_of_drew ((show Below w2.heap.size w2.drew w3 from h3).mono HB2.out.size)))
    clear h3
    go_wp2
    go_ret2
    exact ⟨by rw [HOK.out, ← HKK.out]; rfl, HB3.out⟩
  · have hkn : k = n := by omega
    have HLT : ¬ (k : Int) < (n : Int) := by omega
    have HOK : Hid (findOk ds key = false) := by
      show _ = _
      unfold findOk
      rw [← HKK.out, List.getElem?_eq_none (by rw [HDS.out]; simp; have := HN.out; omega)]
    have hlt' : decide ((k : Int) < (n : Int)) = false := by simp; omega
    have hltn : decide (k < n) = false := by simp; omega
    clear hkn hlt
    have x0 := X0.out.1
    go_upto_region 2 with fail
    go_quiet (fail)
    go_wp2
    go_ret2
    exact ⟨by rw [HOK.out, ← HKK.out]; rfl, below_drewN HB2.out _⟩
end Go.Proofs.Ytninjoepdchmiaa
