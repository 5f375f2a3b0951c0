/-
  cut: the parts of a span that ranges have.
-/
import Derived.Test.YtninjoepdchmiaaPlaceC
import Derived.Test.YtninjoepdchmiaaFindR
import Derived.Deep.RegionLaw
set_option linter.unusedVariables false
namespace Go.Proofs.Ytninjoepdchmiaa
open Go.RowKit

set_option maxHeartbeats 1600000 in
set_option maxRecDepth 100000 in
theorem cut1_any (x : RV) (kb : Nat) (K : Option Addr) (nk kc : Nat) (key : List UInt8) (w : World) (hx : RTx w w.heap.size x) (hk : w.cell? ⟨kb, 0, none⟩ = some (.slice K nk kc)) (hs : Src w K nk kc key) :
    Calls Try.prog 80 #[rval x, .pointer (some ⟨kb, 0, none⟩)] w fun e w' => e = .returned (.bool (ebB x.d.to key)) ∧ Below w.heap.size w w' := by
  obtain ⟨⟨id, gen, fr, en⟩, F, fc, T, tc⟩ := x
  simp only [rval]
  have hb := below1' w (.cells #[.int .i64 id, .slice F fr.length fc, .slice T en.length tc, .int .i64 gen] 46)
  have C := Lib.hid (ends_any F T K fr.length fc en.length tc nk kc en key _ rfl hs.1.1 (hx.t.keep' hb) (hs.2.keep' hb) (len_max hx.lt) (len_max (by rw [hs.1.1]; exact hs.1.2.2)))
  have hk2 := (hb.cell (p := ⟨kb, 0, none⟩) (World.block_lt_of_cell? _ _ hk)).trans hk
  obtain ⟨b, hb'⟩ : ∃ b, b = ebB en key := ⟨_, rfl⟩
  rw [← hb'] at C
  rw [← hb']
  clear hb' hx hs
  go_enter Try.func80, Try.ntmps80
  go_wp2_with fail
  refine C.out.mono ?_
  rintro e w2 ⟨rfl, h2⟩
  have HB := Lib.hid (hb.trans (h2.mono hb.size))
  clear h2 C hb
  go_wp2
  go_ret
  exact ⟨rfl, HB.out⟩

/-- a part of a span, and where its ends lie -/
structure PV where
  r : RV
  f : List UInt8
  t : List UInt8
  G : Option Addr
  gc : Nat
  U : Option Addr
  uc : Nat
def pc (x : PV) : List Value := rc x.r ++ [.slice x.G x.f.length x.gc, .slice x.U x.t.length x.uc]
structure PD where
  r : RD
  f : List UInt8
  t : List UInt8
def PV.d (x : PV) : PD := ⟨x.r.d, x.f, x.t⟩
/-- the parts of a span -/
def cutD (ds : List RD) (g u : List UInt8) : List PD := if emB g u then [] else ((ds.drop (findK ds g)).takeWhile fun r => ebB u r.fr).map fun r => ⟨r, shF r.fr g, shT r.to u⟩
structure PTs (w : World) (M : Nat → Prop) (x : PV) : Prop where
  r : RTs w M x.r
  f : TxA w M x.G x.f
  t : TxA w M x.U x.t
theorem PTs.app {w w' : World} {v : Value} {x : PV} {gq n cap : Nat} (h : PTs w (ownB v) x) (hg : w.grownBy w' v.ownBlock) (hv : v.ownBlock = some gq ∨ w.heap.size ≤ gq) : PTs w' (ownB (.slice (some ⟨gq, 0, none⟩) n cap)) x := ⟨h.r.app hg hv, h.f.app hg hv, h.t.app hg hv⟩
theorem PTs.keep {M : Nat → Prop} {w w' : World} {x : PV} (h : PTs w M x) (hb : Below w.heap.size w w') : PTs w' M x := ⟨h.r.keep hb, (Turn.of_below (M := fun _ => False) hb).tx h.f (fun _ _ h => h.elim), (Turn.of_below (M := fun _ => False) hb).tx h.t (fun _ _ h => h.elim)⟩
theorem infoP : (Try.prog.info? 59).map (fun i => (i.zero, i.size, i.bytes)) = some (some (.agg #[.int .i64 0, .slice none 0 0, .slice none 0 0, .int .i64 0, .slice none 0 0, .slice none 0 0]), 6, 112) := by kernel_rfl
def PRow (w : World) (base : Nat) (v : Value) (L : List PV) : Prop := GRow 59 6 w base v (L.map pc)
theorem PRow.at {w : World} {base n c : Nat} {A : Option Addr} {L : List PV} (h : PRow w base (.slice A n c) L) {k : Nat} (hk : k < L.length) : ∃ q, A = some ⟨q, 0, none⟩ ∧ base ≤ q ∧ q < w.heap.size ∧ ∀ j, j < 6 → ∀ u, (pc L[k])[j]? = some u → Cell w q (k * 6 + j) u := by
  obtain ⟨q, hA, hb, hq, hc⟩ := GRow.cell (k := k) h (by simpa using hk)
  have e : (L.map pc)[k]'(by simpa using hk) = pc L[k] := by simp
  rw [e] at hc
  exact ⟨q, hA, hb, hq, hc⟩
theorem PRow.len {w : World} {base n c : Nat} {A : Option Addr} {L : List PV} (h : PRow w base (.slice A n c) L) : n = L.length := by
  obtain ⟨A', c', e, _⟩ := GRow.form h
  obtain ⟨e1, e2, e3⟩ := Value.slice.inj e
  rw [e2]; simp

theorem tw_stop {α : Type} {p : α → Bool} : ∀ {l : List α} {i : Nat}, (∀ j (h : j < l.length), j < i → p l[j] = true) → (∀ h : i < l.length, p l[i] = false) → l.takeWhile p = l.take i
  | [], i, _, _ => by simp
  | a :: l, 0, _, h2 => by
    have := h2 (by simp)
    simp only [List.getElem_cons_zero] at this
    simp [List.takeWhile, this]
  | a :: l, i + 1, h1, h2 => by
    have h0 := h1 0 (by simp) (by omega)
    simp only [List.getElem_cons_zero] at h0
    have := tw_stop (p := p) (l := l) (i := i) (fun j h hj => by have := h1 (j + 1) (by simp; omega) (by omega); simpa using this) (fun h => by have := h2 (by simp; omega); simpa using this)
    simp [List.takeWhile, h0, this]
def partOf (g u : List UInt8) (r : RD) : PD := ⟨r, shF r.fr g, shT r.to u⟩
theorem parts_stop {D : List RV} {g u : List UInt8} {i : Nat} {L' : List PV} (hL : L'.map PV.d = ((D.take i).map (·.d)).map (partOf g u)) (hp : ∀ j (h : j < D.length), j < i → ebB u D[j].d.fr = true) (he : ∀ h : i < D.length, ebB u D[i].d.fr = false) :
    L'.map PV.d = ((D.map (·.d)).takeWhile fun r => ebB u r.fr).map fun r => ⟨r, shF r.fr g, shT r.to u⟩ := by
  rw [tw_stop (i := i) (fun j h hj => by simp at h; simpa using hp j h hj) (fun h => by simp at h; simpa using he h), hL, List.map_take]
  rfl
/-- l[k:] of ranges -/
theorem cutr_run {W : World} {B : Nat} {A : Option Addr} {L : List RV} {n c k : Nat} (hn : n = L.length) (hr : RsRd W B A L) (hk : k ≤ n) (hc : n ≤ c) :
    ∃ A', (∀ W' : World, (Instr.slice 22 (.slice A n c) (some (.int .i64 (k : Int))) none none).run Try.prog W' = .ok (.slice A' (n - k) (c - k)) W') ∧ RsRd W B A' (L.drop k) := by
  obtain ⟨i0, hi0, hz0, hz1, hz2⟩ := info_parts infoR
  have hu : Try.prog.underlying 22 = some (.slice (Try.prog.elem 22)) := by simp [Program.elem, Try.underlying22]
  have hel : Try.prog.elem 22 = 46 := by simp [Program.elem, Try.underlying22]
  refine ⟨if c = k then A else A.map (·.add (k * 4)), fun W' => ?_, ?_⟩
  · rw [run_slice_l W' 22 A n c hu .i64 (k : Int) (by omega) (by omega), hel]
    have hs : (Go.sizeOf 46).run Try.prog W' = .ok 4 W' := by simp [Go.sizeOf, typeInfo, hi0, hz1]
    rw [hs]
    simp [sliced, Result.andThen]
  · by_cases h0 : k = n
    · exact .inl (by rw [h0, hn]; simp)
    · rcases hr with hr | ⟨q, o, rfl, hq, hcell⟩
      · rw [hr] at hn; simp at hn; omega
      · rw [if_neg (by omega)]
        refine .inr ⟨q, o + k * 4, by simp [add_at], hq, fun i hi => ?_⟩
        have hi' : k + i < L.length := by simp at hi; omega
        have := hcell (k + i) hi'
        rw [List.getElem_drop]
        rw [show o + k * 4 + i * 4 = o + (k + i) * 4 by omega]
        exact this

set_option maxHeartbeats 6400000 in
set_option maxRecDepth 100000 in
theorem cut_any (L : List RV) (A : Option Addr) (n c : Nat) (G U : Option Addr) (ng gc nu uc : Nat) (g u : List UInt8) (w : World) (hn : n = L.length) (hr : RsRd w w.heap.size A L) (hl : n ≤ 1000000) (hc : n ≤ c) (hm : Mono (L.map (·.d))) (hg : Src w G ng gc g) (hu : Src w U nu uc u) :
    Calls Try.prog 62 #[.slice A n c, .agg #[.slice G ng gc, .slice U nu uc]] w fun e w' => (∃ A' n' c', e = .returned (.slice A' n' c') ∧ ∃ L', L'.map PV.d = cutD (L.map (·.d)) g u ∧ PRow w' w.heap.size (.slice A' n' c') L' ∧ ∀ x ∈ L', PTs w' (ownB (.slice A' n' c')) x) ∧ Below w.heap.size w w' := by
  have hb := below1' w (.cells #[.slice G ng gc, .slice U nu uc] 39)
  have B0 := Cell.new w #[.slice G ng gc, .slice U nu uc] 39 0 _ rfl
  have B1 := Cell.new w #[.slice G ng gc, .slice U nu uc] 39 1 _ rfl
  have E := Lib.hid (empty_any G U ng gc nu uc g u _ hg.1.1 hu.1.1 (hg.2.keep' hb) (hu.2.keep' hb) (len_max (by rw [hg.1.1]; exact hg.1.2.2)) (len_max (by rw [hu.1.1]; exact hu.1.2.2)))
  have P := Lib.hid (fun (w1 : World) (h1 : Below (w.alloc (.cells #[.slice G ng gc, .slice U nu uc] 39)).heap.size (w.alloc (.cells #[.slice G ng gc, .slice U nu uc] 39)) w1) =>
    placeC (.pointer (some ⟨w.heap.size, 0, none⟩)) L A n c (fun k => match (L.map (·.d))[k]? with | some r => ebB r.to g | none => true) w1 hn ((hr.keep hb).keep h1) (by omega)
    (fun w' k x hw hx => by
      have h := cut1_any x w.heap.size G ng gc g w' (by
        rcases ((hr.keep hb).keep h1).keep hw with h0 | ⟨q, o, _, _, hc⟩
        · rw [h0] at hx; simp at hx
        · have hk : k < L.length := by
            rcases Nat.lt_or_ge k L.length with h | h
            · exact h
            · rw [List.getElem?_eq_none h] at hx; cases hx
          have := (hc k hk).2.2.2.2
          rw [List.getElem?_eq_getElem hk] at hx
          injection hx with hx
          rw [← hx]; exact this) (((B0.keep h1).keep hw).1) (((hg.keep hb).keep h1).keep hw)
      have e : (L.map (·.d))[k]? = some x.d := by rw [List.getElem?_map, hx]; rfl
      simp only [e]
      exact h)
    (fun i j hij hj hp => by
      have hi' : i < (L.map (·.d)).length := by simp; omega
      have hj' : j < (L.map (·.d)).length := by simp; omega
      rw [List.getElem?_eq_getElem hi'] at hp
      rw [List.getElem?_eq_getElem hj']
      exact hm g i j hi' hj' hij hp))
  have HK := Lib.hid (fun (k : Nat) (h1 : k ≤ n) (h2 : ∀ j, j < k → (match (L.map (·.d))[j]? with | some r => ebB r.to g | none => true) = false) (h3 : ∀ j, k ≤ j → j < n → (match (L.map (·.d))[j]? with | some r => ebB r.to g | none => true) = true) =>
    findK_of (ds := L.map (·.d)) (key := g) (k := k) (by simp; omega) (fun j hj hjk => by have := h2 j hjk; rw [List.getElem?_eq_getElem hj] at this; exact this) (fun j hj hjk => by have := h3 j hjk (by simp at hj; omega); rw [List.getElem?_eq_getElem hj] at this; exact this))
  have HR := Lib.hid hr
  have HG := Lib.hid hg
  have HUU := Lib.hid hu
  have HN := Lib.hid hn
  have HCC := Lib.hid hc
  obtain ⟨em, hem⟩ : ∃ x, x = emB g u := ⟨_, rfl⟩
  rw [← hem] at E
  have HEM := Lib.hid hem
  obtain ⟨b, hbb⟩ : ∃ u, u = w.heap.size := ⟨_, rfl⟩
  rw [← hbb] at P B0 B1
  clear hr hg hu hn hm hc hem
  go_enter Try.func62, Try.ntmps62
  go_wp2_with fail
  rw [← hbb]
  refine E.out.mono ?_
  rintro e w2 ⟨rfl, h2⟩
  have HBB := Lib.hid hbb
  have HB2 := Lib.hid (hb.trans (h2.mono hb.size))
  have X0 := Lib.hid (B0.keep h2)
  have X1 := Lib.hid (B1.keep h2)
  have P2 := Lib.hid (P.out w2 h2)
  clear h2 hb B0 B1 E P hbb
  cases em with
  | true =>
    go_wp2
    go_ret
    refine ⟨⟨none, 0, 0, rfl, [], ?_, GRow.nil_ _ _ _ _, fun x h => nomatch h⟩, HB2.out⟩
    unfold cutD
    rw [if_pos HEM.out.symm]
    rfl
  | false =>
    go_wp2_with fail
    refine P2.out.mono ?_
    rintro e w3 ⟨⟨k, rfl, h1, h3, h4⟩, h5⟩
    have HB3 := Lib.hid (HB2.out.trans (h5.mono HB2.out.size))
    have HKK := Lib.hid (HK.out k h1 h3 h4)
    have Y0 := Lib.hid (X0.out.keep h5)
    have Y1 := Lib.hid (X1.out.keep h5)
    obtain ⟨A2, hrun, hrd⟩ := cutr_run (k := k) HN.out (HR.out.keep HB3.out) h1 HCC.out
    obtain ⟨m, hm⟩ : ∃ m, m = n - k := ⟨_, rfl⟩
    rw [← hm] at hrun
    obtain ⟨D, hD⟩ : ∃ D, D = L.drop k := ⟨_, rfl⟩
    rw [← hD] at hrd
    have HRD := Lib.hid hrd
    have HML : Hid (m = D.length) := by show _ = _; rw [hm, hD, List.length_drop, HN.out]
    have HCT : Hid (cutD (L.map (·.d)) g u = ((D.map (·.d)).takeWhile fun r => ebB u r.fr).map fun r => ⟨r, shF r.fr g, shT r.to u⟩) := by
      show _ = _
      unfold cutD
      rw [← HEM.out, if_neg (by simp), ← HKK.out, hD, List.map_drop]
    have hml : m ≤ 1000000 := by omega
    clear h3 h4 h5 hrd hD X0 X1 P2 HK hm
    go_wp2
    go_loopw [5, 16] (fun s5 s16 wr => ∃ (i : Nat) (A' : Option Addr) (c' : Nat), s16 = .int .i64 i ∧ i ≤ m ∧ s5 = .slice A' i c' ∧ Hid (∃ L' : List PV, L'.map PV.d = ((D.take i).map (·.d)).map (partOf g u) ∧ PRow wr w3.heap.size (.slice A' i c') L' ∧ ∀ x ∈ L', PTs wr (ownB (.slice A' i c')) x) ∧ Hid (∀ j (h : j < D.length), j < i → ebB u D[j].d.fr = true) ∧ Below w3.heap.size w3 wr) (fun _ s16 _ => m - (intOf s16).toNat)
    case atStart => exact ⟨0, none, 0, rfl, Nat.zero_le _, rfl, ⟨[], rfl, GRow.nil_ _ _ _ _, fun x h => nomatch h⟩, (fun j _ h => absurd h (Nat.not_lt_zero _)), Below.refl _ _⟩
    case round =>
      obtain ⟨i, A', c', rfl, hi, rfl, HI, HW, hbr⟩ := hrel
      have HBR := Lib.hid (HB3.out.trans (hbr.mono HB3.out.size))
      by_cases hlt : i < m
      · have hkl : i < D.length := by have := HML.out; omega
        rcases HRD.out with h0 | ⟨q, o, hA, hq, hcell⟩
        · rw [h0] at hkl; simp at hkl
        rw [hA]
        obtain ⟨q0, q1, q2, q3, htx⟩ := hcell i hkl
        have HTK := Lib.hid (List.take_succ_eq_append_getElem hkl)
        have HST := Lib.hid (fun (L' : List PV) (h1 : L'.map PV.d = ((D.take i).map (·.d)).map (partOf g u)) (h2 : ebB u D[i].d.fr = false) => parts_stop h1 HW.out (fun _ => h2))
        have HWN := Lib.hid (fun (h2 : ebB u D[i].d.fr = true) => (show ∀ j (h : j < D.length), j < i + 1 → ebB u D[j].d.fr = true from fun j h hj => by
          by_cases he : j = i
          · subst he; exact h2
          · exact HW.out j h (by omega)))
        obtain ⟨x, hx⟩ : ∃ x, x = D[i] := ⟨_, rfl⟩
        replace HTK := HTK.out
        replace HST := HST.out
        replace HWN := HWN.out
        rw [← hx] at q0 q1 q2 q3 htx HTK HST HWN
        replace HTK := Lib.hid HTK
        replace HST := Lib.hid HST
        replace HWN := Lib.hid HWN
        have d0 := (hbr.cell (p := ⟨q, o + i * 4, none⟩) hq).trans q0
        have d1 := (hbr.cell (p := ⟨q, o + i * 4 + 1, none⟩) hq).trans q1
        have d2 := (hbr.cell (p := ⟨q, o + i * 4 + 2, none⟩) hq).trans q2
        have d3 := (hbr.cell (p := ⟨q, o + i * 4 + 3, none⟩) hq).trans q3
        obtain ⟨W, hW⟩ : ∃ W, W = wr.alloc (.cells #[.int .i64 x.d.id, .slice x.F x.d.fr.length x.fc, .slice x.T x.d.to.length x.tc, .int .i64 x.d.gen] 46) := ⟨_, rfl⟩
        have hbx : Below wr.heap.size wr W := by rw [hW]; exact below1' _ _
        have HBX := Lib.hid (Box4.new wr x)
        rw [← hW] at HBX
        have htx' := (htx.below hbr).more hbr.size
        have HTX := Lib.hid ((htx'.below hbx).more hbx.size)
        have HG4 := Lib.hid ((HG.out.keep HBR.out).keep hbx)
        have HU4 := Lib.hid ((HUU.out.keep HBR.out).keep hbx)
        have Z0 := Lib.hid ((Y0.out.keep hbr).keep hbx)
        have Z1 := Lib.hid ((Y1.out.keep hbr).keep hbx)
        have EN := Lib.hid (ends_any G U x.F ng gc nu uc x.d.fr.length x.fc u x.d.fr W HUU.out.1.1 rfl HU4.out.2 HTX.out.f (len_max (by rw [HUU.out.1.1]; exact HUU.out.1.2.2)) (len_max HTX.out.lf))
        obtain ⟨bb, hbb⟩ : ∃ y, y = ebB u x.d.fr := ⟨_, rfl⟩
        rw [← hbb] at EN
        replace HST := HST.out
        replace HWN := HWN.out
        rw [← hbb] at HST HWN
        replace HST := Lib.hid HST
        replace HWN := Lib.hid HWN
        obtain ⟨L', hL, hR, hT⟩ := HI.out
        have HIX := Lib.hid (And.intro hL (And.intro (GRow.keep hR hbx) (fun y hy => (hT y hy).keep hbx)))
        have HOW : Hid (∀ k', (Value.slice A' i c').ownBlock = some k' → w3.heap.size ≤ k' ∧ k' < W.heap.size) := fun k' h => ⟨(GRow.lt hR k' h).1, Nat.lt_of_lt_of_le (GRow.lt hR k' h).2 hbx.size⟩
        have HKL : Hid (i = L'.length) := hR.len
        have HBW := Lib.hid (hbr.trans (hbx.mono hbr.size))
        have hlt' : (i : Int) < (m : Int) := by omega
        have z0 := Z0.out.1
        have z1 := Z1.out.1
        have xb := HBX.out
        obtain ⟨xb0, xb1, xb2, xb3⟩ := xb
        have xx1 := xb1.1
        obtain ⟨e, he⟩ : ∃ e, e = wr.heap.size := ⟨_, rfl⟩
        rw [hW] at z0 z1
        clear hcell q0 q1 q2 q3 hx hA htx htx' hbx hL hR hT HI hbb hq xb0 xb1 xb2 xb3 xx1
        go_wp2_with fail
        rw [← hW]
        clear hW z0 z1
        refine EN.out.mono ?_
        rintro e4 w4 ⟨rfl, h4⟩
        have HB4 := Lib.hid (HBW.out.trans (h4.mono HBW.out.size))
        have HX4 := Lib.hid (HBX.out.keep h4)
        have HT4 := Lib.hid (And.intro (GRow.keep HIX.out.2.1 h4) (fun y hy => (HIX.out.2.2 y hy).keep h4))
        have HOW4 := Lib.hid (fun k' h => (⟨(HOW.out k' h).1, Nat.lt_of_lt_of_le (HOW.out k' h).2 h4.size⟩ : w3.heap.size ≤ k' ∧ k' < w4.heap.size))
        have HR4 := Lib.hid ((HTX.out.below h4).more h4.size)
        have HGx := Lib.hid (HG4.out.keep h4)
        have HUx := Lib.hid (HU4.out.keep h4)
        have V0 := Lib.hid (Z0.out.keep h4)
        have V1 := Lib.hid (Z1.out.keep h4)
        clear h4 EN HBX HOW HTX HG4 HU4 Z0 Z1 HBW d0 d1 d2 d3 hbr
        rw [← he]
        rw [← he] at HX4
        clear he
        have HB4w := Lib.hid (HB3.out.trans (HB4.out.mono HB3.out.size))
        cases bb with
        | false =>
          have HF := Lib.hid (HST.out L' HIX.out.1 rfl)
          go_wp2
          go_ret
          exact ⟨⟨A', i, c', rfl, L', by rw [HCT.out]; exact HF.out, GRow.lower HT4.out.1 HB3.out.size, HT4.out.2⟩, HB4w.out⟩
        | true =>
          have HTK2 := Lib.hid (HWN.out rfl)
          have CC := Lib.hid (fun (W' : World) (h : Below w4.heap.size w4 W') => clone_any x W' ((HR4.out.below h).more h.size))
          replace CC := CC.out
          simp only [rval] at CC
          replace CC := Lib.hid CC
          have CI := Lib.hid (fun (W' : World) (h : Below w4.heap.size w4 W') => inter_any x.F x.T G U _ _ _ _ _ _ _ _ x.d.fr x.d.to g u W' (HR4.out.sf.keep h) (HR4.out.st.keep h) (HGx.out.keep h) (HUx.out.keep h))
          have HXK := Lib.hid (fun (W' : World) (h : Below w4.heap.size w4 W') => (show (W'.cell? ⟨e, 0, none⟩ = some (.int .i64 x.d.id) ∧ W'.cell? ⟨e, 1, none⟩ = some (.slice x.F x.d.fr.length x.fc) ∧ W'.cell? ⟨e, 2, none⟩ = some (.slice x.T x.d.to.length x.tc) ∧ W'.cell? ⟨e, 3, none⟩ = some (.int .i64 x.d.gen)) ∧ W'.cell? ⟨b, 0, none⟩ = some (.slice G ng gc) ∧ W'.cell? ⟨b, 1, none⟩ = some (.slice U nu uc) from ⟨⟨(HX4.out.c0.keep h).1, (HX4.out.c1.keep h).1, (HX4.out.c2.keep h).1, (HX4.out.c3.keep h).1⟩, (V0.out.keep h).1, (V1.out.keep h).1⟩))
          obtain ⟨⟨k0, k1, k2, k3⟩, k4, k5⟩ := HXK.out w4 (Below.refl _ _)
          have hl5 : Hid ((i + 1) * 112 ≤ 140737488355328 ∧ i + 1 ≤ 9223372036854775807) := by show _ ∧ _; omega
          have hMo : Hid (∀ k, w4.heap.size ≤ k → ¬ ownB (.slice A' i c') k) := fun k h1 h2 => by have := (HOW4.out k h2).2; omega
          go_upto_region 8 with fail
          go_region_law (first
            | (refine step_app_grow wz w3.heap.size (.slice A' i c') i (L'.map pc) (pc ⟨y, shF x.d.fr g, shT x.d.to u, A1, c1, A2, c2⟩) #[.int .i64 y.d.id, .slice y.F y.d.fr.length y.fc, .slice y.T y.d.to.length y.tc, .int .i64 y.d.gen, .slice A1 (shF x.d.fr g).length c1, .slice A2 (shT x.d.to u).length c2] rfl 59 50 6 112 _ infoP Try.underlying50 rfl (by decide) rfl (.tmp 26) (.tmp 34) rfl rfl wz.heap.size rfl rfl GZ.out rfl (fun z hz => by simp only [pc, rc, List.cons_append, List.nil_append, List.mem_cons, List.not_mem_nil, or_false] at hz; rcases hz with rfl | rfl | rfl | rfl | rfl | rfl <;> rfl) (by rw [List.length_map]; exact HKL.out) hl5.out.1 hl5.out.2 BZ.out.size ?_; intro gq cap w8 o8 g8 l8; have O8 := Lib.hid (And.intro o8 (And.intro g8 l8)); clear o8 g8 l8)
            | (go_simp; go_at_call 81; refine (CI.out w5 h5.out).mono ?_; rintro e' wz ⟨⟨A1, n1, c1, A2, n2, c2, rfl, N1', N2'⟩, hz'⟩; obtain rfl := N1'.2.1; obtain rfl := N2'.2.1; have NZ := Lib.hid (And.intro hyd.out (And.intro (And.intro (n5.out.1.keep hz') (n5.out.2.keep hz')) (And.intro (N1'.lower h5.out.size) (N2'.lower h5.out.size)))); have hz := Lib.hid (h5.out.trans (hz'.mono h5.out.size)); have GZ := Lib.hid (GRow.keep HT4.out.1 hz.out); have BZ := Lib.hid (HB4.out.trans (hz.out.mono HB4.out.size)); clear N1' N2' hz' n5 hyd)
            | (go_simp; go_at_call 61; refine (CC.out w6 h6.out).mono ?_; rintro e' wz ⟨y, rfl, hyd', n5', hz'⟩; have NZ := Lib.hid (And.intro hyd' (And.intro (And.intro (n5'.1.lower h6.out.size) (n5'.2.lower h6.out.size)) (And.intro (N1.out.keep hz') (N2.out.keep hz')))); have hz := Lib.hid (h6.out.trans (hz'.mono h6.out.size)); have GZ := Lib.hid (GRow.keep HT4.out.1 hz.out); have BZ := Lib.hid (HB4.out.trans (hz.out.mono HB4.out.size)); clear hyd' n5' hz' N1 N2)
            | (go_simp; go_at_call 61; refine (CC.out w4.drew (below_drew (Below.refl _ _))).mono ?_; rintro e' w5 ⟨y, rfl, hyd', n5', h5'⟩; have h5 := Lib.hid (below_of_drew h5'); have hyd := Lib.hid hyd'; have n5 := Lib.hid (show NewR w5 w4.heap.size y from n5'); obtain ⟨⟨j0, j1, j2, j3⟩, j4, j5⟩ := HXK.out w5 h5.out; clear h5' hyd' n5')
            | (go_simp; go_at_call 81; refine (CI.out w4.drew (below_drew (Below.refl _ _))).mono ?_; rintro e' w6 ⟨⟨A1, n1, c1, A2, n2, c2, rfl, N1', N2'⟩, h6'⟩; obtain rfl := N1'.2.1; obtain rfl := N2'.2.1; have h6 := Lib.hid (below_of_drew h6'); have N1 := Lib.hid (show NewT w6 w4.heap.size A1 _ c1 _ from N1'); have N2 := Lib.hid (show NewT w6 w4.heap.size A2 _ c2 _ from N2'); obtain ⟨⟨j0, j1, j2, j3⟩, j4, j5⟩ := HXK.out w6 h6.out; clear h6' N1' N2'))
          all_goals
            have HBF := Lib.hid (BZ.out.trans (grown_belowR (B := w3.heap.size) O8.out.2.1 (fun z hz => (HOW4.out z hz).1) BZ.out.size))
            have HF : Hid (∃ L'' : List PV, L''.map PV.d = ((D.take (i + 1)).map (·.d)).map (partOf g u) ∧ PRow w8 w3.heap.size (.slice (some ⟨gq, 0, none⟩) (i + 1) cap) L'' ∧ ∀ z ∈ L'', PTs w8 (ownB (.slice (some ⟨gq, 0, none⟩) (i + 1) cap)) z) := by
              refine ⟨L' ++ [⟨y, shF x.d.fr g, shT x.d.to u, A1, c1, A2, c2⟩], ?_, ?_, fun z hz' => ?_⟩
              · rw [List.map_append, HIX.out.1, HTK.out, List.map_append, List.map_append]
                simp only [List.map_cons, List.map_nil, PV.d, partOf]
                rw [NZ.out.1]
              · unfold PRow
                rw [List.map_append]
                exact O8.out.1
              · rcases List.mem_append.1 hz' with hz' | hz'
                · exact ((HT4.out.2 z hz').keep hz.out).app O8.out.2.1 O8.out.2.2
                · rw [List.mem_singleton.1 hz']
                  have hY : RTs wz (ownB (.slice A' i c')) y := NewR.rts NZ.out.2.1 (by rw [NZ.out.1]; exact HR4.out.lf) (by rw [NZ.out.1]; exact HR4.out.lt) hMo.out
                  exact PTs.app ⟨hY, NZ.out.2.2.1.1.tx hMo.out, NZ.out.2.2.2.1.tx hMo.out⟩ O8.out.2.1 O8.out.2.2
            clear k0 k1 k2 k3 k4 k5 j0 j1 j2 j3 j4 j5
            go_wp2
            go_roundw
            case rel => exact ⟨i + 1, some ⟨gq, 0, none⟩, cap, by go_num, by omega, rfl, HF, HTK2, HBF.out⟩
            case measure => simp [intOf]; omega
      · have hkn : i = m := by omega
        subst hkn
        obtain ⟨L', hL, hR, hT⟩ := HI.out
        have HF := Lib.hid (parts_stop hL HW.out (fun h => by have := HML.out; omega))
        have HRT := Lib.hid (And.intro hR hT)
        clear hL hR hT HI
        go_wp2
        go_ret
        exact ⟨⟨A', i, c', rfl, L', by rw [HCT.out]; exact HF.out, GRow.lower HRT.out.1 HB3.out.size, HRT.out.2⟩, HBR.out⟩
end Go.Proofs.Ytninjoepdchmiaa
