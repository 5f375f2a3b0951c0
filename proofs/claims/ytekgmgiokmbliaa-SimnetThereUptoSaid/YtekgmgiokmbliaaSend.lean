/-
  The contract of Send.
-/
import Derived.Test.YtekgmgiokmbliaaNet
set_option linter.unusedVariables false
namespace Go.Proofs.Ytekgmgiokmbliaa
open Go.RowKit

set_option maxRecDepth 100000 in
theorem node_any (n : Int) (w : World) : Calls Try.prog 31 #[.int .i64 n] w fun e w' => e = .returned (.bool (isNodeB n)) ∧ w = w' := by
  unfold isNodeB
  by_cases h0 : 1 ≤ n
  · go_enter Try.func31, Try.ntmps31
    go_wp2
    go_ret
    simp [h0]
  · rw [decide_eq_false (by omega)]
    go_enter Try.func31, Try.ntmps31
    go_wp2
    go_ret
    simp

set_option maxHeartbeats 1600000 in
set_option maxRecDepth 100000 in
theorem send_full (g base : Nat) (last : Int) (fv : Value) (es : List Ev) (i f t k : Int) (A : Option Addr) (n c : Nat) (w : World) (hN : Net w g base last fv es) (hf : isNodeB f = true) (ht : isNodeB t = true) (hk1 : 1 ≤ k) (hk2 : k ≤ 255) (hn : n ≤ 1048576) (hes : 1000 ≤ es.length) :
    Calls Try.prog 11 #[.pointer (some ⟨g, 0, none⟩), .agg #[.int .i64 i, .int .i64 f, .int .i64 t, .int .i64 k, .slice A n c]] w fun e w' => e = .returned (.tuple #[.int .i64 0, .int .i64 90]) ∧ Below w.heap.size w w' := by
  have hb := below1' w (.cells #[.int .i64 i, .int .i64 f, .int .i64 t, .int .i64 k, .slice A n c] 32)
  obtain ⟨fA, fc, rfl⟩ := hN.own.form
  have k1 := (hN.c1.keep hb).1
  have NF := Lib.hid (node_any f)
  have NT := Lib.hid (node_any t)
  rw [hf] at NF
  rw [ht] at NT
  obtain ⟨m, hm⟩ : ∃ m, m = es.length := ⟨_, rfl⟩
  rw [← hm] at k1 hes
  have hg := hN.c0.lt
  clear hf ht hm hN
  go_enter Try.func11, Try.ntmps11
  go_wp2_with fail
  refine (NF.out _).mono ?_
  rintro e w1 ⟨rfl, rfl⟩
  go_wp2_with fail
  refine (NT.out _).mono ?_
  rintro e w1 ⟨rfl, rfl⟩
  go_wp2
  go_ret2
  exact ⟨rfl, hb⟩

set_option maxHeartbeats 3200000 in
set_option maxRecDepth 100000 in
theorem send_ok (g base : Nat) (last : Int) (fv : Value) (es : List Ev) (i f t k : Int) (A : Option Addr) (n c : Nat) (l : List UInt8) (w : World) (hN : Net w g base last fv es) (hf : isNodeB f = true) (ht : isNodeB t = true) (hk1 : 1 ≤ k) (hk2 : k ≤ 255) (hn : n = l.length) (hn2 : n ≤ 1048576) (hr : Rd w w.heap.size A l) (hA : A = none → c = 0) (hAg : ∀ q o, A = some ⟨q, o, none⟩ → l ≠ [] → q ≠ g ∧ some q ≠ fv.ownBlock) (hes : es.length < 1000) (hl1 : 0 ≤ last) (hl2 : last < 4611686018427387904) :
    Calls Try.prog 11 #[.pointer (some ⟨g, 0, none⟩), .agg #[.int .i64 i, .int .i64 f, .int .i64 t, .int .i64 k, .slice A n c]] w fun e w' => ∃ v fv', e = .returned (.tuple #[.int .i64 (last + 1), .int .i64 0]) ∧ Net w' g base (last + 1) fv' (es ++ [(last + 1, f, t, k, v)]) ∧ Own w' w.heap.size v l ∧ (∀ b, v.ownBlock = some b → fv'.ownBlock ≠ some b) ∧ Two g fv.ownBlock w w' ∧ (fv'.ownBlock = fv.ownBlock ∨ ∀ r, fv'.ownBlock = some r → w.heap.size ≤ r) := by
  have hb := below1' w (.cells #[.int .i64 i, .int .i64 f, .int .i64 t, .int .i64 k, .slice A n c] 32)
  have B := fun (j : Nat) (x : Value) (h : (#[.int .i64 i, .int .i64 f, .int .i64 t, .int .i64 k, .slice A n c] : Array Value)[j]? = some x) => Cell.new w #[.int .i64 i, .int .i64 f, .int .i64 t, .int .i64 k, .slice A n c] 32 j x h
  have B0 := B 0 _ rfl
  have B1 := B 1 _ rfl
  have B2 := B 2 _ rfl
  have B3 := B 3 _ rfl
  have B4 := B 4 _ rfl
  have hgw := hN.c0.lt
  have K0 := hN.c0.keep hb
  have K1 := hN.c1.keep hb
  have OF := hN.own.below hb
  have NF := Lib.hid (node_any f)
  have NT := Lib.hid (node_any t)
  rw [hf] at NF
  rw [ht] at NT
  have CL := Lib.hid (fun w hr => clone_any (last + 1) f t k A n c l w hn hr (by omega) hA)
  obtain ⟨fA, fc, rfl⟩ := hN.own.form
  have hap := hN.apart
  have hgb := hN.gb
  have hrow : ∀ r, (Value.slice fA es.length fc).ownBlock = some r → base ≤ r ∧ r < w.heap.size := fun r hr => World.ownsRow.lt hN.own r hr
  have hsum : IntKind.i64.wrap (last + 1) = last + 1 := IntWalk.i64_in _ (by omega)
  have HK0 := Lib.hid K0
  have HK1 := Lib.hid K1
  have HB0 := Lib.hid B0
  have HB1 := Lib.hid B1
  have HB2 := Lib.hid B2
  have HB3 := Lib.hid B3
  have HB4 := Lib.hid B4
  obtain ⟨k0, g0⟩ := K0
  obtain ⟨k1, g1⟩ := K1
  obtain ⟨b0, f0⟩ := B0
  obtain ⟨b1, f1⟩ := B1
  obtain ⟨b2, f2⟩ := B2
  obtain ⟨b3, f3⟩ := B3
  obtain ⟨b4, f4⟩ := B4
  obtain ⟨m, hm⟩ : ∃ m, m = es.length := ⟨_, rfl⟩
  rw [← hm] at k1 hes
  replace HK1 := HK1.out
  rw [← hm] at HK1
  replace HK1 := Lib.hid HK1
  rw [← hm] at OF hap hrow hAg
  rw [← hm]
  have hmh := Lib.hid hm
  have hrh := Lib.hid hr
  have hnh := Lib.hid hn
  have OFh := Lib.hid OF
  clear hf ht hm hN B hr hn hA OF
  go_enter Try.func11, Try.ntmps11
  go_wp2_with fail
  refine (NF.out _).mono ?_
  rintro e w1 ⟨rfl, rfl⟩
  obtain ⟨W, hW⟩ : ∃ W, W = w.alloc (.cells #[.int .i64 i, .int .i64 f, .int .i64 t, .int .i64 k, .slice A n c] 32) := ⟨_, rfl⟩
  have hWs : W.heap.size = w.heap.size + 1 := by rw [hW]; simp
  rw [← hW] at HK0 HK1 HB0 HB1 HB2 HB3 HB4 k0 k1 b0 b1 b2 b3 b4 f0 f1 f2 f3 f4 g0 g1 hb OFh
  rw [← hW]
  clear hW
  go_wp2_with fail
  refine (NT.out _).mono ?_
  rintro e w1 ⟨rfl, rfl⟩
  go_wp2_with fail
  have X0 := (HK0.out.set (.int .i64 (last + 1))).far (p := ⟨w.heap.size, 0, none⟩) (by intro h; injection h with h; omega) (.int .i64 (last + 1))
  have X1 := (HK1.out.far (p := ⟨g, 0, none⟩) (by simp) (.int .i64 (last + 1))).far (p := ⟨w.heap.size, 0, none⟩) (by intro h; injection h with h; omega) (.int .i64 (last + 1))
  have Y0 := (HB0.out.far (p := ⟨g, 0, none⟩) (by intro h; injection h with h; omega) (.int .i64 (last + 1))).set (.int .i64 (last + 1))
  have Y1 := (HB1.out.far (p := ⟨g, 0, none⟩) (by intro h; injection h with h; omega) (.int .i64 (last + 1))).far (p := ⟨w.heap.size, 0, none⟩) (by simp) (.int .i64 (last + 1))
  have Y2 := (HB2.out.far (p := ⟨g, 0, none⟩) (by intro h; injection h with h; omega) (.int .i64 (last + 1))).far (p := ⟨w.heap.size, 0, none⟩) (by simp) (.int .i64 (last + 1))
  have Y3 := (HB3.out.far (p := ⟨g, 0, none⟩) (by intro h; injection h with h; omega) (.int .i64 (last + 1))).far (p := ⟨w.heap.size, 0, none⟩) (by simp) (.int .i64 (last + 1))
  have Y4 := (HB4.out.far (p := ⟨g, 0, none⟩) (by intro h; injection h with h; omega) (.int .i64 (last + 1))).far (p := ⟨w.heap.size, 0, none⟩) (by simp) (.int .i64 (last + 1))
  have OX := (OFh.out.far (p := ⟨g, 0, none⟩) hap (.int .i64 (last + 1))).far (p := ⟨w.heap.size, 0, none⟩) (fun h => Nat.lt_irrefl _ (hrow _ h).2) (.int .i64 (last + 1))
  have T0 : Two g (Value.slice fA m fc).ownBlock w ((W.setCell ⟨g, 0, none⟩ (.int .i64 (last + 1))).setCell ⟨w.heap.size, 0, none⟩ (.int .i64 (last + 1))) := ((Two.of_below hb).setg 0 _).setn w.heap.size 0 (Nat.le_refl _) _
  have hXs : ((W.setCell ⟨g, 0, none⟩ (.int .i64 (last + 1))).setCell ⟨w.heap.size, 0, none⟩ (.int .i64 (last + 1))).heap.size = w.heap.size + 1 := by simp [World.setCell]; exact hWs
  obtain ⟨X, hX⟩ : ∃ X, X = (W.setCell ⟨g, 0, none⟩ (.int .i64 (last + 1))).setCell ⟨w.heap.size, 0, none⟩ (.int .i64 (last + 1)) := ⟨_, rfl⟩
  rw [← hX] at X0 X1 Y0 Y1 Y2 Y3 Y4 OX T0 hXs
  rw [← hX]
  clear hX k0 k1 b0 b1 b2 b3 b4 f0 f1 f2 f3 f4 g0 g1 HK0 HK1 HB0 HB1 HB2 HB3 HB4 OFh hb NF NT hWs
  have x1 := X1.1
  have y0 := Y0.1
  have y1 := Y1.1
  have y2 := Y2.1
  have y3 := Y3.1
  have y4 := Y4.1
  have RX : Rd X X.heap.size A l := (hrh.out.two (Nat.le_refl _) T0 hAg).more (by omega)
  replace OX := Lib.hid OX
  have hesl : es.length < 1000 := by have := hmh.out; omega
  have hbX : base ≤ X.heap.size := by omega
  go_region_law (first
    | (refine step_app_ev _ base (.slice fA m fc) es (last + 1, f, t, k, .slice vA n vc) rfl (.tmp 54) (.tmp 57) rfl rfl rfl OF2.out rfl hesl hb2 ?_; intro gq cap w3 of3 hg3 hl3 hlt3; have Z0 := (Z0.alloc (.cells #[.int .i64 (last + 1), .int .i64 f, .int .i64 t, .int .i64 k, .slice vA n vc] 32)).grown hg3 (Ne.symm hap); have Z1 := (Z1.alloc (.cells #[.int .i64 (last + 1), .int .i64 f, .int .i64 t, .int .i64 k, .slice vA n vc] 32)).grown hg3 (Ne.symm hap); have z1 := Z1.1; have u1 := Z1.2)
    | (go_simp; go_at_call 32; refine (CL.out X.drew RX).mono ?_; rintro e w2 ⟨v, rfl, ov, h2⟩; have h2 := below_of_drew h2; obtain ⟨vA, vc, hv, _⟩ := ov.rd; rw [← hnh.out] at hv; subst hv; have Z0 := X0.keep h2; have Z1 := X1.keep h2; have OF2 := Lib.hid (OX.out.below h2); have T2 := T0.then (h2.mono T0.size); have hb2 := Nat.le_trans hbX h2.size; have x1 := Z1.1; have hgw2 := Z1.lt; have xa := (Z1.alloc (.cells #[.int .i64 (last + 1), .int .i64 f, .int .i64 t, .int .i64 k, .slice vA n vc] 32)).1))
  all_goals
    have zf := Z0.far (p := ⟨g, 1, none⟩) (by simp) (.slice (some ⟨gq, 0, none⟩) (es.length + 1) cap)
    have zs := Z1.set (.slice (some ⟨gq, 0, none⟩) (es.length + 1) cap)
    have hgq : gq ≠ g := by
      rcases hl3 with h | h
      · intro e
        rw [e] at h
        exact hap h
      · omega
    have of4 := of3.far (p := ⟨g, 1, none⟩) (by intro h; injection h with h; exact hgq h) (.slice (some ⟨gq, 0, none⟩) (es.length + 1) cap)
    have hbt := below1' w2 (.cells #[.int .i64 (last + 1), .int .i64 f, .int .i64 t, .int .i64 k, .slice vA n vc] 32)
    have ov2 := (((ov.belowFar hbt).grownFar hg3 (fun r hr => by have := (hrow r hr).2; show r < X.heap.size; omega)).setFar (p := ⟨g, 1, none⟩) (by show g < X.heap.size; omega) (.slice (some ⟨gq, 0, none⟩) (es.length + 1) cap)).mono (b' := w.heap.size) (by show _ ≤ X.heap.size; omega)
    have hva : ∀ b, (Value.slice vA n vc).ownBlock = some b → (Value.slice (some ⟨gq, 0, none⟩) (es.length + 1) cap).ownBlock ≠ some b := by
      intro b hb' he
      injection he with he
      have he : gq = b := he
      obtain ⟨hv1, hv2⟩ := World.ownsRow.lt ov b hb'
      have hv1 : X.heap.size ≤ b := hv1
      rcases hl3 with h | h
      · have := (hrow gq h).2
        omega
      · omega
    have T4 := ((T2.then (hbt.mono T2.size)).grown hg3).setg 1 (.slice (some ⟨gq, 0, none⟩) (es.length + 1) cap)
    have hlies : (Value.slice (some ⟨gq, 0, none⟩) (es.length + 1) cap).ownBlock = (Value.slice fA m fc).ownBlock ∨ ∀ r, (Value.slice (some ⟨gq, 0, none⟩) (es.length + 1) cap).ownBlock = some r → w.heap.size ≤ r := by
      rcases hl3 with h | h
      · exact .inl h.symm
      · refine .inr (fun r hr => ?_)
        injection hr with hr
        have hr : gq = r := hr
        have := h2.size
        have : X.heap.size ≤ w2.heap.size := this
        omega
    replace hlies := Lib.hid hlies
    replace zs := Lib.hid zs
    have y := zf.1
    go_wp2
    go_ret2
    exact ⟨rfl, .slice vA n vc, .slice (some ⟨gq, 0, none⟩) (es.length + 1) cap, ⟨zf, zs.out, of4, hgb, by intro h; injection h with h; exact hgq h⟩, ov2, hva, T4, hlies.out⟩
end Go.Proofs.Ytekgmgiokmbliaa
