/-
  numbers; the reference's Members, MemberBytes.
-/
import Derived.Test.YtekgmgiokmbliaaMsg
import Derived.Test.YtekgmgiokmbliaaRef
set_option linter.unusedVariables false
namespace Go.Proofs.Ytekgmgiokmbliaa
open Go.RowKit

theorem make_ints {ops : Array Oper} {rest : List Oper} {o : Oper} {a : Act} {Q : Exit → Act → World → Prop} (w : World) (n : Nat) (L C : Int) (hL : L = (n : Int)) (hC : C = (n : Int)) (hg : o.guard = none) (l c : Operand)
    (hop : o.op = Op.makeSlice 43 l c) (hl : a.eval l = .int .i64 L) (hc : a.eval c = .int .i64 C) (hn : n ≤ 1048576)
    (hK : ∀ w', OwnI w' w.heap.size (.slice (some ⟨w.heap.size, 0, none⟩) n n) (List.replicate n 0) → Below w.heap.size w w' → w.heap.size < w'.heap.size → wpList Try.prog ops Q rest (a.put o.dst (.slice (some ⟨w.heap.size, 0, none⟩) n n)) w') :
    wpList Try.prog ops Q (o :: rest) a w := by
  obtain ⟨i0, hi0, hz0, hz1, hz2⟩ := info_parts infoI
  refine wpList_make_full w hg l c 43 hop w.heap.size 3 i0 (.int .i64 0) 1 Try.underlying43 hi0 hz0 hz1 .i64 .i64 L C n hl hc hL hC (by rw [hz2]; omega) (by unfold maxLen; omega) (Nat.le_refl _) ?_
  intro w' h1 h2
  have hown : OwnI w' w.heap.size (.slice (some ⟨w.heap.size, 0, none⟩) n n) (List.replicate n 0) := by
    unfold OwnI
    have e : (madeCells (Value.int .i64 0).cells (n * 1)).toList = (List.replicate n (0 : Int)).map iv := by
      rw [show (Value.int .i64 0).cells = #[.int .i64 0] from rfl, toList_madeCells_one, List.map_replicate, Nat.mul_one]
      rfl
    rw [e] at h1
    simpa using h1
  exact hK w' hown ((Below.refl _ _).grown h2 (Nat.le_refl _) (by simp)) (World.ownsRow.lt h1 _ rfl).2
theorem OwnI.set {w : World} {base g n c : Nat} {G : List Int} (h : OwnI w base (.slice (some ⟨g, 0, none⟩) n c) G) (j : Nat) (x : Int) : OwnI (w.setCell ⟨g, j, none⟩ (iv x)) base (.slice (some ⟨g, 0, none⟩) n c) (G.set j x) := by
  unfold OwnI at h ⊢
  have hn : n = G.length := by
    rcases h.2 with ⟨he, _⟩ | ⟨g', cap, cur, he, _⟩
    · cases he
    · injection he
  subst hn
  have := (World.ownsRow.stored h j (iv x)).1
  rw [List.length_set]
  simpa [List.map_set] using this
theorem OwnI.free {w : World} {base g n c : Nat} {G : List Int} (h : OwnI w base (.slice (some ⟨g, 0, none⟩) n c) G) (j : Nat) : w.frozen? ⟨g, j, none⟩ = false := by
  unfold OwnI at h
  have hn : n = G.length := by
    rcases h.2 with ⟨he, _⟩ | ⟨g', cap, cur, he, _⟩
    · cases he
    · injection he
  subst hn
  exact World.ownsRow.frozenAt h j

set_option maxHeartbeats 1600000 in
set_option maxRecDepth 100000 in
theorem numbers_any (l : List UInt8) (A : Option Addr) (n c : Nat) (w : World) (hn : n = l.length) (hr : Rd w w.heap.size A l) (hl : n ≤ 1048576) :
    Calls Try.prog 66 #[.slice A n c] w fun e w' => ∃ A' c', e = .returned (.slice A' n c') ∧ OwnI w' w.heap.size (.slice A' n c') (intsOf l) ∧ Below w.heap.size w w' := by
  have HN := Lib.hid hn
  have HR := Lib.hid hr
  clear hn hr
  go_enter Try.func66, Try.ntmps66
  go_wp2_with (refine make_ints _ n _ _ rfl rfl rfl (.tmp 7) (.tmp 7) rfl rfl rfl hl ?_)
  intro w1 o1 b1 s1
  obtain ⟨g, hg⟩ : ∃ g, g = w.heap.size := ⟨_, rfl⟩
  rw [← hg] at o1 s1
  rw [← hg]
  have HG := Lib.hid hg
  clear hg
  have O0 : Hid (∃ G : List Int, OwnI w1 g (.slice (some ⟨g, 0, none⟩) n n) G ∧ G.length = n ∧ ∀ i (h : i < G.length), i < 0 → G[i] = (l.getD i 0).toNat) := ⟨_, o1, by simp, fun i h h0 => absurd h0 (by omega)⟩
  clear o1
  go_wp2
  go_loopw [11] (fun s11 wr => ∃ k : Nat, s11 = .int .i64 k ∧ k ≤ n ∧ Hid (∃ G : List Int, OwnI wr g (.slice (some ⟨g, 0, none⟩) n n) G ∧ G.length = n ∧ ∀ i (h : i < G.length), i < k → G[i] = (l.getD i 0).toNat) ∧ Below w.heap.size w wr) (fun s11 _ => n - (intOf s11).toNat)
  case atStart => exact ⟨0, rfl, by omega, O0, b1⟩
  case round =>
    clear O0 b1
    obtain ⟨k, rfl, hk, HO, hb⟩ := hrel
    by_cases hlt : k < n
    · have hkl : k < l.length := by have := HN.out; omega
      rcases HR.out with h0 | ⟨q, o, rfl, hq, hc⟩
      · rw [h0] at hkl; simp at hkl
      have d0 := (hb.cell (p := ⟨q, o + k, none⟩) hq).trans (hc k hkl)
      obtain ⟨y, hy⟩ : ∃ y, y = l[k] := ⟨_, rfl⟩
      rw [← hy] at d0
      replace d0 : wr.cell? ⟨q, o + k, none⟩ = some (.int .u8 (y.toNat : Int)) := d0
      have HY := Lib.hid hy
      obtain ⟨G, hO, hGl, hG⟩ := HO.out
      obtain ⟨z, hz⟩ : ∃ z, wr.cell? ⟨g, k, none⟩ = some z := by
        obtain ⟨q', he, hc'⟩ := OwnI.at hO (k := k) (by omega)
        injection he with he; injection he with he; subst he
        exact ⟨_, hc'⟩
      have hf := hO.free k
      have ylt : ((y.toNat : Nat) : Int) < 256 := by have := y.toNat_lt; omega
      have hwr : IntKind.i64.wrap ((y.toNat : Nat) : Int) = ((y.toNat : Nat) : Int) := IntWalk.i64_in _ (by omega)
      have HO2 : Hid (∃ G : List Int, OwnI (wr.setCell ⟨g, k, none⟩ (.int .i64 (y.toNat : Int))) g (.slice (some ⟨g, 0, none⟩) n n) G ∧ G.length = n ∧ ∀ i (h : i < G.length), i < k + 1 → G[i] = (l.getD i 0).toNat) := by
        refine ⟨G.set k (y.toNat : Int), hO.set k _, by simpa using hGl, fun i h hi => ?_⟩
        rw [List.getElem_set]
        by_cases hik : k = i
        · subst hik
          rw [if_pos rfl, HY.out, List.getD_eq_getElem?_getD, List.getElem?_eq_getElem hkl]
          rfl
        · rw [if_neg hik]
          exact hG i (by simpa using h) (by omega)
      have hb2 : Below w.heap.size w (wr.setCell ⟨g, k, none⟩ (.int .i64 (y.toNat : Int))) := hb.setCell (by show w.heap.size ≤ g; have := HG.out; omega) _
      clear HO hO hGl hG hc hy
      go_wp2
      go_roundw
      case rel => exact ⟨k + 1, by go_num, by omega, HO2, hb2⟩
      case measure => simp [intOf]; omega
    · have hkn : k = n := by omega
      subst hkn
      go_wp2
      go_ret
      obtain ⟨G, hO, hGl, hG⟩ := HO.out
      have hGG : G = intsOf l := by
        have hn := HN.out
        refine List.ext_getElem (by simp [intsOf]; omega) (fun i h1 h2 => ?_)
        have h3 : i < l.length := by simpa [intsOf] using h2
        rw [hG i h1 (by omega), List.getD_eq_getElem?_getD, List.getElem?_eq_getElem h3]
        simp [intsOf]
      rw [hGG, HG.out] at hO
      rw [HG.out]
      exact ⟨_, _, rfl, hO, hb⟩

set_option maxHeartbeats 3200000 in
set_option maxRecDepth 100000 in
theorem rmembers_any (L : List Int) (A : Option Addr) (n c : Nat) (w : World) (hn : n = L.length) (hr : RdI w w.heap.size A L) (hl : n ≤ 9223372036854775807) :
    Calls Try.prog 53 #[.slice A n c] w fun e w' => Tells e (MembersP L) ∧ Below w.heap.size w w' := by
  by_cases hz : n < 1
  · have hnp := Lib.hid (show ¬ MembersP L from fun h => by have := h.1; omega)
    clear hr hn
    go_enter Try.func53, Try.ntmps53
    go_wp2
    go_ret
    exact ⟨.no hnp.out, Below.refl _ _⟩
  by_cases hbig : 5 < n
  · have hnp := Lib.hid (show ¬ MembersP L from fun h => by have := h.2.five; omega)
    clear hr hn
    go_enter Try.func53, Try.ntmps53
    go_wp2
    go_ret
    exact ⟨.no hnp.out, Below.refl _ _⟩
  have HN := Lib.hid hn
  have HR := Lib.hid hr
  clear hn hr
  go_enter Try.func53, Try.ntmps53
  go_wp2
  go_loopw [3] (fun s3 wr => ∃ k : Nat, s3 = .int .i64 k ∧ k ≤ n ∧ (∃ d, wr = w.drewN d) ∧ Hid (∀ i (h : i < L.length), i < k → NodeP L[i] ∧ ∀ j (hj : j < L.length), j + 1 = i → L[j] < L[i])) (fun s3 _ => n - (intOf s3).toNat)
  case atStart => exact ⟨0, rfl, by omega, ⟨0, rfl⟩, fun i h hi => absurd hi (by omega)⟩
  case round =>
    obtain ⟨k, rfl, hk, ⟨d, rfl⟩, HK⟩ := hrel
    by_cases hlt : k < n
    · have hkl : k < L.length := by have := HN.out; omega
      rcases HR.out with h0 | ⟨q, o, rfl, hq, hc⟩
      · rw [h0] at hkl; simp at hkl
      have d0 : (w.drewN d).cell? ⟨q, o + k, none⟩ = some (.int .i64 L[k]) := hc k hkl
      obtain ⟨y, hy⟩ : ∃ y, y = L[k] := ⟨_, rfl⟩
      rw [← hy] at d0
      have HY := Lib.hid hy
      clear hy
      have NF := Lib.hid (rnode_any y)
      have i0 : (k : Int) < (n : Int) := by omega
      by_cases hnode : isNodeB y = true
      · rw [hnode] at NF
        have hnp := Lib.hid (show NodeP y by simpa [isNodeB, NodeP] using hnode)
        clear hnode
        by_cases h0 : k = 0
        · subst h0
          rw [Nat.add_zero] at d0
          clear hc
          go_wp2_with fail
          refine (NF.out _).mono ?_
          rintro e w1 ⟨rfl, rfl⟩
          go_wp2_with fail
          go_quiet (fail)
          go_wp2
          go_roundw
          case rel =>
            refine ⟨1, by go_num, by omega, ⟨d + nq, by simp⟩, fun i h hi => ?_⟩
            obtain rfl : i = 0 := by omega
            exact ⟨HY.out ▸ hnp.out, fun j hj hji => absurd hji (by omega)⟩
          case measure => simp [intOf]; omega
        · have hpos : 0 < k := by omega
          obtain ⟨k', hkk⟩ : ∃ k', k = k' + 1 := ⟨k - 1, by omega⟩
          have hk'l : k' < L.length := by omega
          have d1 : (w.drewN d).cell? ⟨q, o + k', none⟩ = some (.int .i64 L[k']) := hc k' hk'l
          obtain ⟨z, hz⟩ : ∃ z, z = L[k'] := ⟨_, rfl⟩
          rw [← hz] at d1
          have HZ := Lib.hid hz
          have b0 : w.cell? ⟨q, o + k, none⟩ = some (.int .i64 y) := d0
          have b1 : w.cell? ⟨q, o + k', none⟩ = some (.int .i64 z) := d1
          have i1 : (k' : Int) < (n : Int) := by omega
          have e1 : (k : Int) - 1 = (k' : Int) := by omega
          have hp0 : (0 : Int) < (k : Int) := by omega
          have HKK := Lib.hid hkk
          clear hz hc hkk
          have HRel : Hid (z < y → ∀ i (h : i < L.length), i < k + 1 → NodeP L[i] ∧ ∀ j (hj : j < L.length), j + 1 = i → L[j] < L[i]) := by
            intro hzy i h hi
            by_cases hik : i = k
            · subst hik
              refine ⟨HY.out ▸ hnp.out, fun j hj hji => ?_⟩
              obtain rfl : j = k' := by have := HKK.out; omega
              rw [← HY.out, ← HZ.out]
              exact hzy
            · exact HK.out i h (by omega)
          have HNo : Hid (¬ z < y → ¬ MembersP L) := by
            intro hzy h
            have h3 := (h.2 k hkl).2 k' hk'l HKK.out.symm
            rw [← HY.out, ← HZ.out] at h3
            exact hzy h3
          by_cases hzy : z < y
          · have hge : decide (y ≤ z) = false := by simp; omega
            go_wp2_with fail
            refine (NF.out _).mono ?_
            rintro e w1 ⟨rfl, rfl⟩
            go_wp2_with fail
            go_quiet (fail)
            go_wp2
            go_roundw
            case rel => exact ⟨k + 1, by go_num, by omega, ⟨d + nq, by simp⟩, HRel.out hzy⟩
            case measure => simp [intOf]; omega
          · have hge : y ≤ z := by omega
            go_wp2_with fail
            refine (NF.out _).mono ?_
            rintro e w1 ⟨rfl, rfl⟩
            go_wp2_with fail
            go_quiet (fail)
            go_wp2
            go_ret
            exact ⟨.no (HNo.out hzy), below_drewN (below_drewN (Below.refl _ _) d) nq⟩
      · have hnode' : isNodeB y = false := by simpa using hnode
        rw [hnode'] at NF
        have hnp : ¬ NodeP y := by simpa [isNodeB, NodeP] using hnode
        clear hc hnode hnode'
        go_wp2_with fail
        refine (NF.out _).mono ?_
        rintro e w1 ⟨rfl, rfl⟩
        go_wp2_with fail
        go_quiet (fail)
        go_wp2
        go_ret
        exact ⟨.no (fun h => absurd (h.2 k hkl).1 (by rw [← HY.out]; exact hnp)), below_drewN (below_drewN (Below.refl _ _) d) nq⟩
    · have hkn : k = n := by omega
      subst hkn
      go_wp2
      go_ret
      have hn := HN.out
      exact ⟨.yes ⟨by omega, fun i hi => HK.out i hi (by omega)⟩, below_drewN (Below.refl _ _) d⟩
end Go.Proofs.Ytekgmgiokmbliaa
