/-
  One envelope taken out of a row: slices.Delete at one place.
-/
import Derived.Test.YtekgmgiokmbliaaFind
import Derived.Lib.SliceRun
set_option linter.unusedVariables false
namespace Go.Proofs.Ytekgmgiokmbliaa
open Go.RowKit

def zs5 : List Value := [.int .i64 0, .int .i64 0, .int .i64 0, .int .i64 0, .slice none 0 0]
theorem zero_ev (w : World) : (zeroValue 32).run Try.prog w = .ok (.agg #[.int .i64 0, .int .i64 0, .int .i64 0, .int .i64 0, .slice none 0 0]) w := by
  obtain ⟨i0, hi0, hz0, hz1, hz2⟩ := info_parts infoE
  simp [zeroValue, typeInfo, hi0, hz0]
theorem run_clear_ev (w : World) (ty : TypeId) (q o c : Nat) (hc : ∀ j, j < 5 → (w.cell? ⟨q, o + j, none⟩).isSome = true) (hf : ∀ j, j < 5 → w.frozen? ⟨q, o + j, none⟩ = false) :
    (Builtin.clear_ #[27] ty #[.slice (some ⟨q, o, none⟩) 1 c]).run Try.prog w = .ok (.tuple #[]) (w.setCells q o zs5) := by
  have hzc : (Builtin.zeroCells (Value.agg #[.int .i64 0, .int .i64 0, .int .i64 0, .int .i64 0, .slice none 0 0]).cells 1).toList = zs5 := by kernel_rfl
  have hst := run_storeCells_cells (P := Try.prog) q o zs5 0 w (by intro j hj; have hj : j < 5 := hj; simpa using hc j hj) (by intro j hj; have hj : j < 5 := hj; simpa using hf j hj) (by intro v hv; simp [zs5] at hv; rcases hv with rfl | rfl <;> rfl)
  simp only [Nat.add_zero] at hst
  simp [Builtin.clear_, run_underlying Try.underlying27, hzc, hst]

/-- cells laid over a list -/
def over : List Value → Nat → List Value → List Value
  | xs, _, [] => xs
  | xs, o, v :: vs => over (xs.set o v) (o + 1) vs
theorem over_eq : ∀ (vs xs : List Value) (o : Nat), o + vs.length ≤ xs.length → over xs o vs = xs.take o ++ vs ++ xs.drop (o + vs.length)
  | [], xs, o, h => by simp [over]
  | v :: vs, xs, o, h => by
    simp only [List.length_cons] at h
    rw [over, over_eq vs _ _ (by simp; omega)]
    have h1 : (xs.set o v).take (o + 1) = xs.take o ++ [v] := by
      rw [List.take_set, List.take_succ_eq_append_getElem (by omega), List.set_append_right _ _ (by simp; omega)]
      have : o - (xs.take o).length = 0 := by simp; omega
      rw [this]; rfl
    have h2 : (xs.set o v).drop (o + 1 + vs.length) = xs.drop (o + (v :: vs).length) := by
      rw [List.drop_set, if_pos (by omega)]
      congr 1; simp; omega
    rw [h1, h2]; simp
theorem ownsRow_setCells {base : Nat} {e : TypeId} {size g n cap : Nat} : ∀ (vs : List Value) (o : Nat) (w : World) (xs : List Value), w.ownsRow base e size (.slice (some ⟨g, 0, none⟩) n cap) n xs →
    (w.setCells g o vs).ownsRow base e size (.slice (some ⟨g, 0, none⟩) n cap) n (over xs o vs)
  | [], _, _, _, h => h
  | v :: vs, o, w, xs, h => by
    rw [World.setCells, over]
    exact ownsRow_setCells vs (o + 1) _ _ (World.ownsRow.stored h o v).1
theorem only_setCells {g : Nat} {a : World} : ∀ (vs : List Value) (o : Nat) (w : World), Only g a w → Only g a (w.setCells g o vs)
  | [], _, _, h => h
  | v :: vs, o, w, h => by
    rw [World.setCells]
    exact only_setCells vs (o + 1) _ (h.set1 o v)
theorem ownsRow_less {w : World} {base : Nat} {e : TypeId} {size g n cap m : Nat} {xs : List Value} (h : w.ownsRow base e size (.slice (some ⟨g, 0, none⟩) n cap) n xs) (hm : m ≤ n) :
    w.ownsRow base e size (.slice (some ⟨g, 0, none⟩) m cap) m (xs.take (m * size)) := by
  rcases h.2 with ⟨h', _⟩ | ⟨g', cap', cur, h', hb, hg, hnc, hcm, hcs, htake⟩
  · simp at h'
  · simp only [Value.slice.injEq, Option.some.injEq, Addr.mk.injEq, and_true, true_and] at h'
    obtain ⟨rfl, rfl⟩ := h'
    have hms : m * size ≤ n * size := Nat.mul_le_mul_right _ hm
    refine ⟨by rw [List.length_take, h.1]; omega, .inr ⟨g, cap, cur, rfl, hb, hg, by omega, hcm, hcs, ?_⟩⟩
    rw [← htake, List.take_take]; congr 1; omega

theorem flat_take (es : List Ev) : ∀ k, (es.flatMap ec).take (k * 5) = (es.take k).flatMap ec := by
  induction es with
  | nil => simp
  | cons e es ih =>
    intro k
    cases k with
    | zero => simp
    | succ k =>
      rw [List.flatMap_cons, List.take_append, List.take_of_length_le (by simp [ec]; omega), List.take_succ_cons, List.flatMap_cons, show (k + 1) * 5 - (ec e).length = k * 5 by simp [ec]; omega, ih k]
theorem flat_drop (es : List Ev) : ∀ k, (es.flatMap ec).drop (k * 5) = (es.drop k).flatMap ec := by
  induction es with
  | nil => simp
  | cons e es ih =>
    intro k
    cases k with
    | zero => simp
    | succ k =>
      rw [List.flatMap_cons, List.drop_append, List.drop_of_length_le (by simp [ec]; omega), List.drop_succ_cons, show (k + 1) * 5 - (ec e).length = k * 5 by simp [ec]; omega, ih k]
      rfl

set_option maxHeartbeats 3200000 in
set_option maxRecDepth 100000 in
theorem delete_any (base : Nat) (A : Option Addr) (n c : Nat) (es : List Ev) (k j : Nat) (hj : j = k + 1) (w : World) (hO : OwnF w base (.slice A n c) es) (hk : k < es.length) (hne : ∀ e ∈ es, e.2.2.2.2.oneCell' = true) :
    Calls Try.prog 35 #[.slice A n c, .int .i64 k, .int .i64 j] w fun e w' => ∃ q, A = some ⟨q, 0, none⟩ ∧ e = .returned (.slice A (es.eraseIdx k).length c) ∧ OwnF w' base (.slice A (es.eraseIdx k).length c) (es.eraseIdx k) ∧ Only q w w' := by
  have hO' := hO
  unfold OwnF at hO'
  obtain ⟨q, rfl⟩ : ∃ q, A = some ⟨q, 0, none⟩ := by
    rcases hO'.2 with ⟨_, hn⟩ | ⟨g, cap, cur, hv, _⟩
    · omega
    · injection hv with h1 h2 h3; exact ⟨g, h1⟩
  obtain ⟨rfl, hcn, hcm⟩ : n = es.length ∧ n ≤ c ∧ c ≤ maxLen := by
    rcases hO'.2 with ⟨hv, _⟩ | ⟨g, cap, cur, hv, _, _, h1, h2, _⟩
    · cases hv
    · injection hv with h3 h4 h5; subst h5; exact ⟨h4, by omega, h2⟩
  obtain ⟨news, hnews⟩ : ∃ news, news = (es.drop j).flatMap ec := ⟨_, rfl⟩
  have hlen : news.length = (es.length - j) * 5 := by rw [hnews, ec_len]; simp
  obtain ⟨n, hn⟩ : ∃ n, n = es.length := ⟨_, rfl⟩
  obtain ⟨i0, hi0, hz0, hz1, hz2⟩ := info_parts infoE
  rw [← hn] at hO hO' hk hcn hlen
  obtain ⟨xs, hxs⟩ : ∃ xs, xs = es.flatMap ec := ⟨_, rfl⟩
  rw [← hxs] at hO'
  have hnx : news = xs.drop (j * 5) := by rw [hnews, hxs, flat_drop]
  have hxl := hO'.1
  have hcell : ∀ t, t < n * 5 → w.cell? ⟨q, t, none⟩ = xs[t]? := fun t ht => World.ownsRow.cellAt hO' t ht
  obtain ⟨B, hA, hsrc⟩ : ∃ B : Addr, (if c = j then (some ⟨q, 0, none⟩ : Option Addr) else some ⟨q, j * 5, none⟩) = some B ∧ Hid (∀ t u, news[t]? = some u → w.drew.cell? (B.add t) = some u) := by
    by_cases hcj : c = j
    · refine ⟨⟨q, 0, none⟩, by rw [if_pos hcj], fun t u hu => ?_⟩
      have h0 : news.length = 0 := by rw [hlen]; omega
      rw [List.length_eq_zero_iff.1 h0] at hu
      cases hu
    · refine ⟨⟨q, j * 5, none⟩, by rw [if_neg hcj], fun t u hu => ?_⟩
      have ht : t < news.length := (List.getElem?_eq_some_iff.1 hu).1
      rw [add_at]
      show w.cell? _ = _
      rw [hcell (j * 5 + t) (by omega)]
      rw [hnx, List.getElem?_drop] at hu
      exact hu
  have s1 : Hid (news.length = (n - j) * 5) := hlen
  have s2 : Hid (∀ u ∈ news, u.oneCell' = true) := by
    intro u hu
    rw [hnews] at hu
    obtain ⟨e, he, hu⟩ := List.mem_flatMap.1 hu
    have h1 := hne e (List.mem_of_mem_drop he)
    simp only [ec, List.mem_cons, List.not_mem_nil, or_false] at hu
    rcases hu with rfl | rfl | rfl | rfl | rfl <;> first | rfl | exact h1
  have s3 : Hid (∀ t, t < news.length → (w.drew.cell? ⟨q, 0 + k * 5 + t, none⟩).isSome = true ∧ w.drew.frozen? ⟨q, 0 + k * 5 + t, none⟩ = false) := by
    intro t ht
    refine ⟨?_, World.ownsRow.frozenAt hO' _⟩
    show (w.cell? _).isSome = true
    rw [hcell _ (by omega), List.getElem?_eq_getElem (by omega)]
    rfl
  obtain ⟨W1, hW1⟩ : ∃ W1, W1 = w.drew.setCells q (0 + k * 5) news := ⟨_, rfl⟩
  obtain ⟨m, hm⟩ : ∃ m, m = k + (n - j) := ⟨_, rfl⟩
  have hmn : m < n := by omega
  have hmc : m < c := by omega
  have O1 := ownsRow_setCells news (0 + k * 5) w.drew xs hO'
  rw [← hW1] at O1
  have hx1 : (over xs (0 + k * 5) news).length = n * 5 := O1.1
  have hcell1 : ∀ t, t < n * 5 → W1.cell? ⟨q, t, none⟩ = (over xs (0 + k * 5) news)[t]? := fun t ht => World.ownsRow.cellAt O1 t ht
  have hcl : ∀ ty, (Builtin.clear_ #[27] ty #[.slice (some ⟨q, m * 5, none⟩) (n - m) (c - m)]).run Try.prog W1 = .ok (.tuple #[]) (W1.setCells q (m * 5) zs5) := by
    intro ty
    rw [show n - m = 1 by omega]
    refine run_clear_ev W1 ty q (m * 5) _ (fun t ht => ?_) (fun t _ => World.ownsRow.frozenAt O1 _)
    rw [hcell1 _ (by omega), List.getElem?_eq_getElem (by omega)]
    rfl
  have hER : es.eraseIdx k = es.take k ++ es.drop j := by rw [List.eraseIdx_eq_take_drop_succ, hj]
  have hEL : Hid ((es.eraseIdx k).length = m) := by
    rw [hER]; show (_ : Nat) = _
    rw [List.length_append, List.length_take, List.length_drop, ← hn]; omega
  have O3 : Hid (OwnF (W1.setCells q (m * 5) zs5) base (.slice (some ⟨q, 0, none⟩) m c) (es.eraseIdx k)) := by
    have O2 := ownsRow_less (ownsRow_setCells zs5 (m * 5) W1 _ O1) (m := m) (by omega)
    have e1 : (over (over xs (0 + k * 5) news) (m * 5) zs5).take (m * 5) = (es.eraseIdx k).flatMap ec := by
      rw [over_eq zs5 _ _ (by rw [hx1]; show m * 5 + 5 ≤ _; omega), List.append_assoc, List.take_append_of_le_length (by rw [List.length_take, hx1]; omega), List.take_take, Nat.min_self, over_eq news xs _ (by omega), List.take_append_of_le_length (by rw [List.length_append, List.length_take]; omega), List.take_of_length_le (by rw [List.length_append, List.length_take]; omega),
        Nat.zero_add, hxs, flat_take, hnews, hER, List.flatMap_append]
    rw [e1] at O2
    show OwnF _ _ _ _
    unfold OwnF
    rw [hEL.out]
    exact O2
  have O4 : Hid (Only q w (W1.setCells q (m * 5) zs5)) := by
    refine only_setCells zs5 _ _ ?_
    rw [hW1]
    exact only_setCells news _ _ ⟨rfl, rfl, rfl, Nat.le_refl _, fun _ _ _ => rfl⟩
  have hW : Hid (W1 = w.drew.setCells q (0 + k * 5) news) := hW1
  have HN := Lib.hid hn
  have hkn : k < n := by omega
  have hcn : n ≤ c := by omega
  have hic : k ≤ c := by omega
  have hjc : j ≤ c := by omega
  have hjn : j ≤ n := by omega
  have hkj : k < j := by omega
  have HJ := Lib.hid hj
  have hcm : c ≤ 9223372036854775807 := hcm
  rw [← hn]
  clear hO hO' hxs hne hk hn hlen hnews hW1 hj hcell hcell1 O1 hx1 hxl hnx hER
  go_enter Try.func35, Try.ntmps35
  go_wp2_with fail
  go_region_law (refine step_append_room rfl (.tmp 22) (.tmp 25) 27 rfl 32 i0 5 Try.underlying27 hi0 hz1 q 0 k c (by simp [Act.eval, Act.put]) B (n - j) (c - j) news (by simp [Act.eval, Act.put]) s1.out hsrc.out s2.out (by omega) s3.out ?_; rw [← hW.out])
  rw [← hm]
  have HM := Lib.hid hm
  clear hm
  have hmc2 : ¬ c = m := by omega
  go_wp2
  go_ret
  exact ⟨q, rfl, by rw [hEL.out]; rfl, by rw [hEL.out]; exact O3.out, O4.out⟩
end Go.Proofs.Ytekgmgiokmbliaa
