/-
  The place of a number among those under way.
-/
import Derived.Test.YtekgmgiokmbliaaSend
set_option linter.unusedVariables false
namespace Go.Proofs.Ytekgmgiokmbliaa
open Go.RowKit

/-- the envelope at place k -/
def evAt (es : List Ev) (k : Nat) : Ev := es.getD k (0, 0, 0, 0, .slice none 0 0)
theorem evAt_mem {es : List Ev} {k : Nat} (h : k < es.length) : evAt es k ∈ es := by unfold evAt; rw [List.getD_eq_getElem?_getD, List.getElem?_eq_getElem h]; simp
theorem mem_evAt {es : List Ev} {e : Ev} (h : e ∈ es) : ∃ k, k < es.length ∧ e = evAt es k := by
  obtain ⟨k, hk, rfl⟩ := List.getElem_of_mem h
  refine ⟨k, hk, ?_⟩
  unfold evAt; rw [List.getD_eq_getElem?_getD, List.getElem?_eq_getElem hk]; rfl
/-- their numbers rise, from one on -/
def Rise (es : List Ev) : Prop := (∀ i j, i < j → j < es.length → (evAt es i).1 < (evAt es j).1) ∧ ∀ e ∈ es, 1 ≤ e.1 ∧ e.1 < 4611686018427387904

/-- the slice at A reads as the envelopes es -/
def Evs (w : World) (A : Option Addr) (es : List Ev) : Prop :=
  es = [] ∨ ∃ q, A = some ⟨q, 0, none⟩ ∧ q < w.heap.size ∧ ∀ k, k < es.length →
    w.cell? ⟨q, k * 5, none⟩ = some (.int .i64 (evAt es k).1) ∧ w.cell? ⟨q, k * 5 + 1, none⟩ = some (.int .i64 (evAt es k).2.1) ∧ w.cell? ⟨q, k * 5 + 2, none⟩ = some (.int .i64 (evAt es k).2.2.1) ∧
    w.cell? ⟨q, k * 5 + 3, none⟩ = some (.int .i64 (evAt es k).2.2.2.1) ∧ w.cell? ⟨q, k * 5 + 4, none⟩ = some (evAt es k).2.2.2.2

theorem flat_at : ∀ (es : List Ev) (k j : Nat), k < es.length → j < 5 → (es.flatMap ec)[k * 5 + j]? = (ec (evAt es k))[j]?
  | [], _, _, h, _ => by simp at h
  | e :: es, 0, j, _, hj => by
    rw [List.flatMap_cons, Nat.zero_mul, Nat.zero_add, List.getElem?_append_left (by simp [ec]; exact hj)]
    rfl
  | e :: es, k + 1, j, h, hj => by
    rw [List.flatMap_cons, List.getElem?_append_right (by simp [ec]; omega)]
    have : (k + 1) * 5 + j - (ec e).length = k * 5 + j := by simp [ec]; omega
    rw [this, flat_at es k j (by simpa using h) hj]
    rfl

theorem OwnF.evs {w : World} {base : Nat} {A : Option Addr} {n c : Nat} {es : List Ev} (h : OwnF w base (.slice A n c) es) : Evs w A es := by
  unfold OwnF at h
  by_cases h0 : es = []
  · exact .inl h0
  · right
    have hA : ∃ q, (Value.slice A n c).ownBlock = some q ∧ A = some ⟨q, 0, none⟩ := by
      rcases h.2 with ⟨_, hn⟩ | ⟨g, cap, cur, hv, _⟩
      · exact absurd (List.eq_nil_of_length_eq_zero hn) h0
      · injection hv with h1 h2 h3
        subst h1
        exact ⟨g, rfl, rfl⟩
    obtain ⟨q, hq, hA⟩ := hA
    refine ⟨q, hA, (World.ownsRow.lt h q hq).2, fun k hk => ?_⟩
    have C := World.ownsRow.cells h hq
    have F : ∀ j u, j < 5 → (ec (evAt es k))[j]? = some u → w.cell? ⟨q, k * 5 + j, none⟩ = some u := fun j u hj hu => by
      have := C (k * 5 + j) u ((flat_at es k j hk hj).trans hu)
      rw [add_at, Nat.zero_add] at this
      exact this
    exact ⟨F 0 _ (by omega) rfl, F 1 _ (by omega) rfl, F 2 _ (by omega) rfl, F 3 _ (by omega) rfl, F 4 _ (by omega) rfl⟩

theorem Evs.below {w w' : World} {A : Option Addr} {es : List Ev} (h : Evs w A es) (hb : Below w.heap.size w w') : Evs w' A es := by
  rcases h with h | ⟨q, hA, hq, hc⟩
  · exact .inl h
  · refine .inr ⟨q, hA, Nat.lt_of_lt_of_le hq hb.size, fun k hk => ?_⟩
    obtain ⟨a, b, c, d, e⟩ := hc k hk
    exact ⟨(hb.cell hq).trans a, (hb.cell hq).trans b, (hb.cell hq).trans c, (hb.cell hq).trans d, (hb.cell hq).trans e⟩

set_option maxRecDepth 100000 in
theorem cmp_any (i f t k : Int) (v : Value) (x : Int) (w : World) : Calls Try.prog 57 #[.agg #[.int .i64 i, .int .i64 f, .int .i64 t, .int .i64 k, v], .int .i64 x] w fun e w' => e = .returned (.int .i64 (wrap64 (i - x))) ∧ Below w.heap.size w w' := by
  have hb := below1' w (.cells #[.int .i64 i, .int .i64 f, .int .i64 t, .int .i64 k, v] 32)
  go_enter Try.func57, Try.ntmps57
  go_wp2
  go_ret
  exact ⟨rfl, hb⟩

/-- what the search answers -/
def Found (es : List Ev) (x : Int) (k : Nat) (ok : Bool) : Prop := (ok = true → k < es.length ∧ (evAt es k).1 = x) ∧ (ok = false → ∀ e ∈ es, e.1 ≠ x)

set_option maxHeartbeats 3200000 in
set_option maxRecDepth 100000 in
theorem search_any (A : Option Addr) (n c : Nat) (es : List Ev) (x : Int) (w : World) (hn : n = es.length) (hE : Evs w A es) (hR : Rise es) (hlen : es.length ≤ 1000) (hx : -9223372036854775808 ≤ x ∧ x ≤ 9223372036854775807) :
    Calls Try.prog 56 #[.slice A n c, .int .i64 x, .func (.func 57) #[] #[]] w fun e w' => ∃ (k : Nat) (ok : Bool), e = .returned (.tuple #[.int .i64 k, .bool ok]) ∧ Found es x k ok ∧ Below w.heap.size w w' := by
  have hb := Below.refl w.heap.size w
  have HE := Lib.hid hE
  have HR := Lib.hid hR
  have hn2 : n ≤ 1000 := by omega
  have HN := Lib.hid hn
  have HX := Lib.hid hx
  clear hE hR hlen hx hn
  go_enter Try.func56, Try.ntmps56
  go_wp2
  go_loopw [9, 10] (fun s9 s10 wr => ∃ lo hi : Nat, s9 = .int .i64 lo ∧ s10 = .int .i64 hi ∧ lo ≤ hi ∧ hi ≤ n ∧ Hid (1 ≤ x → (∀ t, t < lo → (evAt es t).1 < x) ∧ (∀ t, hi ≤ t → t < n → x ≤ (evAt es t).1)) ∧ Below w.heap.size w wr) (fun s9 s10 _ => (intOf s10).toNat - (intOf s9).toNat)
  case atStart => exact ⟨0, n, rfl, rfl, Nat.zero_le _, Nat.le_refl _, Lib.hid (fun _ => ⟨fun t h => absurd h (Nat.not_lt_zero _), fun t h1 h2 => absurd h1 (by omega)⟩), hb⟩
  case round =>
    clear hb
    obtain ⟨lo, hi, rfl, rfl, hlh, hin, I, hb⟩ := hrel
    by_cases hlt : lo < hi
    · have hml : (lo + hi) / 2 < n := by omega
      rcases HE.out.below hb with h0 | ⟨q, hA, hq, hc⟩
      · rw [HN.out, h0] at hml; simp at hml
      subst hA
      obtain ⟨c0, c1, c2, c3, c4⟩ := hc ((lo + hi) / 2) (by have := HN.out; omega)
      have he := HR.out.2 _ (evAt_mem (k := (lo + hi) / 2) (by have := HN.out; omega))
      have M := Lib.hid (fun t (h : t < (lo + hi) / 2) => HR.out.1 t ((lo + hi) / 2) h (by have := HN.out; omega))
      have M2 := Lib.hid (fun t (h : (lo + hi) / 2 < t) (h2 : t < n) => HR.out.1 ((lo + hi) / 2) t h (by have := HN.out; omega))
      generalize hev : evAt es ((lo + hi) / 2) = ev at c0 c1 c2 c3 c4 he M M2
      obtain ⟨i, f, t, k, v⟩ := ev
      have HEV := Lib.hid hev
      clear hev hc
      simp only at c0 c1 c2 c3 c4 he
      have MM := Lib.hid M.out
      have HI := Lib.hid he
      clear he
      have CM := Lib.hid (fun w => cmp_any i f t k v x w)
      by_cases hneg : wrap64 (i - x) < 0
      · go_wp2_with (go_at_call 57; refine (CM.out _).mono ?_; rintro e w2 ⟨rfl, h2⟩)
        go_roundw
        case measure => simp [intOf]; omega
        case rel =>
          have hlt2 : 1 ≤ x → i < x := by
            intro h1
            have := HI.out
            have := HX.out
            unfold wrap64 at hneg
            omega
          have I2 : Hid (1 ≤ x → (∀ t, t < (lo + hi) / 2 + 1 → (evAt es t).1 < x) ∧ (∀ t, hi ≤ t → t < n → x ≤ (evAt es t).1)) := fun h1 => ⟨fun t ht => by
            rcases Nat.lt_or_ge t ((lo + hi) / 2) with h | h
            · exact Int.lt_trans (MM.out t h) (hlt2 h1)
            · rw [show t = (lo + hi) / 2 by omega, HEV.out]
              exact hlt2 h1, (I.out h1).2⟩
          exact ⟨(lo + hi) / 2 + 1, hi, by rw [show ((lo : Int) + (hi : Int)) / 2 + 1 = (((lo + hi) / 2 + 1 : Nat) : Int) by omega], rfl, by omega, hin, I2, hb.trans (h2.mono hb.size)⟩
      · go_wp2_with (go_at_call 57; refine (CM.out _).mono ?_; rintro e w2 ⟨rfl, h2⟩)
        go_roundw
        case measure => simp [intOf]; omega
        case rel =>
          have hge : 1 ≤ x → x ≤ i := by
            intro h1
            have := HI.out
            have := HX.out
            unfold wrap64 at hneg
            omega
          have I2 : Hid (1 ≤ x → (∀ t, t < lo → (evAt es t).1 < x) ∧ (∀ t, (lo + hi) / 2 ≤ t → t < n → x ≤ (evAt es t).1)) := fun h1 => ⟨(I.out h1).1, fun t ht htn => by
            rcases Nat.eq_or_lt_of_le ht with h | h
            · rw [← h, HEV.out]
              exact hge h1
            · exact Int.le_trans (hge h1) (Int.le_of_lt (M2.out t h htn))⟩
          exact ⟨lo, (lo + hi) / 2, rfl, by rw [show ((lo : Int) + (hi : Int)) / 2 = (((lo + hi) / 2 : Nat) : Int) by omega], by omega, by omega, I2, hb.trans (h2.mono hb.size)⟩
    · obtain rfl : hi = lo := by omega
      by_cases hn : hi < n
      · rcases HE.out.below hb with h0 | ⟨q, hA, hq, hc⟩
        · rw [HN.out, h0] at hn; simp at hn
        subst hA
        obtain ⟨c0, c1, c2, c3, c4⟩ := hc hi (by have := HN.out; omega)
        have he := HR.out.2 _ (evAt_mem (k := hi) (by have := HN.out; omega))
        generalize hev : evAt es hi = ev at c0 c1 c2 c3 c4 he
        obtain ⟨i, f, t, k, v⟩ := ev
        have HEV := Lib.hid hev
        clear hev hc
        simp only at c0 c1 c2 c3 c4 he
        have HI := Lib.hid he
        clear he
        have CM := Lib.hid (fun w => cmp_any i f t k v x w)
        have HH := Lib.hid hn
        by_cases h0 : wrap64 (i - x) = 0
        · go_wp2_with (go_at_call 57; refine (CM.out _).mono ?_; rintro e w2 ⟨rfl, h2⟩)
          go_ret2
          exact ⟨hi, true, rfl, ⟨fun _ => ⟨by have := HN.out; have := HH.out; omega, by rw [HEV.out]; have := HI.out; have := HX.out; unfold wrap64 at h0; show i = x; omega⟩, fun h => by cases h⟩, hb.trans (h2.mono hb.size)⟩
        · have h0b : (wrap64 (i - x) == 0) = false := by rw [beq_eq_false_iff_ne]; exact h0
          go_wp2_with (go_at_call 57; refine (CM.out _).mono ?_; rintro e w2 ⟨rfl, h2⟩)
          go_ret2
          refine ⟨hi, false, rfl, ⟨fun h => (by cases h), fun _ e' he hx => ?_⟩, hb.trans (h2.mono hb.size)⟩
          have hxx := HI.out
          obtain ⟨m, hm, rfl⟩ := mem_evAt he
          have hx1 : 1 ≤ x := by have := (HR.out.2 _ he).1; omega
          have hne : i ≠ x := by intro h; rw [h] at h0; exact h0 (by unfold wrap64; omega)
          rcases Nat.lt_trichotomy m hi with h | h | h
          · have := (I.out hx1).1 m h; omega
          · rw [h, HEV.out] at hx; exact hne hx
          · have h1 := HR.out.1 hi m h hm
            have h3 := (I.out hx1).2 hi (Nat.le_refl _) HH.out
            rw [hx] at h1
            omega
      · go_wp2
        go_ret2
        refine ⟨hi, false, rfl, ⟨fun h => (by cases h), fun _ e' he hx => ?_⟩, hb⟩
        obtain ⟨m, hm, rfl⟩ := mem_evAt he
        have hx1 : 1 ≤ x := by have := (HR.out.2 _ he).1; omega
        have := (I.out hx1).1 m (by have := HN.out; omega)
        omega
end Go.Proofs.Ytekgmgiokmbliaa
