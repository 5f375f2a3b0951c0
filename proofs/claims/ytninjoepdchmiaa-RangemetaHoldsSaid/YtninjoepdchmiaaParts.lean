/-
  Tables, as lists of ranges: what holds of them, what a split leaves, how a span is cut.
-/
import Derived.Test.YtninjoepdchmiaaSplit
set_option linter.unusedVariables false
namespace Go.Proofs.Ytninjoepdchmiaa
open Go.RowKit

theorem ebB_iff {t k : List UInt8} : ebB t k = true ↔ t = [] ∨ cmp k t < 0 := by
  unfold ebB
  simp [List.isEmpty_iff]
theorem ebB_no {t k : List UInt8} : ebB t k = false ↔ t ≠ [] ∧ cmp t k ≤ 0 := by
  rw [← Bool.not_eq_true, ebB_iff, not_or, cmp_flip (s := k) (t := t)]
  constructor
  · rintro ⟨h1, h2⟩; exact ⟨h1, by omega⟩
  · rintro ⟨h1, h2⟩; exact ⟨h1, by omega⟩
theorem ctB_iff {f t k : List UInt8} : ctB f t k = true ↔ cmp f k ≤ 0 ∧ (t = [] ∨ cmp k t < 0) := by
  unfold ctB
  rw [Bool.and_eq_true, ebB_iff, decide_eq_true_eq, cmp_flip (s := f) (t := k)]
  constructor
  · rintro ⟨h1, h2⟩; exact ⟨by omega, h2⟩
  · rintro ⟨h1, h2⟩; exact ⟨by omega, h2⟩
theorem emB_iff {f t : List UInt8} : emB f t = true ↔ t ≠ [] ∧ cmp t f ≤ 0 := by
  unfold emB
  simp
/-- ranges that hold all keys, one behind the other -/
structure Tab (ds : List RD) : Prop where
  pos : 0 < ds.length
  first : ∀ h : 0 < ds.length, ds[0].fr = []
  last : ∀ h : ds.length - 1 < ds.length, ds[ds.length - 1].to = []
  next : ∀ i (h : i + 1 < ds.length), ds[i].to ≠ [] ∧ ds[i].to = ds[i + 1].fr
  wide : ∀ i (h : i < ds.length), ds[i].to = [] ∨ cmp ds[i].fr ds[i].to < 0
  gen : GenOk ds
  many : ds.length ≤ 32
theorem Tab.rise {ds : List RD} (h : Tab ds) : ∀ j i (hi : i < ds.length) (hj : j < ds.length), i < j → ds[i].to ≠ [] ∧ cmp ds[i].to ds[j].fr ≤ 0
  | 0, i, hi, hj, hij => absurd hij (Nat.not_lt_zero _)
  | j + 1, i, hi, hj, hij => by
    obtain ⟨h1, h2⟩ := h.next j hj
    by_cases he : i = j
    · subst he
      exact ⟨h1, by rw [h2, cmp_refl]; exact Int.le_refl 0⟩
    · obtain ⟨h3, h4⟩ := h.rise j i hi (by omega) (by omega)
      refine ⟨h3, ?_⟩
      have h5 := h.wide j (by omega)
      rcases h5 with h5 | h5
      · exact absurd h5 h1
      · rw [← h2]
        exact cmp_le_trans h4 (Int.le_of_lt h5)
theorem Tab.mono {ds : List RD} (h : Tab ds) : Mono ds := by
  intro key i j hi hj hij hp
  rcases Nat.eq_or_lt_of_le hij with rfl | hlt
  · exact hp
  · obtain ⟨h1, h2⟩ := h.rise j i hi hj hlt
    rw [ebB_iff] at hp ⊢
    rcases hp with hp | hp
    · exact absurd hp h1
    · rcases h.wide j hj with h3 | h3
      · exact .inl h3
      · exact .inr (cmp_lt_le (cmp_lt_le hp h2) (Int.le_of_lt h3))
theorem tab_new : Tab [⟨1, 1, [], []⟩] :=
  ⟨by simp, fun _ => rfl, fun _ => rfl, fun i h => by simp at h, fun i h => .inl (by
    have : i = 0 := by simpa using h
    subst this; rfl), fun r hr => by rw [List.mem_singleton.1 hr]; simp, by simp⟩
theorem findK_spec {ds : List RD} (h : Mono ds) (key : List UInt8) : findK ds key ≤ ds.length ∧ (∀ j (hj : j < ds.length), j < findK ds key → ebB ds[j].to key = false) ∧ (∀ j (hj : j < ds.length), findK ds key ≤ j → ebB ds[j].to key = true) := by
  have hle : findK ds key ≤ ds.length := by
    unfold findK
    exact List.Sublist.length_le (List.takeWhile_sublist _)
  have h1 : ∀ (l : List RD) j (hj : j < l.length), j < (l.takeWhile fun r => !ebB r.to key).length → ebB l[j].to key = false := by
    intro l
    induction l with
    | nil => intro j hj; simp at hj
    | cons r l ih =>
      intro j hj hk
      simp only [List.takeWhile] at hk
      split at hk
      · rename_i hr
        cases j with
        | zero => simpa using hr
        | succ j => exact ih j (by simpa using hj) (by simpa using hk)
      · simp at hk
  have h2 : ∀ (l : List RD) (hk : (l.takeWhile fun r => !ebB r.to key).length < l.length), ebB l[(l.takeWhile fun r => !ebB r.to key).length].to key = true := by
    intro l
    induction l with
    | nil => intro hk; simp at hk
    | cons r l ih =>
      intro hk
      by_cases hr : ebB r.to key = true
      · simp [List.takeWhile, hr]
      · have hr : ebB r.to key = false := by simpa using hr
        have e : ((r :: l).takeWhile fun r => !ebB r.to key).length = (l.takeWhile fun r => !ebB r.to key).length + 1 := by simp [List.takeWhile, hr]
        have := ih (by rw [e] at hk; simpa using hk)
        simp only [e, List.getElem_cons_succ]
        exact this
  refine ⟨hle, fun j hj hk => h1 ds j hj hk, fun j hj hk => ?_⟩
  exact h key _ j (Nat.lt_of_le_of_lt hk hj) hj hk (h2 ds (Nat.lt_of_le_of_lt hk hj))
/-- the range that has a key -/
theorem Tab.has {ds : List RD} (h : Tab ds) (key : List UInt8) : ∃ hk : findK ds key < ds.length, ctB ds[findK ds key].fr ds[findK ds key].to key = true ∧ ∀ j (hj : j < ds.length), ctB ds[j].fr ds[j].to key = true → j = findK ds key := by
  obtain ⟨h1, h2, h3⟩ := findK_spec h.mono key
  have hlt : findK ds key < ds.length := by
    rcases Nat.lt_or_ge (findK ds key) ds.length with hh | hh
    · exact hh
    · have hp := h.pos
      have := h2 (ds.length - 1) (by omega) (by omega)
      rw [ebB_no] at this
      exact absurd (h.last (by omega)) this.1
  refine ⟨hlt, ?_, fun j hj hc => ?_⟩
  · have := h3 _ hlt (Nat.le_refl _)
    rw [ebB_iff] at this
    rw [ctB_iff]
    refine ⟨?_, this⟩
    by_cases h0 : findK ds key = 0
    · have : ds[findK ds key].fr = [] := by simp only [h0]; exact h.first (by omega)
      rw [this]; exact cmp_nil_le _
    · obtain ⟨h4, h5⟩ := h.next (findK ds key - 1) (by omega)
      have h6 := h2 (findK ds key - 1) (by omega) (by omega)
      rw [ebB_no] at h6
      have e : ds[findK ds key - 1 + 1]'(by omega) = ds[findK ds key] := by congr 1; omega
      rw [h5, e] at h6
      exact h6.2
  · rw [ctB_iff] at hc
    rcases Nat.lt_trichotomy j (findK ds key) with hj2 | hj2 | hj2
    · have := h2 j hj hj2
      rw [ebB_no] at this
      rcases hc.2 with h4 | h4
      · exact absurd h4 this.1
      · have h5 := this.2
        rw [cmp_flip (s := key)] at h5
        omega
    · exact hj2
    · obtain ⟨h4, h5⟩ := h.rise j (findK ds key) hlt hj hj2
      have h6 := h3 _ hlt (Nat.le_refl _)
      rw [ebB_iff] at h6
      rcases h6 with h6 | h6
      · exact absurd h6 h4
      · have h7 := cmp_lt_le (cmp_lt_le h6 h5) hc.1
        rw [cmp_refl] at h7
        omega

theorem Tab.mk' {ds : List RD} (pos : 0 < ds.length) (first : ∀ r, ds[0]? = some r → r.fr = []) (last : ∀ r, ds[ds.length - 1]? = some r → r.to = []) (next : ∀ i r s, ds[i]? = some r → ds[i + 1]? = some s → r.to ≠ [] ∧ r.to = s.fr)
    (som : ∀ r ∈ ds, r.to = [] ∨ cmp r.fr r.to < 0) (gen : GenOk ds) (many : ds.length ≤ 32) : Tab ds :=
  ⟨pos, fun h => first _ (List.getElem?_eq_getElem h), fun h => last _ (List.getElem?_eq_getElem h), fun i h => next i _ _ (List.getElem?_eq_getElem (by omega)) (List.getElem?_eq_getElem h), fun i h => som _ (List.getElem_mem h), gen, many⟩
theorem Tab.next' {ds : List RD} (h : Tab ds) {i : Nat} {r s : RD} (hr : ds[i]? = some r) (hs : ds[i + 1]? = some s) : r.to ≠ [] ∧ r.to = s.fr := by
  obtain ⟨h1, rfl⟩ := List.getElem?_eq_some_iff.1 hr
  obtain ⟨h2, rfl⟩ := List.getElem?_eq_some_iff.1 hs
  exact h.next i h2
theorem ins_get {α : Type} {l : List α} {i : Nat} (h : i < l.length) (a b : α) (j : Nat) : (l.take i ++ [a, b] ++ l.drop (i + 1))[j]? = if j < i then l[j]? else if j = i then some a else if j = i + 1 then some b else l[j - 1]? := by
  have hl : (l.take i).length = i := by rw [List.length_take]; omega
  rw [List.append_assoc]
  by_cases h1 : j < i
  · rw [if_pos h1, List.getElem?_append_left (by omega), List.getElem?_take, if_pos h1]
  · rw [if_neg h1, List.getElem?_append_right (by omega), hl]
    by_cases h2 : j = i
    · rw [if_pos h2, show j - i = 0 by omega]; rfl
    · rw [if_neg h2]
      by_cases h3 : j = i + 1
      · rw [if_pos h3, show j - i = 1 by omega]; rfl
      · rw [if_neg h3, show j - i = (j - i - 2) + 1 + 1 by omega]
        simp only [List.cons_append, List.nil_append, List.getElem?_cons_succ]
        rw [List.getElem?_drop, show i + 1 + (j - i - 2) = j - 1 by omega]
theorem ins_len {α : Type} {l : List α} {i : Nat} (h : i < l.length) (a b : α) : (l.take i ++ [a, b] ++ l.drop (i + 1)).length = l.length + 1 := by
  simp only [List.length_append, List.length_take, List.length_drop, List.length_cons, List.length_nil]
  omega
theorem tab_ins {ds : List RD} (h : Tab ds) {i : Nat} {r : RD} (hr : ds[i]? = some r) {key : List UInt8} {other : Int} (hc : ctB r.fr r.to key = true) (hk : key ≠ r.fr) (hg : r.gen ≠ maxGen) (hn : ds.length < 32) :
    Tab (ds.take i ++ [⟨r.id, r.gen + 1, r.fr, key⟩, ⟨other, r.gen + 1, key, r.to⟩] ++ ds.drop (i + 1)) := by
  obtain ⟨hi, hri⟩ := List.getElem?_eq_some_iff.1 hr
  have hpos := h.pos
  rw [ctB_iff] at hc
  have hlt : cmp r.fr key < 0 := by
    have h1 := hc.1
    have h2 : cmp r.fr key ≠ 0 := fun h0 => hk (cmp_eq0 h0).symm
    omega
  have hkne : key ≠ [] := fun h0 => by
    have h2 := cmp_nil_ge r.fr
    rw [← h0] at h2
    omega
  have hgen := h.gen r (List.mem_of_getElem? hr)
  have hl := ins_len (l := ds) hi (⟨r.id, r.gen + 1, r.fr, key⟩ : RD) ⟨other, r.gen + 1, key, r.to⟩
  have G := ins_get (l := ds) hi (⟨r.id, r.gen + 1, r.fr, key⟩ : RD) ⟨other, r.gen + 1, key, r.to⟩
  refine Tab.mk' (by omega) (fun x hx => ?_) (fun x hx => ?_) (fun j x y hx hy => ?_) (fun x hx => ?_) (fun x hx => ?_) (by omega)
  · rw [G] at hx
    by_cases h0 : 0 < i
    · rw [if_pos h0, List.getElem?_eq_getElem hpos] at hx
      injection hx with hx
      rw [← hx]; exact h.first hpos
    · have h0 : i = 0 := by omega
      rw [if_neg (by omega), if_pos h0.symm] at hx
      injection hx with hx
      subst h0
      rw [← hx, ← hri]; exact h.first hpos
  · rw [G, hl, Nat.add_sub_cancel, if_neg (by omega), if_neg (by omega)] at hx
    by_cases h0 : ds.length = i + 1
    · rw [if_pos h0] at hx
      injection hx with hx
      rw [← hx]
      have e : ∀ k (hk : k < ds.length), k = i → ds[k] = r := fun k hk he => by subst he; exact hri
      have : ds[ds.length - 1]'(by omega) = r := e _ _ (by omega)
      rw [← this]
      exact h.last (by omega)
    · rw [if_neg h0, List.getElem?_eq_getElem (by omega)] at hx
      injection hx with hx
      rw [← hx]; exact h.last (by omega)
  · rw [G] at hx hy
    rcases Nat.lt_trichotomy (j + 1) i with h1 | h1 | h1
    · rw [if_pos (by omega)] at hx
      rw [if_pos h1] at hy
      exact h.next' hx hy
    · rw [if_pos (by omega)] at hx
      rw [if_neg (by omega), if_pos h1] at hy
      injection hy with hy
      have := h.next' hx (by rw [h1]; exact hr)
      rw [← hy]; exact this
    · by_cases h2 : j = i
      · rw [if_neg (by omega), if_pos h2] at hx
        rw [if_neg (by omega), if_neg (by omega), if_pos (by omega)] at hy
        injection hx with hx
        injection hy with hy
        rw [← hx, ← hy]
        exact ⟨hkne, rfl⟩
      · by_cases h3 : j = i + 1
        · rw [if_neg (by omega), if_neg h2, if_pos h3] at hx
          rw [if_neg (by omega), if_neg (by omega), if_neg (by omega)] at hy
          injection hx with hx
          rw [← hx]
          show r.to ≠ [] ∧ r.to = y.fr
          exact h.next' hr (by rw [show i + 1 = j + 1 - 1 by omega]; exact hy)
        · rw [if_neg (by omega), if_neg h2, if_neg h3] at hx
          rw [if_neg (by omega), if_neg (by omega), if_neg (by omega)] at hy
          exact h.next' hx (by rw [show j - 1 + 1 = j + 1 - 1 by omega]; exact hy)
  · rcases List.mem_append.1 hx with hx | hx
    · rcases List.mem_append.1 hx with hx | hx
      · obtain ⟨k, hk', rfl⟩ := List.mem_iff_getElem.1 (List.mem_of_mem_take hx)
        exact h.wide k hk'
      · simp only [List.mem_cons, List.not_mem_nil, or_false] at hx
        rcases hx with rfl | rfl
        · exact .inr hlt
        · exact hc.2
    · obtain ⟨k, hk', rfl⟩ := List.mem_iff_getElem.1 (List.mem_of_mem_drop hx)
      exact h.wide k hk'
  · rcases List.mem_append.1 hx with hx | hx
    · rcases List.mem_append.1 hx with hx | hx
      · exact h.gen x (List.mem_of_mem_take hx)
      · unfold maxGen at hg
        simp only [List.mem_cons, List.not_mem_nil, or_false] at hx
        rcases hx with rfl | rfl <;> simp only <;> omega
    · exact h.gen x (List.mem_of_mem_drop hx)
theorem splitD_tab {ds : List RD} (h : Tab ds) (id other : Int) (key : List UInt8) : Tab (splitD ds id other key).1 := by
  unfold splitD
  split
  · exact h
  · rename_i r hr
    split
    · exact h
    · rename_i h1
      split
      · exact h
      · split
        · exact h
        · rename_i h3
          exact tab_ins h hr (by cases hc : ctB r.fr r.to key; exact absurd (.inr (.inl hc)) h1; rfl) (fun e => h1 (.inr (.inr e))) (fun e => h3 (.inr e)) (by
            rcases Nat.lt_or_ge ds.length 32 with h4 | h4
            · exact h4
            · exact absurd (.inl h4) h3)

/-- the parts of a span, one behind the other, are the span -/
structure Whole (ps : List PD) (g u : List UInt8) : Prop where
  pos : 0 < ps.length
  first : ∀ p, ps[0]? = some p → p.f = g
  last : ∀ p, ps[ps.length - 1]? = some p → p.t = u
  next : ∀ i p q, ps[i]? = some p → ps[i + 1]? = some q → p.t ≠ [] ∧ p.t = q.f
theorem tw_get {α : Type} {p : α → Bool} : ∀ {l : List α} {i : Nat} {x : α}, (l.takeWhile p)[i]? = some x → l[i]? = some x ∧ p x = true
  | [], i, x, h => by simp at h
  | a :: l, i, x, h => by
    simp only [List.takeWhile] at h
    split at h
    · rename_i ha
      cases i with
      | zero =>
        simp only [List.getElem?_cons_zero, Option.some.injEq] at h
        subst h
        exact ⟨rfl, ha⟩
      | succ i =>
        simp only [List.getElem?_cons_succ] at h ⊢
        exact tw_get h
    · simp at h
theorem tw_end {α : Type} {p : α → Bool} : ∀ {l : List α} {x : α}, l[(l.takeWhile p).length]? = some x → p x = false
  | [], x, h => by simp at h
  | a :: l, x, h => by
    by_cases ha : p a = true
    · have e : ((a :: l).takeWhile p).length = (l.takeWhile p).length + 1 := by simp [List.takeWhile, ha]
      rw [e, List.getElem?_cons_succ] at h
      exact tw_end h
    · have e : ((a :: l).takeWhile p).length = 0 := by simp [List.takeWhile, ha]
      rw [e, List.getElem?_cons_zero] at h
      injection h with h
      rw [← h]; simpa using ha
theorem cut_whole {ds : List RD} (h : Tab ds) {g u : List UInt8} (he : emB g u = false) : Whole (cutD ds g u) g u := by
  obtain ⟨hk, hc, _⟩ := h.has g
  obtain ⟨k, hkk⟩ : ∃ k, k = findK ds g := ⟨_, rfl⟩
  have hkl : k < ds.length := by rw [hkk]; exact hk
  have hck : ctB ds[k].fr ds[k].to g = true := by
    have : ∀ j (hj : j < ds.length), j = findK ds g → ctB ds[j].fr ds[j].to g = true := fun j hj e => by subst e; exact hc
    exact this k hkl hkk
  rw [ctB_iff] at hck
  have hem : ¬ (u ≠ [] ∧ cmp u g ≤ 0) := fun hh => by rw [← emB_iff, he] at hh; cases hh
  have hgu : u = [] ∨ cmp g u < 0 := by
    by_cases h0 : u = []
    · exact .inl h0
    · right
      have : ¬ cmp u g ≤ 0 := fun hh => hem ⟨h0, hh⟩
      rw [cmp_flip (s := u) (t := g)]; omega
  obtain ⟨D, hD⟩ : ∃ D, D = (ds.drop k).takeWhile fun r => ebB u r.fr := ⟨_, rfl⟩
  have hcut : cutD ds g u = D.map fun r => ⟨r, shF r.fr g, shT r.to u⟩ := by
    unfold cutD
    rw [if_neg (by rw [he]; simp), ← hkk, hD]
  have hDg : ∀ i r, D[i]? = some r → ds[k + i]? = some r ∧ (u = [] ∨ cmp r.fr u < 0) := fun i r hr => by
    rw [hD] at hr
    obtain ⟨h1, h2⟩ := tw_get hr
    rw [List.getElem?_drop] at h1
    exact ⟨h1, ebB_iff.1 h2⟩
  have hDe : ∀ r, ds[k + D.length]? = some r → u ≠ [] ∧ cmp u r.fr ≤ 0 := fun r hr => by
    have := tw_end (p := fun r : RD => ebB u r.fr) (l := ds.drop k) (x := r) (by rw [← hD, List.getElem?_drop]; exact hr)
    exact ebB_no.1 this
  have hDp : 0 < D.length := by
    rcases Nat.eq_zero_or_pos D.length with h0 | h0
    · have := hDe ds[k] (by rw [h0, Nat.add_zero]; exact List.getElem?_eq_getElem hkl)
      rcases hgu with h1 | h1
      · exact absurd h1 this.1
      · have h2 := cmp_le_lt (cmp_le_trans this.2 hck.1) h1
        rw [cmp_refl] at h2; omega
    · exact h0
  -- where a part begins, and where it ends
  have hF0 : ∀ r, D[0]? = some r → shF r.fr g = g := fun r hr => by
    have h1 := (hDg 0 r hr).1
    rw [Nat.add_zero, List.getElem?_eq_getElem hkl] at h1
    injection h1 with h1
    rw [← h1]
    unfold shF
    split
    · rfl
    · rename_i h2
      have h3 := hck.1
      rw [cmp_flip (s := ds[k].fr) (t := g)] at h2
      exact cmp_eq0 (by omega)
  have hFs : ∀ i r, D[i + 1]? = some r → shF r.fr g = r.fr := fun i r hr => by
    have h1 := (hDg (i + 1) r hr).1
    obtain ⟨h2, h3⟩ := List.getElem?_eq_some_iff.1 h1
    obtain ⟨h4, h5⟩ := h.rise (k + (i + 1)) k hkl h2 (by omega)
    rw [h3] at h5
    unfold shF
    rw [if_neg]
    intro h6
    rcases hck.2 with h7 | h7
    · exact h4 h7
    · have h8 := cmp_lt_le h7 h5
      omega
  have hT : ∀ i r s, D[i]? = some r → D[i + 1]? = some s → shT r.to u = r.to ∧ r.to ≠ [] ∧ r.to = s.fr := fun i r s hr hs => by
    have h1 := (hDg i r hr).1
    have h2 := hDg (i + 1) s hs
    obtain ⟨h3, h4⟩ := h.next' h1 (by rw [Nat.add_assoc]; exact h2.1)
    refine ⟨?_, h3, h4⟩
    unfold shT
    rw [if_neg h3]
    split
    · rfl
    · rename_i h5
      rw [if_neg]
      rcases h2.2 with h6 | h6
      · exact absurd h6 h5
      · rw [h4, cmp_flip (s := s.fr) (t := u)]; omega
  have hTl : ∀ r, D[D.length - 1]? = some r → shT r.to u = u := fun r hr => by
    have h1 := (hDg _ r hr).1
    obtain ⟨h2, h3⟩ := List.getElem?_eq_some_iff.1 h1
    unfold shT
    by_cases h4 : r.to = []
    · rw [if_pos h4]
    · rw [if_neg h4]
      by_cases h5 : k + D.length < ds.length
      · have h6 := hDe _ (List.getElem?_eq_getElem h5)
        rw [if_neg h6.1]
        have h7 := (h.next' h1 (s := ds[k + D.length]) (by rw [show k + (D.length - 1) + 1 = k + D.length by omega]; exact List.getElem?_eq_getElem h5)).2
        rw [← h7] at h6
        split
        · rfl
        · exact (cmp_eq0 (by omega)).symm
      · have h6 := h.last (by omega)
        have e : ∀ j (hj : j < ds.length), j = k + (D.length - 1) → ds[j] = r := fun j hj e => by subst e; exact h3
        rw [e (ds.length - 1) (by omega) (by omega)] at h6
        exact absurd h6 h4
  rw [hcut]
  refine ⟨by simpa using hDp, fun p hp => ?_, fun p hp => ?_, fun i p q hp hq => ?_⟩
  · rw [List.getElem?_map] at hp
    cases hr : D[0]? with
    | none => rw [hr] at hp; cases hp
    | some r =>
      rw [hr] at hp
      injection hp with hp
      rw [← hp]; exact hF0 r hr
  · rw [List.getElem?_map, List.length_map] at hp
    cases hr : D[D.length - 1]? with
    | none => rw [hr] at hp; cases hp
    | some r =>
      rw [hr] at hp
      injection hp with hp
      rw [← hp]; exact hTl r hr
  · rw [List.getElem?_map] at hp hq
    cases hr : D[i]? with
    | none => rw [hr] at hp; cases hp
    | some r =>
      cases hs : D[i + 1]? with
      | none => rw [hs] at hq; cases hq
      | some s =>
        rw [hr] at hp
        rw [hs] at hq
        injection hp with hp
        injection hq with hq
        obtain ⟨h1, h2, h3⟩ := hT i r s hr hs
        rw [← hp, ← hq]
        simp only
        rw [h1, hFs i s hs]
        exact ⟨h2, h3⟩
end Go.Proofs.Ytninjoepdchmiaa
