/-
  The reader of the reference, as functions on bytes; a right message is read from its own bytes.
-/
import Derived.Test.YtekgmgiokmbliaaBack4
set_option linter.unusedVariables false
namespace Go.Proofs.Ytekgmgiokmbliaa
open Go.RowKit

def xbyte : RS → Nat × RS
  | (l, true) => (0, (l, true))
  | ([], false) => (0, ([], true))
  | (c :: r, false) => (c.toNat, (r, false))
/-- a count: rounds left, how many are done, what is gathered, the next one's weight -/
def xcF : Nat → Nat → Nat → Nat → RS → Nat × RS
  | 0, _, _, _, s => (0, (s.1, true))
  | f + 1, k, N, S, s =>
    if (xbyte s).1 < 128 then
      (N + (xbyte s).1 * S, ((xbyte s).2.1, (xbyte s).2.2 || (decide (0 < k) && decide ((xbyte s).1 = 0) || decide (9007199254740991 < N + (xbyte s).1 * S))))
    else xcF f (k + 1) (N + ((xbyte s).1 - 128) * S) (S * 128) (xbyte s).2
def xcount (s : RS) : Nat × RS := xcF 8 0 0 1 s
def xtext (s : RS) : List UInt8 × RS :=
  if (xcount s).2.2 = true ∨ (xcount s).2.1.length < (xcount s).1 then ([], ((xcount s).2.1, true))
  else ((xcount s).2.1.take (xcount s).1, ((xcount s).2.1.drop (xcount s).1, false))
def xeF (index : Int) : Nat → Nat → List Ent → RS → List Ent × RS
  | 0, _, acc, s => (acc, s)
  | f + 1, k, acc, s => if s.2 = true then (acc, s) else
    xeF index f (k + 1) (acc ++ [⟨index + 1 + k, (xcount s).1, (xbyte (xcount s).2).1, (xtext (xbyte (xcount s).2).2).1⟩]) (xtext (xbyte (xcount s).2).2).2
def xentries (index : Int) (n : Nat) (s : RS) : List Ent × RS := xeF index (min n 65) 0 [] s

theorem xbyte_cons (c : UInt8) (r : List UInt8) : xbyte (c :: r, false) = (c.toNat, (r, false)) := rfl
theorem xbyte_lt (s : RS) : (xbyte s).1 < 256 := by
  obtain ⟨l, b⟩ := s
  cases b with
  | true => simp [xbyte]
  | false => cases l with
    | nil => simp [xbyte]
    | cons x r => exact x.toNat_lt
theorem xbyte_len (s : RS) : (xbyte s).2.1.length ≤ s.1.length := by
  obtain ⟨l, b⟩ := s
  cases b with
  | true => simp [xbyte]
  | false => cases l <;> simp [xbyte]
theorem xcount_len (s : RS) : (xcount s).2.1.length ≤ s.1.length := by
  have : ∀ f k N S s, (xcF f k N S s).2.1.length ≤ s.1.length := by
    intro f
    induction f with
    | zero => intro k N S s; exact Nat.le_refl _
    | succ f ih =>
      intro k N S s
      rw [xcF]
      split
      · exact xbyte_len s
      · exact Nat.le_trans (ih _ _ _ _) (xbyte_len s)
  exact this 8 0 0 1 s
theorem growX {N S c : Nat} (hN : N < S) (hc : c < 128) : N + c * S < S * 128 := by
  have : c * S ≤ 127 * S := Nat.mul_le_mul_right _ (by omega)
  omega
theorem xcount_lt (s : RS) : (xcount s).1 < 72057594037927936 := by
  have : ∀ f k N S s, S * 128 ^ f = 72057594037927936 → N < S → (xcF f k N S s).1 < 72057594037927936 := by
    intro f
    induction f with
    | zero => intro k N S s _ _; show 0 < _; decide
    | succ f ih =>
      intro k N S s hS hN
      have hS' : S * 128 * 128 ^ f = 72057594037927936 := by rw [← hS, Nat.pow_succ, Nat.mul_assoc, Nat.mul_comm 128]
      rw [xcF]
      split
      · rename_i h
        have h1 := growX hN h
        have h2 : 1 ≤ 128 ^ f := Nat.pow_pos (by decide)
        have h3 : S * 128 * 1 ≤ S * 128 * 128 ^ f := Nat.mul_le_mul_left _ h2
        simp only
        omega
      · exact ih _ _ _ _ hS' (growX hN (by have := xbyte_lt s; omega))
  exact this 8 0 0 1 s (by decide) (by decide)
theorem xtext_len (s : RS) : (xtext s).2.1.length ≤ s.1.length := by
  have := xcount_len s
  unfold xtext
  split
  · exact this
  · simp only [List.length_drop]; omega
theorem xtext_le (s : RS) : (xtext s).1.length ≤ s.1.length := by
  have h := xcount_len s
  unfold xtext
  split
  · exact Nat.zero_le _
  · simp only [List.length_take]; omega

theorem xcF_vb (r : List UInt8) : ∀ (f k N S n : Nat), (k = 0 ∨ 0 < n) → n < 128 ^ (f + 1) → xcF (f + 1) k N S (vb n ++ r, false) = (N + n * S, (r, decide (9007199254740991 < N + n * S)))
  | 0, k, N, S, n, hk, h => by
    have hn : n < 128 := by simpa using h
    have hz : (decide (0 < k) && decide (n = 0)) = false := by
      rcases hk with h | h
      · rw [h]; rfl
      · rw [decide_eq_false (by omega : ¬ n = 0), Bool.and_false]
    rw [vb_lt hn, List.singleton_append, xcF, xbyte_cons, by8_of (by omega), if_pos hn]
    simp only [hz, Bool.false_or]
  | f + 1, k, N, S, n, hk, h => by
    by_cases hn : n < 128
    · have hz : (decide (0 < k) && decide (n = 0)) = false := by
        rcases hk with h | h
        · rw [h]; rfl
        · rw [decide_eq_false (by omega : ¬ n = 0), Bool.and_false]
      rw [vb_lt hn, List.singleton_append, xcF, xbyte_cons, by8_of (by omega), if_pos hn]
      simp only [hz, Bool.false_or]
    · have hm : n % 128 < 128 := Nat.mod_lt _ (by decide)
      rw [vb_ge hn, List.cons_append, xcF, xbyte_cons, by8_of (by omega), if_neg (by omega)]
      rw [xcF_vb r f (k + 1) _ _ (n / 128) (.inr (by omega)) (by rw [Nat.pow_succ] at h; exact Nat.div_lt_of_lt_mul (by omega))]
      have e2 : 128 + n % 128 - 128 = n % 128 := by omega
      have e3 : n % 128 + n / 128 * 128 = n := by omega
      have e4 : N + (128 + n % 128 - 128) * S + n / 128 * (S * 128) = N + n * S := by
        rw [e2, Nat.add_assoc, Nat.mul_comm S 128, ← Nat.mul_assoc, ← Nat.add_mul, e3]
      rw [e4]
theorem xcount_vb {n : Nat} (h : n ≤ 9007199254740991) (r : List UInt8) : xcount (vb n ++ r, false) = (n, (r, false)) := by
  unfold xcount
  rw [xcF_vb r 7 0 0 1 n (.inl rfl) (by omega)]
  simp only [Nat.mul_one, Nat.zero_add, decide_eq_false (by omega : ¬ 9007199254740991 < n)]
theorem xtext_vb {d : List UInt8} {n : Nat} (hn : n = d.length) (h : d.length ≤ 9007199254740991) (r : List UInt8) : xtext (vb n ++ (d ++ r), false) = (d, (r, false)) := by
  subst hn
  unfold xtext
  rw [xcount_vb h, if_neg (by simp)]
  simp
theorem xbyte_byI {x : Int} (h0 : 0 ≤ x) (h : x ≤ 255) (r : List UInt8) : xbyte (byI x :: r, false) = (x.toNat, (r, false)) := by
  rw [xbyte_cons]
  unfold byI
  rw [by8_of (by omega)]
theorem xcount_vi {x : Int} (h0 : 0 ≤ x) (h : x ≤ 9007199254740991) (r : List UInt8) : xcount (vi x ++ r, false) = (x.toNat, (r, false)) :=
  xcount_vb (by omega) r
theorem xbyte_tb (k : Bool) (r : List UInt8) : xbyte (tb k :: r, false) = ((if k then 1 else 0), (r, false)) := by
  cases k <;> rfl
theorem xent {e : Ent} (h : EntP e) (r : List UInt8) : xcount (entB e ++ r, false) = (e.term.toNat, (byI e.kind :: (vb e.data.length ++ (e.data ++ r)), false)) := by
  unfold entB
  rw [show vi e.term ++ [byI e.kind] ++ vb e.data.length ++ e.data ++ r = vi e.term ++ (byI e.kind :: (vb e.data.length ++ (e.data ++ r))) by simp only [List.append_assoc, List.cons_append, List.nil_append]]
  exact xcount_vi (by have := h.1; omega) h.1.2 _
theorem xeF_ents (idx : Int) (r : List UInt8) : ∀ (es : List Ent) (k : Nat) (acc : List Ent), (∀ i (h : i < es.length), EntP es[i] ∧ es[i].index = idx + 1 + ((k + i : Nat) : Int)) → xeF idx es.length k acc (es.flatMap entB ++ r, false) = (acc ++ es, (r, false))
  | [], k, acc, _ => by simp [xeF]
  | e :: es, k, acc, h => by
    obtain ⟨h1, h2⟩ := h 0 (by simp)
    simp only [List.getElem_cons_zero] at h1 h2
    rw [List.length_cons, xeF, if_neg (by simp), List.flatMap_cons, List.append_assoc, xent h1]
    simp only [xbyte_byI h1.kind.1 h1.kind.2, xtext_vb rfl (Nat.le_trans h1.data (by decide))]
    rw [xeF_ents idx r es (k + 1) _ (fun i hi => by
      have := h (i + 1) (by simp; omega)
      simp only [List.getElem_cons_succ] at this
      refine ⟨this.1, this.2.trans ?_⟩
      congr 1
      omega)]
    have ht : ((e.term.toNat : Nat) : Int) = e.term := by have := h1.1; omega
    have hk : ((e.kind.toNat : Nat) : Int) = e.kind := by have := h1.kind; omega
    rw [ht, hk, show (⟨idx + 1 + (k : Nat), e.term, e.kind, e.data⟩ : Ent) = e by rw [show idx + 1 + (k : Int) = e.index by rw [h2]; simp]]
    simp
theorem xentries_ents (idx : Int) (r : List UInt8) (es : List Ent) (hl : es.length ≤ 64) (h : ∀ i (h : i < es.length), EntP es[i] ∧ es[i].index = idx + 1 + (i : Int)) : xentries idx es.length (es.flatMap entB ++ r, false) = (es, (r, false)) := by
  unfold xentries
  rw [Nat.min_eq_left (by omega), xeF_ents idx r es 0 [] (fun i hi => by simpa using h i hi), List.nil_append]

/-- a message read off the front of bytes, as the reference does -/
def xmsg (s : RS) : Msg × RS :=
  let k := xbyte s
  let g := xbyte k.2
  let f := xbyte g.2
  let d := xbyte f.2
  let t := xcount d.2
  if k.1 = 1 then
    let i := xcount t.2
    let l := xcount i.2
    (⟨k.1, g.1, f.1, d.1, t.1, i.1, l.1, 0, false, [], [], []⟩, l.2)
  else if k.1 = 2 then
    let b := xbyte t.2
    (⟨k.1, g.1, f.1, d.1, t.1, 0, 0, 0, (b.1 : Int) == 1, [], [], []⟩, b.2)
  else if k.1 = 3 then
    let i := xcount t.2
    let l := xcount i.2
    let c := xcount l.2
    let n := xcount c.2
    let e := xentries i.1 n.1 n.2
    (⟨k.1, g.1, f.1, d.1, t.1, i.1, l.1, c.1, false, e.1, [], []⟩, e.2)
  else if k.1 = 4 then
    let b := xbyte t.2
    let i := xcount b.2
    (⟨k.1, g.1, f.1, d.1, t.1, i.1, 0, 0, (b.1 : Int) == 1, [], [], []⟩, i.2)
  else if k.1 = 5 then
    let i := xcount t.2
    let l := xcount i.2
    let m := xtext l.2
    let a := xtext m.2
    (⟨k.1, g.1, f.1, d.1, t.1, i.1, l.1, 0, false, [], intsOf m.1, a.1⟩, a.2)
  else (⟨k.1, g.1, f.1, d.1, t.1, 0, 0, 0, false, [], [], []⟩, t.2)
theorem xmsg_encB {m : Msg} (h : RightP m) (r : List UInt8) : xmsg (encB m ++ r, false) = (m, (r, false)) := by
  obtain ⟨k, g, f, d, t, i, l, c, ok, es, ms, da⟩ := m
  obtain ⟨⟨hg, hf, hd, ht⟩, ⟨hi, hl, hc⟩, hk⟩ := h
  unfold KindP NoneP at hk
  unfold CountP at hi hl hc
  unfold NodeP at hf hd
  simp only at hg hf hd ht hi hl hc hk
  have hkb : 0 ≤ k ∧ k ≤ 255 := by rcases hk with h | h | h | h | h <;> omega
  have e0 : ∀ m : Msg, encB m ++ r = byI m.kind :: byI m.group :: byI m.frm :: byI m.dst :: (vi m.term ++ (restB m ++ r)) := fun m => by
    unfold encB headB; simp only [List.append_assoc, List.cons_append, List.nil_append]
  have ek : ((k.toNat : Nat) : Int) = k := by omega
  have eg : ((g.toNat : Nat) : Int) = g := by omega
  have ef : ((f.toNat : Nat) : Int) = f := by omega
  have ed : ((d.toNat : Nat) : Int) = d := by omega
  have et : ((t.toNat : Nat) : Int) = t := by omega
  have ei : ((i.toNat : Nat) : Int) = i := by omega
  have el : ((l.toNat : Nat) : Int) = l := by omega
  have ec : ((c.toNat : Nat) : Int) = c := by omega
  rw [e0]
  unfold xmsg
  simp only [xbyte_byI hkb.1 hkb.2, xbyte_byI (x := g) (by omega) (by omega), xbyte_byI (x := f) (by omega) (by omega), xbyte_byI (x := d) (by omega) (by omega), xcount_vi (x := t) (by omega) (by omega), ek, eg, ef, ed, et]
  unfold restB
  simp only
  rcases hk with ⟨h1, h2, h3, h4, h5, h6⟩ | ⟨h1, h2, h3, h4, h5, h6, h7⟩ | ⟨h1, h2, ⟨h3, h4⟩, h5, h6⟩ | ⟨h1, h2, h3, h4, h5, h6⟩ | ⟨h1, h2, h3, h4, h5, h6, h7⟩
  · have hk1 : k.toNat = 1 := by omega
    have h4 := List.length_eq_zero_iff.1 h4
    have h5 := List.length_eq_zero_iff.1 h5
    have h6 := List.length_eq_zero_iff.1 h6
    rw [if_pos hk1, if_pos h1]
    simp only [List.append_assoc, xcount_vi hi.1 hi.2, xcount_vi hl.1 hl.2, ei, el]
    rw [h2, h3, h4, h5, h6]
  · have h5 := List.length_eq_zero_iff.1 h5
    have h6 := List.length_eq_zero_iff.1 h6
    have h7 := List.length_eq_zero_iff.1 h7
    rw [if_neg (by omega), if_pos (by omega), if_neg (by omega), if_pos h1]
    simp only [List.cons_append, List.nil_append, xbyte_tb]
    rw [h2, h3, h4, h5, h6, h7]
    cases ok <;> rfl
  · have h3 := List.length_eq_zero_iff.1 h3
    have h4 := List.length_eq_zero_iff.1 h4
    rw [if_neg (by omega), if_neg (by omega), if_pos (by omega), if_neg (by omega), if_neg (by omega), if_pos h1]
    have h9 : es.length ≤ 64 := h6.1
    have hE := xentries_ents i r es h9 (fun j hj => ⟨(h6.2 j hj).1, (h6.2 j hj).2.1⟩)
    simp only [List.append_assoc, xcount_vi hi.1 hi.2, xcount_vi hl.1 hl.2, xcount_vi hc.1 hc.2, xcount_vb (n := es.length) (by omega), ei, el, ec, hE]
    rw [h2, h3, h4]
  · have h4 := List.length_eq_zero_iff.1 h4
    have h5 := List.length_eq_zero_iff.1 h5
    have h6 := List.length_eq_zero_iff.1 h6
    rw [if_neg (by omega), if_neg (by omega), if_neg (by omega), if_pos (by omega), if_neg (by omega), if_neg (by omega), if_neg (by omega), if_pos h1]
    simp only [List.cons_append, List.nil_append, xbyte_tb, xcount_vi hi.1 hi.2, ei]
    rw [h2, h3, h4, h5, h6]
    cases ok <;> rfl
  · have h4 := List.length_eq_zero_iff.1 h4
    rw [if_neg (by omega), if_neg (by omega), if_neg (by omega), if_neg (by omega), if_pos (by omega), if_neg (by omega), if_neg (by omega), if_neg (by omega), if_neg (by omega), if_pos h1]
    have h8 := h5.2.five
    simp only [List.append_assoc, xcount_vi hi.1 hi.2, xcount_vi hl.1 hl.2, ei, el, xtext_vb (d := ms.map byI) (n := ms.length) (by simp) (by simp; omega), xtext_vb (d := da) rfl (by omega), ints_back h5.2.byte]
    rw [h2, h3, h4]

/-- what the reference's Decode answers is what the bytes are -/
theorem xmsg_bad {b : List UInt8} (h : (xmsg (b, false)).2.2 = true) : decB b = none :=
  decB_none.2 fun m h1 h2 => by
    have h3 := xmsg_encB h1 []
    rw [List.append_nil, h2] at h3
    rw [h3] at h
    exact nomatch h
theorem xmsg_no {b : List UInt8} (h : ¬ (RightP (xmsg (b, false)).1 ∧ encB (xmsg (b, false)).1 = b)) : decB b = none :=
  decB_none.2 fun m h1 h2 => by
    have h3 := xmsg_encB h1 []
    rw [List.append_nil, h2] at h3
    rw [h3] at h
    exact h ⟨h1, h2⟩
theorem xmsg_yes {b : List UInt8} (h1 : RightP (xmsg (b, false)).1) (h2 : encB (xmsg (b, false)).1 = b) : decB b = some (xmsg (b, false)).1 := decB_some.2 ⟨h1, h2⟩

theorem xeF_all (P : List Ent → Prop) (idx : Int) (B : Nat) (hs : ∀ acc i t k s, s.1.length ≤ B → P acc → P (acc ++ [⟨i, t, k, (xtext s).1⟩])) : ∀ (f k : Nat) (acc : List Ent) (s : RS), s.1.length ≤ B → P acc → P (xeF idx f k acc s).1
  | 0, _, _, _, _, h => h
  | f + 1, k, acc, s, hl, h => by
    rw [xeF]
    split
    · exact h
    · have l1 : (xbyte (xcount s).2).2.1.length ≤ B := Nat.le_trans (xbyte_len _) (Nat.le_trans (xcount_len s) hl)
      exact xeF_all P idx B hs f (k + 1) _ _ (Nat.le_trans (xtext_len _) l1) (hs _ _ _ _ _ l1 h)
theorem xeF_length (idx : Int) : ∀ (f k : Nat) (acc : List Ent) (s : RS), (xeF idx f k acc s).1.length ≤ acc.length + f
  | 0, _, _, _ => Nat.le_refl _
  | f + 1, k, acc, s => by
    rw [xeF]
    split
    · simp
    · have := xeF_length idx f (k + 1) (acc ++ [⟨idx + 1 + k, (xcount s).1, (xbyte (xcount s).2).1, (xtext (xbyte (xcount s).2).2).1⟩]) (xtext (xbyte (xcount s).2).2).2
      simp only [List.length_append, List.length_singleton] at this
      omega
theorem xentries_small (idx : Int) (n : Nat) (s : RS) (hl : s.1.length ≤ 1048576) : (xentries idx n s).1.length ≤ 1048576 ∧ ∀ e ∈ (xentries idx n s).1, e.data.length ≤ 1048576 := by
  unfold xentries
  refine ⟨by have := xeF_length idx (min n 65) 0 [] s; simp only [List.length_nil] at this; omega, ?_⟩
  refine xeF_all (fun es => ∀ e ∈ es, e.data.length ≤ 1048576) idx 1048576 ?_ _ _ _ _ hl (fun e h => nomatch h)
  intro acc i t k s hs h e he
  rcases List.mem_append.1 he with he | he
  · exact h e he
  · rw [List.mem_singleton.1 he]
    exact Nat.le_trans (xtext_le s) hs
end Go.Proofs.Ytekgmgiokmbliaa
