/-
  Plain words for bytes in memory: what a byte is as a value; a slice that reads as a list of bytes. Nothing of the program stands here.
-/
import Derived.Test.YtninjoepdchmiaaRows
import Derived.WalkKit
import Derived.Deep.Draws
import Derived.Lib.Hide
import Derived.Deep.QuietTactic
import Derived.OwnWalk
import Derived.Deep.DeepAppendWide
namespace Go.Proofs.Ytninjoepdchmiaa
open Go.RowKit

/-- a byte as a value -/
def bv (b : UInt8) : Value := .int .u8 (b.toNat : Int)

/-- the slice at A reads as the bytes l, below block B -/
def Rd (w : World) (B : Nat) (A : Option Addr) (l : List UInt8) : Prop :=
  l = [] ∨ ∃ g o, A = some ⟨g, o, none⟩ ∧ g < B ∧ ∀ i (h : i < l.length), w.cell? ⟨g, o + i, none⟩ = some (bv l[i])

theorem Rd.nil_ (w : World) (B : Nat) (A : Option Addr) : Rd w B A [] := .inl rfl
theorem Rd.keep {w w' : World} {B : Nat} {A : Option Addr} {l : List UInt8} (h : Rd w B A l) (hk : ∀ p : Addr, p.block < B → w'.cell? p = w.cell? p) : Rd w' B A l := by
  rcases h with h | ⟨g, o, e, hb, hc⟩
  · exact .inl h
  · exact .inr ⟨g, o, e, hb, fun i hi => (hk _ hb).trans (hc i hi)⟩
theorem Rd.more {w : World} {B B' : Nat} {A : Option Addr} {l : List UInt8} (h : Rd w B A l) (hB : B ≤ B') : Rd w B' A l := by
  rcases h with h | ⟨g, o, e, hb, hc⟩
  · exact .inl h
  · exact .inr ⟨g, o, e, by omega, hc⟩
theorem Rd.below {w w' : World} {B : Nat} {A : Option Addr} {l : List UInt8} (h : Rd w B A l) (hb : Below B w w') : Rd w' B A l := h.keep fun _ hp => hb.cell hp
theorem Rd.drewN {w : World} {B : Nat} {A : Option Addr} {l : List UInt8} (h : Rd w B A l) (k : Nat) : Rd (w.drewN k) B A l := h

theorem below_drewN {B : Nat} {a w : World} (h : Below B a w) (n : Nat) : Below B a (w.drewN n) := ⟨h.os, h.tape, h.output, h.size, h.block⟩

/-- a callee that turns nothing, called in a region that only reads: behind one count of draws, and behind two -/
theorem still1 {P : Program} {f : FuncId} {args : Array Value} {w : World} {n : Nat} {v : Value}
    (h : Calls P f args (w.drewN n) fun e w' => e = .returned v ∧ w.drewN n = w') : Calls P f args (w.drewN n) fun e w'' => e = .returned v ∧ ∃ m, w'' = w.drewN m :=
  h.mono fun _ _ ⟨he, hm⟩ => ⟨he, n, hm.symm⟩
theorem still2 {P : Program} {f : FuncId} {args : Array Value} {w : World} {a n : Nat} {v : Value}
    (h : Calls P f args (w.drewN (a + n)) fun e w' => e = .returned v ∧ w.drewN (a + n) = w') : Calls P f args (w.drewN (a + n)) fun e w'' => e = .returned v ∧ ∃ m, w'' = w.drewN (a + m) :=
  h.mono fun _ _ ⟨he, hm⟩ => ⟨he, n, hm.symm⟩

/-- the order of two lists of bytes: -1, 0, 1 -/
def cmp : List UInt8 → List UInt8 → Int
  | [], [] => 0
  | [], _ :: _ => -1
  | _ :: _, [] => 1
  | a :: s, b :: t => if a.toNat < b.toNat then -1 else if b.toNat < a.toNat then 1 else cmp s t

theorem cmp_swap : ∀ s t, cmp t s = -cmp s t
  | [], [] => rfl
  | [], _ :: _ => rfl
  | _ :: _, [] => rfl
  | a :: s, b :: t => by
    simp only [cmp]
    have := cmp_swap s t
    split <;> split <;> first | omega | (simp; done) | exact this

theorem cmp_rng : ∀ s t, cmp s t = -1 ∨ cmp s t = 0 ∨ cmp s t = 1
  | [], [] => .inr (.inl rfl)
  | [], _ :: _ => .inl rfl
  | _ :: _, [] => .inr (.inr rfl)
  | a :: s, b :: t => by
    simp only [cmp]
    have := cmp_rng s t
    split <;> first | exact .inl rfl | (split <;> first | exact .inr (.inr rfl) | exact this)

theorem drop_cons {l : List UInt8} {k : Nat} (h : k < l.length) : l.drop k = l[k] :: l.drop (k + 1) := List.drop_eq_getElem_cons h

theorem cmp_lt {s t : List UInt8} {k : Nat} (hs : k < s.length) (ht : k < t.length) (h : s[k].toNat < t[k].toNat) : cmp (s.drop k) (t.drop k) = -1 := by
  rw [drop_cons hs, drop_cons ht]; simp [cmp, h]
theorem cmp_gt {s t : List UInt8} {k : Nat} (hs : k < s.length) (ht : k < t.length) (h : t[k].toNat < s[k].toNat) : cmp (s.drop k) (t.drop k) = 1 := by
  rw [drop_cons hs, drop_cons ht]; simp only [cmp]; rw [if_neg (by omega), if_pos h]
theorem cmp_eq {s t : List UInt8} {k : Nat} (hs : k < s.length) (ht : k < t.length) (h : s[k].toNat = t[k].toNat) : cmp (s.drop k) (t.drop k) = cmp (s.drop (k + 1)) (t.drop (k + 1)) := by
  rw [drop_cons hs, drop_cons ht]; simp only [cmp]; rw [if_neg (by omega), if_neg (by omega)]
theorem drop_nil {l : List UInt8} {k : Nat} (h : l.length ≤ k) : l.drop k = [] := List.drop_eq_nil_of_le h
theorem cmp_end {s t : List UInt8} {k : Nat} (h : k = min s.length t.length) : cmp (s.drop k) (t.drop k) = if s.length < t.length then -1 else if t.length < s.length then 1 else 0 := by
  by_cases h1 : s.length < t.length
  · have hk : k = s.length := by omega
    rw [if_pos h1, List.drop_eq_nil_of_le (by omega), drop_cons (by omega)]; rfl
  · by_cases h2 : t.length < s.length
    · rw [if_neg h1, if_pos h2, drop_cons (l := s) (by omega), drop_nil (l := t) (by omega)]; rfl
    · rw [if_neg h1, if_neg h2, List.drop_eq_nil_of_le (by omega), List.drop_eq_nil_of_le (by omega)]; rfl


/-! ### bytes that the call itself has made -/
theorem info8 : (Try.prog.info? 5).map (fun i => (i.zero, i.size, i.bytes)) = some (some (.int .u8 0), 1, 1) := by kernel_rfl

/-- the slice v owns the bytes l, in a row from block base on -/
def Own (w : World) (base : Nat) (v : Value) (l : List UInt8) : Prop := w.ownsRow base 5 1 v l.length (l.map bv)

theorem Own.rd {w : World} {base : Nat} {v : Value} {l : List UInt8} (h : Own w base v l) : ∃ A c, v = .slice A l.length c ∧ Rd w w.heap.size A l := by
  have hk := h
  unfold Own World.ownsRow at h
  rcases h.2 with ⟨rfl, hn⟩ | ⟨g, cap, cur, rfl, hb, hg, _, _, _, ht⟩
  · have : l = [] := List.eq_nil_of_length_eq_zero hn
    subst this
    exact ⟨none, 0, rfl, .inl rfl⟩
  · refine ⟨_, cap, rfl, .inr ⟨g, 0, rfl, (Array.getElem?_eq_some_iff.1 hg).1, fun i hi => ?_⟩⟩
    have := World.ownsRow.cells hk (g := g) rfl i (bv l[i]) (by simp [List.getElem?_map, List.getElem?_eq_getElem hi])
    have hadd : (⟨g, 0, none⟩ : Addr).add i = ⟨g, 0 + i, none⟩ := by unfold Addr.add; split <;> simp_all
    rw [hadd] at this
    exact this
theorem Own.nil_ (w : World) (base : Nat) : Own w base (.slice none 0 0) [] := World.ownsRow_nil _ _ _ _
theorem Own.alloc {w : World} {base : Nat} {v : Value} {l : List UInt8} (h : Own w base v l) (o : Obj) : Own (w.alloc o) base v l := World.ownsRow.alloc h o

theorem bv_one (b : UInt8) : (bv b).oneCell' = true := rfl
theorem add_at (g o j : Nat) : (⟨g, o, none⟩ : Addr).add j = ⟨g, o + j, none⟩ := by unfold Addr.add; split <;> simp_all

/-- nothing is appended -/
theorem run_app_nil {w : World} {base : Nat} {ty : TypeId} {v : Value} {n : Nat} {xs : List Value} (hown : w.ownsRow base 5 1 v n xs) (c : Nat) :
    (Builtin.append_ #[24, 24] ty #[v, .slice none 0 c]).run Try.prog w = .ok v w := by
  obtain ⟨i0, hi0, hz0, hz1, hz2⟩ := info_parts info8
  rcases hown.2 with ⟨rfl, rfl⟩ | ⟨g, cap, cur, rfl, _, _, hnc, _⟩
  · simp [Builtin.append_, run_underlying Try.underlying24, sizeOf, typeInfo, hi0, Builtin.lenOf, Builtin.firstCells]
  · simp [Builtin.append_, run_underlying Try.underlying24, sizeOf, typeInfo, hi0, Builtin.lenOf, Builtin.firstCells, hnc, storeCells]

/-- append(v, xs...): v the call's own, xs whatever reads as bytes -/
theorem app_bytes {ops : Array Oper} {rest : List Oper} {o : Oper} {a : Act} {Q : Exit → Act → World → Prop} (w : World) (base : Nat) (v : Value) (l m : List UInt8) (A : Option Addr) (c : Nat) (hgd : o.guard = none) (s x : Operand)
    (ho : o.op = .call { callee := .builtin .append, args := #[s, x], argTypes := #[24, 24] })
    (hs : a.eval s = v) (hx : a.eval x = .slice A m.length c) (hown : Own w base v l) (hr : Rd w w.heap.size A m) (hlen : l.length + m.length ≤ 225179981368000) (hbase : base ≤ w.heap.size)
    (h : ∀ v' w', Own w' base v' (l ++ m) → Below base w w' → w.grownBy w' v.ownBlock → wpList Try.prog ops Q rest (a.put o.dst v') w') : wpList Try.prog ops Q (o :: rest) a w := by
  obtain ⟨i0, hi0, hz0, hz1, hz2⟩ := info_parts info8
  have hmx : l.length + m.length ≤ maxLen := by unfold maxLen; omega
  have hbel : ∀ w', w.grownBy w' v.ownBlock → Below base w w' := fun w' hg => (Below.refl _ _).grown hg hbase fun k hk => (World.ownsRow.lt hown k hk).1
  rcases hr with rfl | ⟨g, off, rfl, hg, hc⟩
  · rcases A with _ | ad
    · have hl0 : a.eval x = .slice none 0 c := hx
      refine wpList_plain hgd fun K hK => ?_
      have hrun := run_app_nil (ty := o.type) hown c
      unfold Oper.wp
      simp [execOp, ho, resolve, invoke, builtin, hs, hl0, hrun, Result.andThen]
      exact hK _ _ (h v w (by simpa using hown) (Below.refl _ _) (World.grownBy.refl w _))
    · refine wpList_append_own_wide w hgd s x 24 ho base 5 i0 _ 1 1 Try.underlying24 hi0 hz0 hz1 hz2 rfl (by decide) v l.length (l.map bv) hs hown ad 0 c [] hx rfl (by simp) (by simp) (by simpa using hmx) (by simp at hlen ⊢; omega) hbase ?_
      intro v' w' h1 h2 _
      exact h v' w' (by simpa [Own] using h1) (hbel w' h2) h2
  · refine wpList_append_own_wide w hgd s x 24 ho base 5 i0 _ 1 1 Try.underlying24 hi0 hz0 hz1 hz2 rfl (by decide) v l.length (l.map bv) hs hown ⟨g, off, none⟩ m.length c (m.map bv) hx (by simp) ?_ ?_ hmx (by omega) hbase ?_
    · intro j u hu
      have hj : j < m.length := by
        rcases Nat.lt_or_ge j m.length with h | h
        · exact h
        · simp [List.getElem?_map, List.getElem?_eq_none h] at hu
      rw [add_at, hc j hj]
      simp [List.getElem?_map, List.getElem?_eq_getElem hj] at hu
      rw [hu]
    · intro u hu
      obtain ⟨b, _, rfl⟩ := List.mem_map.1 hu
      exact bv_one b
    · intro v' w' h1 h2 _
      exact h v' w' (by simpa [Own] using h1) (hbel w' h2) h2

/-- append(v, b) of one byte, that has just been laid in a block of its own -/
theorem app_one {ops : Array Oper} {rest : List Oper} {o : Oper} {a : Act} {Q : Exit → Act → World → Prop} (w : World) (base : Nat) (v : Value) (l : List UInt8) (b : UInt8) (X : Int) (hX : X = (b.toNat : Int)) (hgd : o.guard = none) (s x : Operand)
    (ho : o.op = .call { callee := .builtin .append, args := #[s, x], argTypes := #[24, 24] })
    (hs : a.eval s = v) (hx : a.eval x = .slice (some ⟨w.heap.size, 0, none⟩) 1 1) (hown : Own w base v l) (hlen : l.length + 1 ≤ 225179981368000) (hbase : base ≤ w.heap.size)
    (h : ∀ v' w', Own w' base v' (l ++ [b]) → Below base w w' → wpList Try.prog ops Q rest (a.put o.dst v') w') : wpList Try.prog ops Q (o :: rest) a (w.alloc (.cells #[.int .u8 X] 5)) := by
  subst hX
  refine app_bytes (w.alloc (.cells #[.int .u8 (b.toNat : Int)] 5)) base v l [b] (some ⟨w.heap.size, 0, none⟩) 1 hgd s x ho hs hx (hown.alloc _) (.inr ⟨w.heap.size, 0, rfl, by simp, ?_⟩) (by simp; omega) (by simp; omega) ?_
  · intro i hi
    obtain rfl : i = 0 := by simpa using hi
    rw [World.cell?_alloc_at _ _ _ _ rfl]
    rfl
  · intro v' w' h1 h2 _
    exact h v' w' h1 (((Below.refl base w).alloc hbase _).trans h2)

/-- make([]byte, n), of zeros -/
theorem make_zeros {ops : Array Oper} {rest : List Oper} {o : Oper} {a : Act} {Q : Exit → Act → World → Prop} (w : World) (n : Nat) (L C : Int) (hL : L = (n : Int)) (hC : C = (n : Int)) (hg : o.guard = none) (l c : Operand)
    (hop : o.op = Op.makeSlice 24 l c) (hl : a.eval l = .int .i64 L) (hc : a.eval c = .int .i64 C) (hn : n ≤ 281474976710656)
    (hK : ∀ w', Own w' w.heap.size (.slice (some ⟨w.heap.size, 0, none⟩) n n) (List.replicate n 0) → Below w.heap.size w w' → w.heap.size < w'.heap.size → wpList Try.prog ops Q rest (a.put o.dst (.slice (some ⟨w.heap.size, 0, none⟩) n n)) w') :
    wpList Try.prog ops Q (o :: rest) a w := by
  obtain ⟨i0, hi0, hz0, hz1, hz2⟩ := info_parts info8
  refine wpList_make_full w hg l c 24 hop w.heap.size 5 i0 (.int .u8 0) 1 Try.underlying24 hi0 hz0 hz1 .i64 .i64 L C n hl hc hL hC (by rw [hz2]; omega) (by unfold maxLen; omega) (Nat.le_refl _) ?_
  intro w' h1 h2
  have hown : Own w' w.heap.size (.slice (some ⟨w.heap.size, 0, none⟩) n n) (List.replicate n 0) := by
    unfold Own
    have e : (madeCells (Value.int .u8 0).cells (n * 1)).toList = (List.replicate n (0 : UInt8)).map bv := by
      rw [show (Value.int .u8 0).cells = #[.int .u8 0] from rfl, toList_madeCells_one, List.map_replicate, Nat.mul_one]
      rfl
    rw [e] at h1
    simpa using h1
  exact hK w' hown ((Below.refl _ _).grown h2 (Nat.le_refl _) (by simp)) (World.ownsRow.lt h1 _ rfl).2

/-- a byte stored into what the call owns -/
theorem Own.set {w : World} {base g n c : Nat} {l : List UInt8} (h : Own w base (.slice (some ⟨g, 0, none⟩) n c) l) (j : Nat) (b : UInt8) : Own (w.setCell ⟨g, j, none⟩ (bv b)) base (.slice (some ⟨g, 0, none⟩) n c) (l.set j b) := by
  unfold Own at h ⊢
  have hn : n = l.length := by
    rcases h.2 with ⟨he, _⟩ | ⟨g', cap, cur, he, _⟩
    · cases he
    · injection he
  subst hn
  have := (World.ownsRow.stored h j (bv b)).1
  rw [List.length_set]
  simpa [List.map_set] using this
theorem Own.cell {w : World} {base g n c : Nat} {l : List UInt8} (h : Own w base (.slice (some ⟨g, 0, none⟩) n c) l) (j : Nat) (hj : j < l.length) : w.cell? ⟨g, j, none⟩ = some (bv l[j]) := by
  unfold Own at h
  have hn : n = l.length := by
    rcases h.2 with ⟨he, _⟩ | ⟨g', cap, cur, he, _⟩
    · cases he
    · injection he
  subst hn
  rw [World.ownsRow.cellAt h j (by simpa using hj)]
  simp [List.getElem?_map, List.getElem?_eq_getElem hj]
theorem Own.free {w : World} {base g n c : Nat} {l : List UInt8} (h : Own w base (.slice (some ⟨g, 0, none⟩) n c) l) (j : Nat) : w.frozen? ⟨g, j, none⟩ = false := by
  unfold Own at h
  have hn : n = l.length := by
    rcases h.2 with ⟨he, _⟩ | ⟨g', cap, cur, he, _⟩
    · cases he
    · injection he
  subst hn
  exact World.ownsRow.frozenAt h j
theorem Own.lt {w : World} {base g n c : Nat} {l : List UInt8} (h : Own w base (.slice (some ⟨g, 0, none⟩) n c) l) : base ≤ g ∧ g < w.heap.size := World.ownsRow.lt h g rfl

theorem or128 (m : Nat) : bits .or .u8 ((m : Int) % 256) 128 = ((128 + m % 128 : Nat) : Int) := by
  have h : ∀ x : Fin 256, bits .or .u8 (x.val : Int) 128 = ((128 + x.val % 128 : Nat) : Int) := by decide +kernel
  have := h ⟨m % 256, by omega⟩
  rw [show ((m : Int) % 256) = ((m % 256 : Nat) : Int) from by omega]
  rw [this]
  show ((128 + m % 256 % 128 : Nat) : Int) = _
  omega
/-- a number's lowest eight bits as a byte (closed to the walk) -/
def by8 (n : Nat) : UInt8 := UInt8.ofNat n
theorem by8_nat (m : Nat) : (by8 m).toNat = m % 256 := by simp [by8]
theorem by8_toNat {m : Nat} (h : m < 256) : ((by8 m).toNat : Int) = m := by
  rw [by8_nat]
  omega

/-! ### numbers as bytes -/
def numF : Nat → Nat → List UInt8
  | 0, n => [by8 n]
  | f + 1, n => if n < 128 then [by8 n] else by8 (128 + n % 128) :: numF f (n / 128)
theorem numF_lt {f n : Nat} (h : n < 128) : numF f n = [by8 n] := by cases f <;> simp [numF, h]
theorem numF_ge {f n : Nat} (h : ¬ n < 128) : numF (f + 1) n = by8 (128 + n % 128) :: numF f (n / 128) := by simp [numF, h]
def num (n : Nat) : List UInt8 := numF 9 n

end Go.Proofs.Ytninjoepdchmiaa
