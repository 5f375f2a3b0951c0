/-
  Counts as bytes: both sides.
-/
import Derived.Test.YtekgmgiokmbliaaMsg
import Derived.Outline
set_option linter.unusedVariables false
namespace Go.Proofs.Ytekgmgiokmbliaa
open Go.RowKit

/-- a count as bytes -/
def vb (n : Nat) : List UInt8 := if n < 128 then [by8 n] else by8 (128 + n % 128) :: vb (n / 128)
termination_by n
decreasing_by omega
theorem vb_lt {n : Nat} (h : n < 128) : vb n = [by8 n] := by rw [vb, if_pos h]
theorem vb_ge {n : Nat} (h : ¬ n < 128) : vb n = by8 (128 + n % 128) :: vb (n / 128) := by rw [vb, if_neg h]
theorem vb_len : ∀ (k n : Nat), n < 128 ^ (k + 1) → (vb n).length ≤ k + 1
  | 0, n, h => by rw [vb_lt (by simpa using h)]; simp
  | k + 1, n, h => by
    by_cases h0 : n < 128
    · rw [vb_lt h0]; simp
    · rw [vb_ge h0, List.length_cons]
      have := vb_len k (n / 128) (by rw [Nat.pow_succ] at h; exact Nat.div_lt_of_lt_mul (by omega))
      omega
theorem vb_nine {n : Nat} (h : n ≤ 9223372036854775807) : (vb n).length ≤ 9 := vb_len 8 n (by omega)

/-- where a row that was appended to lies -/
def Lies (w : World) (v v' : Value) : Prop := v'.ownBlock = v.ownBlock ∨ ∀ r, v'.ownBlock = some r → w.heap.size ≤ r
theorem Lies.refl (w : World) (v : Value) : Lies w v v := .inl rfl
theorem Lies.trans {a b : World} {v v1 v2 : Value} (h : Lies a v v1) (k : Lies b v1 v2) (hs : a.heap.size ≤ b.heap.size) : Lies a v v2 := by
  rcases k with k | k
  · rcases h with h | h
    · exact .inl (k.trans h)
    · exact .inr (fun r hr => h r (k ▸ hr))
  · exact .inr (fun r hr => Nat.le_trans hs (k r hr))
theorem grown_trans {a b c : World} {v v1 : Value} (h : a.grownBy b v.ownBlock) (k : b.grownBy c v1.ownBlock) (hl : Lies a v v1) : a.grownBy c v.ownBlock :=
  ⟨k.os.trans h.os, k.tape.trans h.tape, k.output.trans h.output, Nat.le_trans h.size k.size, fun i hi hne => (k.block i (Nat.lt_of_lt_of_le hi h.size) (fun e => by
    rcases hl with hl | hl
    · exact hne (by rw [e, hl])
    · have := hl i e.symm; omega)).trans (h.block i hi hne)⟩
theorem grown_alloc {w w' : World} {row : Option Nat} {o : Obj} (h : (w.alloc o).grownBy w' row) : w.grownBy w' row :=
  ⟨h.os, h.tape, h.output, Nat.le_trans (by simp) h.size, fun k hk hne => (h.block k (by simp; omega) hne).trans (((Below.refl w.heap.size w).alloc (Nat.le_refl _) o).block k hk)⟩
theorem grown_below {B : Nat} {w w' : World} {v : Value} {base : Nat} {l : List UInt8} (h : w.grownBy w' v.ownBlock) (ho : Own w base v l) (hB : B ≤ base) (hw : B ≤ w.heap.size) : Below B w w' :=
  ⟨h.os, h.tape, h.output, h.size, fun k hk => h.block k (by omega) (fun e => by have := (World.ownsRow.lt ho k e.symm).1; omega)⟩

/-- append(v, b) of one byte that has just been laid in a block of its own, and where it lies -/
theorem app_byte {ops : Array Oper} {rest : List Oper} {o : Oper} {a : Act} {Q : Exit → Act → World → Prop} (w : World) (base : Nat) (v : Value) (l : List UInt8) (b : UInt8) (X : Int) (hX : X = (b.toNat : Int)) (hgd : o.guard = none) (s x : Operand)
    (ho : o.op = .call { callee := .builtin .append, args := #[s, x], argTypes := #[30, 30] })
    (hs : a.eval s = v) (H : Nat) (hH : w.heap.size = H) (hx : a.eval x = .slice (some ⟨H, 0, none⟩) 1 1) (hown : Own w base v l) (hlen : l.length + 1 ≤ 70368744177664) (hbase : base ≤ w.heap.size)
    (h : ∀ gq cap w', Own w' base (.slice (some ⟨gq, 0, none⟩) (l.length + 1) cap) (l ++ [b]) → w.grownBy w' v.ownBlock → Lies w v (.slice (some ⟨gq, 0, none⟩) (l.length + 1) cap) → wpList Try.prog ops Q rest (a.put o.dst (.slice (some ⟨gq, 0, none⟩) (l.length + 1) cap)) w') : wpList Try.prog ops Q (o :: rest) a (w.alloc (.cells #[.int .u8 X] 5)) := by
  subst hX
  subst hH
  obtain ⟨i0, hi0, hz0, hz1, hz2⟩ := info_parts info8
  have hown' : (w.alloc (.cells #[.int .u8 (b.toNat : Int)] 5)).ownsRow base 5 1 v l.length (l.map bv) := World.ownsRow.alloc hown _
  refine wpList_append_lies (w.alloc (.cells #[.int .u8 (b.toNat : Int)] 5)) hgd s x 30 ho base 5 i0 _ 1 1 Try.underlying30 hi0 hz0 hz1 hz2 rfl (by decide) v l.length (l.map bv) hs hown' ⟨w.heap.size, 0, none⟩ 1 1 [bv b] hx rfl ?_ ?_ (by decide) (by unfold maxLen; omega) (by omega) (by simp; omega) (w.heap.size + 1) (by simp) ?_
  · intro j u hu
    rw [add_at, World.cell?_alloc_at _ _ _ _ rfl, Nat.zero_add, ← Array.getElem?_toList]
    exact hu
  · intro u hu
    rw [List.mem_singleton.1 hu]; rfl
  · intro gq cap w' h1 h2 h3 _
    refine h gq cap w' ?_ (grown_alloc h2) ?_
    · unfold Own
      rw [List.map_append, List.length_append]
      exact h1
    · rcases h3 with h3 | h3
      · exact .inl h3.symm
      · refine .inr (fun r hr => ?_)
        injection hr with hr
        have hr : gq = r := hr
        omega

set_option maxHeartbeats 1600000 in
set_option maxRecDepth 100000 in
theorem rvar_any (n base : Nat) (v : Value) (l : List UInt8) (w : World) (hn : n ≤ 9223372036854775807) (ho : Own w base v l) (hl : l.length ≤ 70368744170000) (hbase : base ≤ w.heap.size) :
    Calls Try.prog 43 #[v, .int .i64 n] w fun e w' => ∃ v', e = .returned v' ∧ Own w' base v' (l ++ vb n) ∧ w.grownBy w' v.ownBlock ∧ Lies w v v' := by
  obtain ⟨lA, lc, rfl, _⟩ := ho.rd
  have H9 := Lib.hid (vb_nine hn)
  have HO := Lib.hid ho
  have HB := Lib.hid hbase
  clear ho
  go_enter Try.func43, Try.ntmps43
  go_wp2
  go_loopw [0, 1] (fun s0 s1 wr => ∃ (m : Nat) (pre : List UInt8) (A : Option Addr) (c : Nat), s1 = .int .i64 m ∧ m ≤ n ∧ s0 = .slice A pre.length c ∧ Hid (Own wr base (.slice A pre.length c) pre) ∧ Hid (pre ++ vb m = l ++ vb n) ∧ Hid (w.grownBy wr (Value.slice lA l.length lc).ownBlock) ∧ Hid (Lies w (.slice lA l.length lc) (.slice A pre.length c))) (fun _ s1 _ => (intOf s1).toNat)
  case atStart => exact ⟨n, l, lA, lc, rfl, Nat.le_refl _, rfl, HO, rfl, World.grownBy.refl w _, Lies.refl _ _⟩
  case round =>
    obtain ⟨m, pre, A, c, rfl, hm, rfl, HOw, HPre, HG, HL⟩ := hrel
    have hpl : Hid (pre.length + 1 ≤ 70368744177664) := by
      have h1 := congrArg List.length HPre.out
      rw [List.length_append, List.length_append] at h1
      have := H9.out
      show _ ≤ _; omega
    have hbs : Hid (base ≤ wr.heap.size) := Nat.le_trans HB.out HG.out.size
    have hm2 : m ≤ 9223372036854775807 := by omega
    by_cases h : m < 128
    · have hby : Hid ((m : Int) = ((by8 m).toNat : Int)) := (by8_toNat (by omega)).symm
      have hw8 : IntKind.u8.wrap (m : Int) = (m : Int) := IntWalk.u8_in _ (by omega)
      go_wp2_with (at_builtin; refine app_byte wr base _ pre (by8 m) _ hby.out rfl (.tmp 16) (.tmp 19) rfl rfl wr.heap.size rfl rfl HOw.out hpl.out hbs.out ?_)
      intro gq cap w6 O6 hg6 hl6
      have HF := Lib.hid (And.intro O6 (And.intro hg6 hl6))
      clear O6 hg6 hl6
      go_wp2
      go_ret
      obtain ⟨O6, hg6, hl6⟩ := HF.out
      refine ⟨_, rfl, ?_, grown_trans HG.out hg6 HL.out, HL.out.trans hl6 HG.out.size⟩
      rw [← HPre.out, vb_lt h]
      exact O6
    · have hby : Hid ((m : Int) % 128 + 128 = ((by8 (128 + m % 128)).toNat : Int)) := by
        show _ = _; rw [by8_toNat (by omega)]; omega
      have hr0 : 0 ≤ (m : Int) % 128 := by omega
      have hr1 : (m : Int) % 128 < 128 := by omega
      have hw8 : IntKind.u8.wrap ((m : Int) % 128 + 128) = (m : Int) % 128 + 128 := IntWalk.u8_in _ (by omega)
      go_wp2_with (at_builtin; refine app_byte wr base _ pre (by8 (128 + m % 128)) _ hby.out rfl (.tmp 7) (.tmp 12) rfl rfl wr.heap.size rfl rfl HOw.out hpl.out hbs.out ?_)
      intro gq cap w6 O6 hg6 hl6
      have HF := Lib.hid (And.intro O6 (And.intro hg6 hl6))
      clear O6 hg6 hl6
      go_wp2
      go_roundw
      case rel =>
        obtain ⟨O6, hg6, hl6⟩ := HF.out
        refine ⟨m / 128, pre ++ [by8 (128 + m % 128)], some ⟨gq, 0, none⟩, cap, by go_num, by omega, by simp, Lib.hid (by simpa using O6), ?_, grown_trans HG.out hg6 HL.out, Lib.hid (by have := HL.out.trans hl6 HG.out.size; simpa using this)⟩
        show _ = _
        rw [List.append_assoc, List.singleton_append, ← vb_ge h]
        exact HPre.out
      case measure => simp [intOf]; omega
end Go.Proofs.Ytekgmgiokmbliaa
