/-
  Encode.
-/
import Derived.Test.YtekgmgiokmbliaaPut
import Derived.Test.YtekgmgiokmbliaaRight
set_option linter.unusedVariables false
namespace Go.Proofs.Ytekgmgiokmbliaa
open Go.RowKit

def byI (x : Int) : UInt8 := by8 x.toNat
def vi (x : Int) : List UInt8 := vb x.toNat
def entB (e : Ent) : List UInt8 := vi e.term ++ [byI e.kind] ++ vb e.data.length ++ e.data
def headB (m : Msg) : List UInt8 := [byI m.kind, byI m.group, byI m.frm, byI m.dst] ++ vi m.term
def restB (m : Msg) : List UInt8 :=
  if m.kind = 1 then vi m.index ++ vi m.logTerm
  else if m.kind = 2 then [tb m.ok]
  else if m.kind = 3 then vi m.index ++ vi m.logTerm ++ vi m.commit ++ vb m.entries.length ++ m.entries.flatMap entB
  else if m.kind = 4 then [tb m.ok] ++ vi m.index
  else if m.kind = 5 then vi m.index ++ vi m.logTerm ++ vb m.members.length ++ m.members.map byI ++ vb m.data.length ++ m.data
  else []
def encB (m : Msg) : List UInt8 := headB m ++ restB m

theorem byI_nat (n : Nat) : byI (n : Int) = by8 n := by simp [byI]
theorem vi_nat (n : Nat) : vi (n : Int) = vb n := by simp [vi]
theorem nat_of {x : Int} (h : 0 ≤ x) : ∃ n : Nat, x = n := ⟨x.toNat, by omega⟩
theorem wrap8 {n : Nat} (h : n ≤ 255) : IntKind.u8.wrap (n : Int) = (n : Int) := IntWalk.u8_in _ (by omega)
theorem bv8 {n : Nat} (h : n ≤ 255) : bv (by8 n) = .int .u8 (n : Int) := by
  show Value.int .u8 ((by8 n).toNat : Int) = _
  rw [by8_toNat (by omega)]

/-- what has been made of a message: the bytes so far, all else as it was -/
structure Made (W wr : World) (base : Nat) (v : Value) (l : List UInt8) : Prop where
  own : Own wr base v l
  below : Below base W wr
  hbase : base ≤ wr.heap.size

/-- counts, its numbers laid in a block of their own -/
theorem counts_lit {W wr : World} {base : Nat} {v : Value} {l : List UInt8} (h : Made W wr base v l) (L : List Nat) (C : Array Value) (n : Nat) (hC : C.toList = (L.map natI).map iv) (hn : n = L.length) (h4 : n ≤ 4) (hb : ∀ x ∈ L, x ≤ 9223372036854775807) (hl : l.length ≤ 70368744170000) :
    Calls Try.prog 41 #[v, .slice (some ⟨wr.heap.size, 0, none⟩) n n] (wr.alloc (.cells C 3)) fun e w' => ∃ A c, e = .returned (.slice A (l ++ vbs L).length c) ∧ Made W w' base (.slice A (l ++ vbs L).length c) (l ++ vbs L) ∧ (wr.alloc (.cells C 3)).grownBy w' v.ownBlock ∧ Lies (wr.alloc (.cells C 3)) v (.slice A (l ++ vbs L).length c) := by
  have hv : ∀ q o, (some ⟨wr.heap.size, 0, none⟩ : Option Addr) = some ⟨q, o, none⟩ → v.ownBlock ≠ some q := fun q o hq e => by
    injection hq with hq; injection hq with hq
    have := (World.ownsRow.lt h.own q e).2; omega
  refine (counts_any L _ n n base v l (wr.alloc (.cells C 3)) hn h4 hb ((rdI_lit wr (L.map natI) C hC).more (by simp)) hv (Own.alloc h.own _) hl (by simp; have := h.hbase; omega)).mono ?_
  rintro e w' ⟨v', rfl, o', g', li'⟩
  obtain ⟨A, c, rfl, _⟩ := o'.rd
  have hbl : Below base (wr.alloc (.cells C 3)) w' := grown_below g' (Own.alloc h.own _) (Nat.le_refl _) (by simp; have := h.hbase; omega)
  exact ⟨A, c, rfl, ⟨o', (h.below.alloc h.hbase _).trans hbl, Nat.le_trans h.hbase (Nat.le_trans (by simp) hbl.size)⟩, g', li'⟩

theorem lies_ne {w : World} {v v' : Value} {q : Nat} (hl : Lies w v v') (hv : v.ownBlock ≠ some q) (hq : q < w.heap.size) : v'.ownBlock ≠ some q := fun e => by
  rcases hl with h | h
  · exact hv (h ▸ e)
  · have := h q e; omega
theorem apart_of {b : Nat} {v : Value} (h : v.ownBlock ≠ some b) : ∀ q o, (some ⟨b, 0, none⟩ : Option Addr) = some ⟨q, o, none⟩ → v.ownBlock ≠ some q := fun q o e => by
  injection e with e
  injection e with e
  subst e
  exact h
theorem Made.ne {W wr : World} {base : Nat} {v : Value} {l : List UInt8} (h : Made W wr base v l) : v.ownBlock ≠ some wr.heap.size := fun e => by
  have := (World.ownsRow.lt h.own _ e).2; omega
/-- counts, its numbers laid ahead of what came between -/
theorem counts_far {W wr w1 : World} {base q : Nat} {v v0 : Value} {l : List UInt8} (h : Made W wr base v l) (L : List Nat) (n : Nat) (hn : n = L.length) (h4 : n ≤ 4) (hb : ∀ x ∈ L, x ≤ 9223372036854775807) (hl : l.length ≤ 70368744170000)
    (hr : RdI w1 w1.heap.size (some ⟨q, 0, none⟩) (L.map natI)) (hq : q < w1.heap.size) (hv0 : v0.ownBlock ≠ some q) (g : w1.grownBy wr v0.ownBlock) (hli : Lies w1 v0 v) :
    Calls Try.prog 41 #[v, .slice (some ⟨q, 0, none⟩) n n] wr fun e w' => ∃ A c, e = .returned (.slice A (l ++ vbs L).length c) ∧ Made W w' base (.slice A (l ++ vbs L).length c) (l ++ vbs L) := by
  refine (counts_any L _ n n base v l wr hn h4 hb (RdI.grown hr g (apart_of hv0)) (apart_of (lies_ne hli hv0 hq)) h.own hl h.hbase).mono ?_
  rintro e w' ⟨v', rfl, o', g', _⟩
  obtain ⟨A, c, rfl, _⟩ := o'.rd
  exact ⟨A, c, rfl, o', h.below.trans (grown_below g' h.own (Nat.le_refl _) h.hbase), Nat.le_trans h.hbase g'.size⟩
theorem Made.drew {W wr : World} {base : Nat} {v : Value} {l : List UInt8} (h : Made W wr base v l) : Made W wr.drew base v l := ⟨World.ownsRow.drew h.own, below_drew h.below, h.hbase⟩
/-- append(v, xs...) at a step of a drawn region -/
theorem step_app_bytes {ops : Array Oper} {o : Oper} {a : Act} {K : Act → World → Prop} {Q : Exit → Act → World → Prop} {E : Prop} (w : World) (base : Nat) (v : Value) (l m : List UInt8) (A : Option Addr) (c n : Nat) (hgd : o.guard = none) (s x : Operand)
    (ho : o.op = .call { callee := .builtin .append, args := #[s, x], argTypes := #[30, 30] })
    (hs : a.eval s = v) (hx : a.eval x = .slice A n c) (hn : n = m.length) (hown : Own w base v l) (hr : Rd w w.heap.size A m) (hlen : l.length + m.length ≤ 225179981368000) (hbase : base ≤ w.heap.size)
    (h : ∀ v' w', Own w' base v' (l ++ m) → w.grownBy w' v.ownBlock → K (a.put o.dst v') w') : if Region.wanted o (yielded ops a.tmps) = true then Oper.wp Try.prog o a w K Q else E := by
  subst hn
  have hw : Region.wanted o (yielded ops a.tmps) = true := by simp [Region.wanted, hgd]
  rw [if_pos hw]
  obtain ⟨i0, hi0, hz0, hz1, hz2⟩ := info_parts info8
  have hmx : l.length + m.length ≤ maxLen := by unfold maxLen; omega
  rcases hr with rfl | ⟨g, off, rfl, hg, hc⟩
  · rcases A with _ | ad
    · have hrun := run_app_nil (ty := o.type) hown c
      have hl0 : a.eval x = .slice none 0 c := hx
      unfold Oper.wp
      simp [execOp, ho, resolve, invoke, builtin, hs, hl0, hrun, Result.andThen]
      exact h v w (by simpa using hown) (World.grownBy.refl w _)
    · refine wp_append_own_wide w s x 30 ho base 5 i0 _ 1 1 Try.underlying30 hi0 hz0 hz1 hz2 rfl (by decide) v l.length (l.map bv) hs hown ad 0 c [] hx rfl (by simp) (by simp) (by simpa using hmx) (by simp at hlen ⊢; omega) hbase ?_
      intro v' w' h1 h2 _
      exact h v' w' (by simpa [Own] using h1) h2
  · refine wp_append_own_wide w s x 30 ho base 5 i0 _ 1 1 Try.underlying30 hi0 hz0 hz1 hz2 rfl (by decide) v l.length (l.map bv) hs hown ⟨g, off, none⟩ m.length c (m.map bv) hx (by simp) ?_ ?_ hmx (by omega) hbase ?_
    · intro j u hu
      have hj : j < m.length := by
        rcases Nat.lt_or_ge j m.length with h | h
        · exact h
        · simp [List.getElem?_map, List.getElem?_eq_none h] at hu
      rw [add_at, hc j hj]
      simp [List.getElem?_map, List.getElem?_eq_getElem hj] at hu
      rw [hu]
    · intro u hu
      obtain ⟨b, _, rfl⟩ := List.mem_map.1 hu
      exact bv_one b
    · intro v' w' h1 h2 _
      exact h v' w' (by simpa [Own] using h1) h2

theorem cell_grown {w w' : World} {v : Value} {u i : Nat} {x : Value} (h : w.cell? ⟨u, i, none⟩ = some x) (hu : u < w.heap.size) (hv : v.ownBlock ≠ some u) (g : w.grownBy w' v.ownBlock) : w'.cell? ⟨u, i, none⟩ = some x := (g.cell_far _ hu (fun e => hv e.symm)).trans h
/-- append(v, b) at a step of a drawn region, b anywhere -/
theorem step_app_byte {ops : Array Oper} {o : Oper} {a : Act} {K : Act → World → Prop} {Q : Exit → Act → World → Prop} {E : Prop} (w : World) (base : Nat) (v : Value) (l : List UInt8) (b : UInt8) (q : Nat) (hgd : o.guard = none) (s x : Operand)
    (ho : o.op = .call { callee := .builtin .append, args := #[s, x], argTypes := #[30, 30] })
    (hs : a.eval s = v) (hx : a.eval x = .slice (some ⟨q, 0, none⟩) 1 1) (hown : Own w base v l) (hr : Rd w w.heap.size (some ⟨q, 0, none⟩) [b]) (hlen : l.length + 1 ≤ 70368744177664) (hbase : base ≤ w.heap.size)
    (h : ∀ gq cap w', Own w' base (.slice (some ⟨gq, 0, none⟩) (l.length + 1) cap) (l ++ [b]) → w.grownBy w' v.ownBlock → Lies w v (.slice (some ⟨gq, 0, none⟩) (l.length + 1) cap) → K (a.put o.dst (.slice (some ⟨gq, 0, none⟩) (l.length + 1) cap)) w') : if Region.wanted o (yielded ops a.tmps) = true then Oper.wp Try.prog o a w K Q else E := by
  obtain ⟨i0, hi0, hz0, hz1, hz2⟩ := info_parts info8
  have hown' : w.ownsRow base 5 1 v l.length (l.map bv) := hown
  refine step_append_lies w hgd s x 30 ho base 5 i0 _ 1 1 Try.underlying30 hi0 hz0 hz1 hz2 rfl (by decide) v l.length (l.map bv) hs hown' ⟨q, 0, none⟩ 1 1 [bv b] hx rfl ?_ ?_ (by decide) (by unfold maxLen; omega) (by omega) hbase w.heap.size rfl ?_
  · intro j u hu
    rcases hr with h0 | ⟨q', o', e, _, hc⟩
    · cases h0
    · injection e with e
      injection e with e1 e2
      subst e1 e2
      have hj : j = 0 := by
        rcases Nat.eq_zero_or_pos j with h | h
        · exact h
        · rw [List.getElem?_eq_none (by simp; omega)] at hu; cases hu
      subst hj
      have := hc 0 (by simp)
      rw [add_at]
      simp at hu this
      rw [← hu]
      exact this
  · intro u hu
    rw [List.mem_singleton.1 hu]; rfl
  · intro gq cap w' h1 h2 h3 _
    refine h gq cap w' ?_ h2 ?_
    · unfold Own
      rw [List.map_append, List.length_append]
      exact h1
    · rcases h3 with h3 | h3
      · exact .inl h3.symm
      · refine .inr (fun r hr => ?_)
        injection hr with hr
        have hr : gq = r := hr
        omega

/-- the message's own block, behind what has been made -/
theorem Made.cell {W wr : World} {base : Nat} {v : Value} {l : List UInt8} (h : Made W wr base v l) {r i : Nat} {x : Value} (hx : W.cell? ⟨r, i, none⟩ = some x) (hr : r < base) : wr.cell? ⟨r, i, none⟩ = some x := (h.below.cell (p := ⟨r, i, none⟩) hr).trans hx

set_option maxHeartbeats 6400000 in
set_option maxRecDepth 100000 in
theorem enc_bad (m : Msg) (a : At) (w : World) (hr : MRd w w.heap.size m a) (hs : Small m) (hno : ¬ RightP m) :
    Calls Try.prog 25 #[msgV m a] w fun e w' => e = .returned (.tuple #[.slice none 0 0, .int .i64 92]) ∧ Below w.heap.size w w' := by
  have hb := below1' w (.cells (msgC m a) 51)
  have IM := Lib.hid (ismsg_any m a _ ((hr.below hb).more hb.size) hs)
  have HNo := Lib.hid hno
  clear hr hs hno
  go_enter Try.func25, Try.ntmps25
  simp only [msgV, msgC] at IM hb ⊢
  go_wp2_with fail
  refine IM.out.mono ?_
  rintro e w2 ⟨⟨b, rfl, hbb⟩, h2⟩
  cases b with
  | true => exact absurd (hbb.1 rfl) HNo.out
  | false =>
    have hb2 := hb.trans (h2.mono hb.size)
    clear hbb h2
    go_wp2
    go_ret2
    exact ⟨rfl, hb2⟩
end Go.Proofs.Ytekgmgiokmbliaa
