/-
  Two rows of one's own, apart: append to either, as a step of a region that draws its order.
-/
import Derived.Test.YtaojflmbfigplaaDoorLawTexts
import Derived.Test.YtaojflmbfigplaaDoorCompare
import Derived.Maps.AppendAt
import Derived.Deep.RegionHeld3
namespace Go.Proofs.YtaojflmbfigplaaDoor
open Go.RowKit

def Apart (v u : Value) : Prop := ∀ b, v.ownBlock = some b → u.ownBlock ≠ some b
theorem Apart.symm {v u : Value} (h : Apart v u) : Apart u v := fun b hu hv => h b hv hu

/-- what lies in w, read from w0's frame: four rows of one's own that lie apart -/
structure Four (w0 w : World) (v1 : Value) (l1 : List UInt8) (v2 : Value) (l2 : List UInt8) (v3 : Value) (l3 : List UInt8) (v4 : Value) (l4 : List UInt8) : Prop where
  o1 : Own w w0.heap.size v1 l1
  o2 : Own w w0.heap.size v2 l2
  o3 : Own w w0.heap.size v3 l3
  o4 : Own w w0.heap.size v4 l4
  a12 : Apart v1 v2
  a13 : Apart v1 v3
  a14 : Apart v1 v4
  a23 : Apart v2 v3
  a24 : Apart v2 v4
  a34 : Apart v3 v4
  bel : Below w0.heap.size w0 w

theorem Four.s12 {w0 w : World} {v1 v2 v3 v4 : Value} {l1 l2 l3 l4 : List UInt8} (h : Four w0 w v1 l1 v2 l2 v3 l3 v4 l4) : Four w0 w v2 l2 v1 l1 v3 l3 v4 l4 :=
  ⟨h.o2, h.o1, h.o3, h.o4, h.a12.symm, h.a23, h.a24, h.a13, h.a14, h.a34, h.bel⟩
theorem Four.s13 {w0 w : World} {v1 v2 v3 v4 : Value} {l1 l2 l3 l4 : List UInt8} (h : Four w0 w v1 l1 v2 l2 v3 l3 v4 l4) : Four w0 w v3 l3 v2 l2 v1 l1 v4 l4 :=
  ⟨h.o3, h.o2, h.o1, h.o4, h.a23.symm, h.a13.symm, h.a34, h.a12.symm, h.a24, h.a14, h.bel⟩
theorem Four.s14 {w0 w : World} {v1 v2 v3 v4 : Value} {l1 l2 l3 l4 : List UInt8} (h : Four w0 w v1 l1 v2 l2 v3 l3 v4 l4) : Four w0 w v4 l4 v2 l2 v3 l3 v1 l1 :=
  ⟨h.o4, h.o2, h.o3, h.o1, h.a24.symm, h.a34.symm, h.a14.symm, h.a23, h.a12.symm, h.a13.symm, h.bel⟩
theorem Four.below {w0 w w' : World} {v1 v2 v3 v4 : Value} {l1 l2 l3 l4 : List UInt8} (h : Four w0 w v1 l1 v2 l2 v3 l3 v4 l4) (hb : Below w.heap.size w w') : Four w0 w' v1 l1 v2 l2 v3 l3 v4 l4 :=
  ⟨h.o1.below hb, h.o2.below hb, h.o3.below hb, h.o4.below hb, h.a12, h.a13, h.a14, h.a23, h.a24, h.a34, h.bel.trans (hb.mono h.bel.size)⟩

theorem Four.drew {w0 w : World} {v1 v2 v3 v4 : Value} {l1 l2 l3 l4 : List UInt8} (h : Four w0 w v1 l1 v2 l2 v3 l3 v4 l4) : Four w0 w.drew v1 l1 v2 l2 v3 l3 v4 l4 :=
  ⟨h.o1, h.o2, h.o3, h.o4, h.a12, h.a13, h.a14, h.a23, h.a24, h.a34, h.bel.drew⟩

/-- the run of append, whatever is appended -/
theorem run_app_bytes (w : World) (ty : TypeId) (base : Nat) (v : Value) (l m : List UInt8) (A : Option Addr) (c : Nat) (hown : Own w base v l) (hr : Rd w w.heap.size A m) (hlen : l.length + m.length ≤ 4000000) (hbase : base ≤ w.heap.size) :
    ∃ v' w', (Builtin.append_ #[23, 23] ty #[v, .slice A m.length c]).run Tryd.prog w = .ok v' w' ∧ Own w' base v' (l ++ m) ∧ w.grownBy w' v.ownBlock ∧ (v'.ownBlock = v.ownBlock ∨ v'.ownBlock = some w.heap.size) := by
  obtain ⟨i0, hi0, hz0, hz1, hz2⟩ := info_parts info8
  have hmx : l.length + m.length ≤ maxLen := by unfold maxLen; omega
  rcases hr with rfl | ⟨g, off, rfl, hg, hc⟩
  · rcases A with _ | ad
    · exact ⟨v, w, run_app_nil (ty := ty) hown c, by simpa using hown, World.grownBy.refl w _, .inl rfl⟩
    · obtain ⟨v', w', h0, h1, h2, _, h3⟩ := run_append_own_at (P := Tryd.prog) w base 23 ty 5 i0 _ 1 1 Tryd.underlying23 hi0 hz0 hz1 hz2 rfl (by decide) v l.length (l.map bv) hown ad 0 c [] rfl (by simp) (by simp) (by simpa using hmx) (by simp at hlen ⊢; omega) hbase
      exact ⟨v', w', h0, by simpa [Own] using h1, h2, h3⟩
  · obtain ⟨v', w', h0, h1, h2, _, h3⟩ := run_append_own_at (P := Tryd.prog) w base 23 ty 5 i0 _ 1 1 Tryd.underlying23 hi0 hz0 hz1 hz2 rfl (by decide) v l.length (l.map bv) hown ⟨g, off, none⟩ m.length c (m.map bv) (by simp) (by
      intro j u hu
      have hj : j < m.length := by
        rcases Nat.lt_or_ge j m.length with h | h
        · exact h
        · simp [List.getElem?_map, List.getElem?_eq_none h] at hu
      rw [add_at, hc j hj]
      simp [List.getElem?_map, List.getElem?_eq_getElem hj] at hu
      rw [hu]) (by
      intro u hu
      obtain ⟨b, _, rfl⟩ := List.mem_map.1 hu
      exact bv_one b) hmx (by omega) hbase
    exact ⟨v', w', h0, by simpa [Own] using h1, h2, h3⟩

theorem step_app_1 {w : World} {ops : Array Oper} {o : Oper} {a : Act} {K : Act → World → Prop} {Q : Exit → Act → World → Prop} {E : Prop} (w0 : World) (v1 v2 v3 v4 : Value) (l1 l2 l3 l4 m : List UInt8) (A : Option Addr) (c : Nat) (hgd : o.guard = none) (s x : Operand)
    (ho : o.op = .call { callee := .builtin .append, args := #[s, x], argTypes := #[23, 23] })
    (hs : a.eval s = v1) (hx : a.eval x = .slice A m.length c) (T : Four w0 w v1 l1 v2 l2 v3 l3 v4 l4) (hr : Rd w0 w0.heap.size A m) (hlen : l1.length + m.length ≤ 4000000)
    (h : ∀ v' w', Four w0 w' v' (l1 ++ m) v2 l2 v3 l3 v4 l4 → K (a.put o.dst v') w') : if Region.wanted o (yielded ops a.tmps) = true then Oper.wp Tryd.prog o a w K Q else E := by
  have hw : Region.wanted o (yielded ops a.tmps) = true := by simp [Region.wanted, hgd]
  rw [if_pos hw]
  obtain ⟨v', w', hrun, o1, hg, hb⟩ := run_app_bytes w o.type w0.heap.size v1 l1 m A c T.o1 ((hr.below T.bel).more T.bel.size) hlen T.bel.size
  unfold Oper.wp
  simp [execOp, ho, resolve, invoke, builtin, hs, hx, hrun, Result.andThen]
  have keep : ∀ {u : Value} {k : List UInt8}, Own w w0.heap.size u k → Apart v1 u → Own w' w0.heap.size u k := fun {u k} T2 T3 => by
    refine World.ownsRow.kept T2 hg ?_
    cases hu : u.ownBlock with
    | none => exact .inl rfl
    | some b => exact .inr fun e => T3 b e.symm hu
  have apart : ∀ {u : Value} {k : List UInt8}, Own w w0.heap.size u k → Apart v1 u → Apart v' u := fun {u k} T2 T3 b hv hu => by
    rcases hb with e | e
    · exact T3 b (e.symm.trans hv) hu
    · have := (World.ownsRow.lt T2 b hu).2
      rw [e] at hv
      injection hv with hv
      omega
  exact h v' w' ⟨o1, keep T.o2 T.a12, keep T.o3 T.a13, keep T.o4 T.a14, apart T.o2 T.a12, apart T.o3 T.a13, apart T.o4 T.a14, T.a23, T.a24, T.a34, T.bel.grown hg T.bel.size fun b hb' => (World.ownsRow.lt T.o1 b hb').1⟩
theorem step_app_2 {w : World} {ops : Array Oper} {o : Oper} {a : Act} {K : Act → World → Prop} {Q : Exit → Act → World → Prop} {E : Prop} (w0 : World) (v1 v2 v3 v4 : Value) (l1 l2 l3 l4 m : List UInt8) (A : Option Addr) (c : Nat) (hgd : o.guard = none) (s x : Operand)
    (ho : o.op = .call { callee := .builtin .append, args := #[s, x], argTypes := #[23, 23] })
    (hs : a.eval s = v2) (hx : a.eval x = .slice A m.length c) (T : Four w0 w v1 l1 v2 l2 v3 l3 v4 l4) (hr : Rd w0 w0.heap.size A m) (hlen : l2.length + m.length ≤ 4000000)
    (h : ∀ v' w', Four w0 w' v1 l1 v' (l2 ++ m) v3 l3 v4 l4 → K (a.put o.dst v') w') : if Region.wanted o (yielded ops a.tmps) = true then Oper.wp Tryd.prog o a w K Q else E :=
  step_app_1 w0 v2 v1 v3 v4 l2 l1 l3 l4 m A c hgd s x ho hs hx T.s12 hr hlen fun u' w' h' => h u' w' h'.s12
theorem step_app_3 {w : World} {ops : Array Oper} {o : Oper} {a : Act} {K : Act → World → Prop} {Q : Exit → Act → World → Prop} {E : Prop} (w0 : World) (v1 v2 v3 v4 : Value) (l1 l2 l3 l4 m : List UInt8) (A : Option Addr) (c : Nat) (hgd : o.guard = none) (s x : Operand)
    (ho : o.op = .call { callee := .builtin .append, args := #[s, x], argTypes := #[23, 23] })
    (hs : a.eval s = v3) (hx : a.eval x = .slice A m.length c) (T : Four w0 w v1 l1 v2 l2 v3 l3 v4 l4) (hr : Rd w0 w0.heap.size A m) (hlen : l3.length + m.length ≤ 4000000)
    (h : ∀ v' w', Four w0 w' v1 l1 v2 l2 v' (l3 ++ m) v4 l4 → K (a.put o.dst v') w') : if Region.wanted o (yielded ops a.tmps) = true then Oper.wp Tryd.prog o a w K Q else E :=
  step_app_1 w0 v3 v2 v1 v4 l3 l2 l1 l4 m A c hgd s x ho hs hx T.s13 hr hlen fun u' w' h' => h u' w' h'.s13
theorem step_app_4 {w : World} {ops : Array Oper} {o : Oper} {a : Act} {K : Act → World → Prop} {Q : Exit → Act → World → Prop} {E : Prop} (w0 : World) (v1 v2 v3 v4 : Value) (l1 l2 l3 l4 m : List UInt8) (A : Option Addr) (c : Nat) (hgd : o.guard = none) (s x : Operand)
    (ho : o.op = .call { callee := .builtin .append, args := #[s, x], argTypes := #[23, 23] })
    (hs : a.eval s = v4) (hx : a.eval x = .slice A m.length c) (T : Four w0 w v1 l1 v2 l2 v3 l3 v4 l4) (hr : Rd w0 w0.heap.size A m) (hlen : l4.length + m.length ≤ 4000000)
    (h : ∀ v' w', Four w0 w' v1 l1 v2 l2 v3 l3 v' (l4 ++ m) → K (a.put o.dst v') w') : if Region.wanted o (yielded ops a.tmps) = true then Oper.wp Tryd.prog o a w K Q else E :=
  step_app_1 w0 v4 v2 v3 v1 l4 l2 l3 l1 m A c hgd s x ho hs hx T.s14 hr hlen fun u' w' h' => h u' w' h'.s14

theorem Own.mono {w : World} {b b' : Nat} {v : Value} {l : List UInt8} (h : Own w b v l) (hb : b' ≤ b) : Own w b' v l := by
  unfold Own at h ⊢
  refine ⟨h.1, ?_⟩
  rcases h.2 with hn | ⟨g, cap, cur, hv, hg, r⟩
  · exact .inl hn
  · exact .inr ⟨g, cap, cur, hv, Nat.le_trans hb hg, r⟩
theorem apart_of {w w' : World} {a b : Nat} {v u : Value} {l k : List UInt8} (h : Own w a v l) (h' : Own w' b u k) (hle : w.heap.size ≤ b) : Apart v u := fun j hv hu => by
  have h1 := (World.ownsRow.lt h j hv).2
  have h2 := (World.ownsRow.lt h' j hu).1
  omega
theorem compare_own {w : World} {a b : Nat} {v u : Value} {l k : List UInt8} (h : Own w a v l) (h' : Own w b u k) (hl : l.length ≤ 4000000) (hk : k.length ≤ 4000000) :
    Calls Tryd.prog 39 #[v, u] w fun e w' => e = .returned (.int .i64 (cmp l k)) ∧ Below w.heap.size w w' := by
  obtain ⟨A, c, rfl, r, _⟩ := h.rdc
  obtain ⟨A', c', rfl, r', _⟩ := h'.rdc
  exact compare_any A A' c c' _ _ l k w r r' (by omega) (by omega)
end Go.Proofs.YtaojflmbfigplaaDoor
