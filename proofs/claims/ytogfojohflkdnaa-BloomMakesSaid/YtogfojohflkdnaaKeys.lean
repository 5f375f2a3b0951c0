/-
  Lists of keys in rows of the call's own.
-/
import Derived.Test.YtogfojohflkdnaaMake
import Derived.Deep.Slices
namespace Go.Proofs.Ytogfojohflkdnaa
open Go.RowKit

/-- a value that is a slice that reads as a key -/
def KV (w : World) (B : Nat) (p : Value × List UInt8) : Prop := ∃ a c, p.1 = .slice a p.2.length c ∧ Rd w B a p.2 ∧ p.2.length ≤ 9223372036854775807
theorem KV.below {w w' : World} {B : Nat} {p : Value × List UInt8} (h : KV w B p) (hb : Below B w w') : KV w' B p := by
  obtain ⟨a, c, h1, h2, h3⟩ := h
  exact ⟨a, c, h1, h2.below hb, h3⟩
theorem KV.more {w : World} {B B' : Nat} {p : Value × List UInt8} (h : KV w B p) (hb : B ≤ B') : KV w B' p := by
  obtain ⟨a, c, h1, h2, h3⟩ := h
  exact ⟨a, c, h1, h2.more hb, h3⟩
theorem KV.one {w : World} {B : Nat} {p : Value × List UInt8} (h : KV w B p) : p.1.oneCell' = true := by
  obtain ⟨a, c, h1, _⟩ := h
  rw [h1]; rfl

/-- the slice at A has these values in its cells -/
def RdV (w : World) (B : Nat) (A : Option Addr) (vs : List Value) : Prop := vs = [] ∨ ∃ g o, A = some ⟨g, o, none⟩ ∧ g < B ∧ ∀ i (h : i < vs.length), w.cell? ⟨g, o + i, none⟩ = some vs[i]
theorem RdV.below {w w' : World} {B : Nat} {A : Option Addr} {vs : List Value} (h : RdV w B A vs) (hb : Below B w w') : RdV w' B A vs := by
  rcases h with h | ⟨g, o, e, hg, hc⟩
  · exact .inl h
  · exact .inr ⟨g, o, e, hg, fun i hi => (hb.cell hg).trans (hc i hi)⟩
theorem RdV.more' {w : World} {B B' : Nat} {A : Option Addr} {vs : List Value} (h : RdV w B A vs) (hb : B ≤ B') : RdV w B' A vs := by
  rcases h with h | ⟨g, o, e, hg, hc⟩
  · exact .inl h
  · exact .inr ⟨g, o, e, by omega, hc⟩
theorem RdK.pairs {w : World} {B : Nat} {A : Option Addr} {ks : List (List UInt8)} (h : RdK w B A ks) : ∃ ps : List (Value × List UInt8), ps.map (·.2) = ks ∧ RdV w B A (ps.map (·.1)) ∧ ∀ p ∈ ps, KV w B p := by
  rcases h with rfl | ⟨g, o, rfl, hg, hc⟩
  · exact ⟨[], rfl, .inl rfl, fun p h => by cases h⟩
  · have each : ∀ i, i < ks.length → ∃ v : Value, w.cell? ⟨g, o + i, none⟩ = some v ∧ ∀ h : i < ks.length, KV w B (v, ks[i]) := fun i hi => by
      obtain ⟨a, c, h1, h2, h3⟩ := hc i hi
      exact ⟨_, h1, fun _ => ⟨a, c, rfl, h2, h3⟩⟩
    obtain ⟨f, hf⟩ := Deep.choose_lt each
    refine ⟨(List.range ks.length).map fun i => (f i, ks.getD i []), ?_, ?_, ?_⟩
    · apply List.ext_getElem
      · simp
      · intro i h1 h2
        simp [List.getD, List.getElem?_eq_getElem h2]
    · by_cases h0 : ks.length = 0
      · left; simp [h0]
      · right
        refine ⟨g, o, rfl, hg, fun i hi => ?_⟩
        have hi' : i < ks.length := by simpa using hi
        rw [(hf i hi').1]
        simp
    · intro p hp
      obtain ⟨i, hi, rfl⟩ := List.mem_map.1 hp
      have hi' : i < ks.length := List.mem_range.1 hi
      have := (hf i hi').2 hi'
      rw [List.getD_eq_getElem?_getD, List.getElem?_eq_getElem hi']
      exact this
theorem RdK.of {w : World} {B : Nat} {A : Option Addr} {ps : List (Value × List UInt8)} (h : RdV w B A (ps.map (·.1))) (hk : ∀ p ∈ ps, KV w B p) : RdK w B A (ps.map (·.2)) := by
  rcases h with h | ⟨g, o, rfl, hg, hc⟩
  · left
    have : ps = [] := by simpa using h
    simp [this]
  · refine .inr ⟨g, o, rfl, hg, fun i hi => ?_⟩
    have hi' : i < ps.length := by simpa using hi
    obtain ⟨a, c, h1, h2, h3⟩ := hk ps[i] (List.getElem_mem hi')
    simp only [List.getElem_map]
    refine ⟨a, c, ?_, h2, h3⟩
    rw [hc i (by simpa using hi'), List.getElem_map, h1]

theorem infoK : (Try.prog.info? 22).map (fun i => (i.zero, i.size, i.bytes)) = some (some (.slice none 0 0), 1, 24) := by kernel_rfl
/-- the slice v owns the values vs, in a row from block base on -/
def OwnV (w : World) (base : Nat) (v : Value) (vs : List Value) : Prop := w.ownsRow base 22 1 v vs.length vs
theorem OwnV.nil_ (w : World) (base : Nat) : OwnV w base (.slice none 0 0) [] := World.ownsRow_nil _ _ _ _
theorem OwnV.rd {w : World} {base : Nat} {v : Value} {vs : List Value} (h : OwnV w base v vs) : ∃ A c, v = .slice A vs.length c ∧ RdV w w.heap.size A vs := by
  have hk := h
  unfold OwnV World.ownsRow at h
  rcases h.2 with ⟨rfl, hn⟩ | ⟨g, cap, cur, rfl, hb, hg, _, _, _, ht⟩
  · have : vs = [] := List.eq_nil_of_length_eq_zero hn
    subst this
    exact ⟨none, 0, rfl, .inl rfl⟩
  · refine ⟨_, cap, rfl, .inr ⟨g, 0, rfl, (Array.getElem?_eq_some_iff.1 hg).1, fun i hi => ?_⟩⟩
    have := World.ownsRow.cells hk (g := g) rfl i vs[i] (List.getElem?_eq_getElem hi)
    rw [add_at] at this
    exact this

/-- append(v, x...): v the call's own, x whatever has these values -/
theorem app_vals {ops : Array Oper} {rest : List Oper} {o : Oper} {a : Act} {Q : Exit → Act → World → Prop} (w : World) (base : Nat) (v : Value) (vs ms : List Value) (g off m c : Nat) (hm : m = ms.length) (hgd : o.guard = none) (s x : Operand)
    (ho : o.op = .call { callee := .builtin .append, args := #[s, x], argTypes := #[27, 27] })
    (hs : a.eval s = v) (hx : a.eval x = .slice (some ⟨g, off, none⟩) m c) (hown : OwnV w base v vs) (hc : ∀ i (h : i < ms.length), w.cell? ⟨g, off + i, none⟩ = some ms[i]) (h1 : ∀ u ∈ ms, u.oneCell' = true) (hlen : vs.length + ms.length ≤ 5864062014634) (hbase : base ≤ w.heap.size)
    (h : ∀ v' w', OwnV w' base v' (vs ++ ms) → Below base w w' → wpList Try.prog ops Q rest (a.put o.dst v') w') : wpList Try.prog ops Q (o :: rest) a w := by
  subst hm
  obtain ⟨i0, hi0, hz0, hz1, hz2⟩ := info_parts infoK
  have hbel : ∀ w', w.grownBy w' v.ownBlock → Below base w w' := fun w' hg => (Below.refl _ _).grown hg hbase fun k hk => (World.ownsRow.lt hown k hk).1
  refine wpList_append_own_wide w hgd s x 27 ho base 22 i0 _ 1 24 Try.underlying27 hi0 hz0 hz1 hz2 rfl (by decide) v vs.length vs hs hown ⟨g, off, none⟩ ms.length c ms hx (by simp) ?_ h1 (by unfold maxLen; omega) (by omega) hbase ?_
  · intro j u hu
    have hj : j < ms.length := by
      rcases Nat.lt_or_ge j ms.length with h | h
      · exact h
      · rw [List.getElem?_eq_none h] at hu; cases hu
    rw [add_at, hc j hj]
    rw [List.getElem?_eq_getElem hj] at hu
    exact hu
  · intro v' w' h1 h2 _
    exact h v' w' (by simpa [OwnV] using h1) (hbel w' h2)
/-- append(v, x), x in a block of its own -/
theorem app_val {ops : Array Oper} {rest : List Oper} {o : Oper} {a : Act} {Q : Exit → Act → World → Prop} (w : World) (base : Nat) (v : Value) (vs : List Value) (u : Value) (hgd : o.guard = none) (s x : Operand)
    (ho : o.op = .call { callee := .builtin .append, args := #[s, x], argTypes := #[27, 27] })
    (hs : a.eval s = v) (hx : a.eval x = .slice (some ⟨w.heap.size, 0, none⟩) 1 1) (hown : OwnV w base v vs) (h1 : u.oneCell' = true) (hlen : vs.length + 1 ≤ 5864062014634) (hbase : base ≤ w.heap.size)
    (h : ∀ v' w', OwnV w' base v' (vs ++ [u]) → Below base w w' → wpList Try.prog ops Q rest (a.put o.dst v') w') : wpList Try.prog ops Q (o :: rest) a (w.alloc (.cells #[u] 22)) := by
  refine app_vals (w.alloc (.cells #[u] 22)) base v vs [u] w.heap.size 0 1 1 rfl hgd s x ho hs hx (World.ownsRow.alloc hown _) ?_ (by simpa using h1) (by simp; omega) (by simp; omega) ?_
  · intro i hi
    obtain rfl : i = 0 := by simpa using hi
    rw [World.cell?_alloc_at _ _ _ _ rfl]
    rfl
  · intro v' w' h1 h2
    exact h v' w' h1 (((Below.refl base w).alloc hbase _).trans h2)
end Go.Proofs.Ytogfojohflkdnaa
