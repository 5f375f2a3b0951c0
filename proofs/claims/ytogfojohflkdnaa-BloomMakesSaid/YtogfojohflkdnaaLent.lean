/-
  The contracts of the law's lent and same.
-/
import Derived.Test.YtogfojohflkdnaaKeys
import Derived.Deep.QuietTactic
import Derived.BigQuiet
import Derived.Deep.AppendLies
set_option linter.unusedVariables false
namespace Go.Proofs.Ytogfojohflkdnaa
open Go.RowKit

theorem below1' (w : World) (o : Obj) : Below w.heap.size w (w.alloc o) := (Below.refl _ _).alloc (Nat.le_refl _) o
theorem own_made (w : World) : Own (w.alloc (.cells #[] 5)) w.heap.size (.slice (some ⟨w.heap.size, 0, none⟩) 0 0) [] := World.ownsRow_made w #[] 0 (Nat.le_refl _) (by unfold maxLen; omega) rfl
theorem OwnV.below {w w' : World} {base : Nat} {v : Value} {l : List Value} (h : OwnV w base v l) (hb : Below w.heap.size w w') : OwnV w' base v l := by
  unfold OwnV at h ⊢
  refine ⟨h.1, ?_⟩
  rcases h.2 with hn | ⟨g, cap, cur, hv, hg, hh, r⟩
  · exact .inl hn
  · exact .inr ⟨g, cap, cur, hv, hg, (hb.block g (Array.getElem?_eq_some_iff.1 hh).1).trans hh, r⟩

/-- a key in memory, apart from a row -/
def KA (w : World) (row : Option Nat) (p : Value × List UInt8) : Prop :=
  ∃ a c, p.1 = .slice a p.2.length c ∧ p.2.length ≤ 9223372036854775807 ∧ (p.2 = [] ∨ ∃ g o, a = some ⟨g, o, none⟩ ∧ g < w.heap.size ∧ some g ≠ row ∧ ∀ i (h : i < p.2.length), w.cell? ⟨g, o + i, none⟩ = some (bv p.2[i]))
theorem KA.kv {w : World} {row : Option Nat} {p : Value × List UInt8} (h : KA w row p) : KV w w.heap.size p := by
  obtain ⟨a, c, h1, h2, h3⟩ := h
  refine ⟨a, c, h1, ?_, h2⟩
  rcases h3 with h | ⟨g, o, e, hg, _, hc⟩
  · exact .inl h
  · exact .inr ⟨g, o, e, hg, hc⟩
theorem KA.below {w w' : World} {row : Option Nat} {p : Value × List UInt8} (h : KA w row p) (hb : Below w.heap.size w w') : KA w' row p := by
  obtain ⟨a, c, h1, h2, h3⟩ := h
  refine ⟨a, c, h1, h2, ?_⟩
  rcases h3 with h | ⟨g, o, e, hg, hr, hc⟩
  · exact .inl h
  · exact .inr ⟨g, o, e, Nat.lt_of_lt_of_le hg hb.size, hr, fun i hi => (hb.cell hg).trans (hc i hi)⟩
theorem KA.grown {w w' : World} {row : Option Nat} {p : Value × List UInt8} (h : KA w row p) (hg : w.grownBy w' row) {r : Nat} (hr : row = some r ∨ w.heap.size ≤ r) : KA w' (some r) p := by
  obtain ⟨a, c, h1, h2, h3⟩ := h
  refine ⟨a, c, h1, h2, ?_⟩
  rcases h3 with h | ⟨g, o, e, hl, hne, hc⟩
  · exact .inl h
  · refine .inr ⟨g, o, e, Nat.lt_of_lt_of_le hl hg.size, ?_, fun i hi => (hg.cell_far _ hl hne).trans (hc i hi)⟩
    rcases hr with hr | hr
    · rw [← hr]; exact hne
    · intro h; injection h with h; omega

/-- append(v, x), x in a block of its own: where the new row lies -/
theorem app_lies {ops : Array Oper} {rest : List Oper} {o : Oper} {a : Act} {Q : Exit → Act → World → Prop} (w : World) (base : Nat) (v : Value) (vs : List Value) (u : Value) (hgd : o.guard = none) (s x : Operand)
    (ho : o.op = .call { callee := .builtin .append, args := #[s, x], argTypes := #[27, 27] })
    (hs : a.eval s = v) (hx : a.eval x = .slice (some ⟨w.heap.size, 0, none⟩) 1 1) (hown : OwnV w base v vs) (h1 : u.oneCell' = true) (hlen : vs.length + 1 ≤ 5864062014634) (hbase : base ≤ w.heap.size)
    (h : ∀ g cap w', OwnV w' base (.slice (some ⟨g, 0, none⟩) (vs.length + 1) cap) (vs ++ [u]) → (w.alloc (.cells #[u] 22)).grownBy w' v.ownBlock → (v.ownBlock = some g ∨ w.heap.size + 1 ≤ g) → wpList Try.prog ops Q rest (a.put o.dst (.slice (some ⟨g, 0, none⟩) (vs.length + 1) cap)) w') : wpList Try.prog ops Q (o :: rest) a (w.alloc (.cells #[u] 22)) := by
  obtain ⟨i0, hi0, hz0, hz1, hz2⟩ := info_parts infoK
  have hown' : (w.alloc (.cells #[u] 22)).ownsRow base 22 1 v vs.length vs := World.ownsRow.alloc hown _
  refine wpList_append_lies (w.alloc (.cells #[u] 22)) hgd s x 27 ho base 22 i0 _ 1 24 Try.underlying27 hi0 hz0 hz1 hz2 rfl (by decide) v vs.length vs hs hown' ⟨w.heap.size, 0, none⟩ 1 1 [u] hx rfl ?_ (by simpa using h1) (by decide) (by unfold maxLen; omega) (by omega) (by simp; omega) (w.heap.size + 1) (by simp) ?_
  · intro j y hy
    have hj : j = 0 := by
      rcases Nat.lt_or_ge j 1 with h | h
      · omega
      · rw [List.getElem?_eq_none (by simpa using h)] at hy; cases hy
    subst hj
    rw [add_at, World.cell?_alloc_at _ _ _ _ rfl]
    simpa using hy
  · intro g cap w' h1 h2 h3 _
    refine h g cap w' (by simpa [OwnV] using h1) h2 ?_
    rcases h3 with h | h
    · exact .inl h
    · exact .inr (by omega)

set_option maxHeartbeats 1600000 in
set_option maxRecDepth 100000 in
theorem lent_any (K : Option Addr) (c : Nat) (ks : List (List UInt8)) (w : World) (hk : RdK w w.heap.size K ks) (hl : ks.length ≤ 5864062014634) (hle : ∀ k ∈ ks, k.length ≤ 140737488351232) :
    Calls Try.prog 11 #[.slice K ks.length c] w fun e w' => ∃ (v : Value) (ps : List (Value × List UInt8)), e = .returned v ∧ OwnV w' w.heap.size v (ps.map (·.1)) ∧ ps.map (·.2) = ks ∧ (∀ p ∈ ps, KV w' w'.heap.size p) ∧ Below w.heap.size w w' := by
  have HK := Lib.hid hk
  have HL := Lib.hid hle
  obtain ⟨n, hn⟩ : ∃ n, n = ks.length := ⟨_, rfl⟩
  rw [← hn] at hl ⊢
  have HN := Lib.hid hn
  clear hk hle hn
  go_enter Try.func11, Try.ntmps11
  go_wp2
  go_loopw [3, 4] (fun v i wr => ∃ (k : Nat) (ps : List (Value × List UInt8)), k ≤ n ∧ i = .int .i64 k ∧ OwnV wr w.heap.size v (ps.map (·.1)) ∧ ps.map (·.2) = ks.take k ∧ ps.length = k ∧ (∀ p ∈ ps, KA wr v.ownBlock p) ∧ Below w.heap.size w wr) (fun _ i _ => n - (intOf i).toNat)
  case atStart => exact ⟨0, [], by omega, rfl, OwnV.nil_ _ _, rfl, rfl, (fun p h => by cases h), Below.refl _ _⟩
  case round =>
    obtain ⟨k, ps, hk, rfl, ho, hps, hpl, hkv, hb⟩ := hrel
    replace hps := Lib.hid hps
    replace hkv := Lib.hid hkv
    by_cases hlt : k < n
    · have hkl : k < ks.length := by have := HN.out; omega
      rcases HK.out with hnil | ⟨gk, ok, rfl, hgk, hcell⟩
      · rw [hnil] at hkl; simp at hkl
      obtain ⟨a, ca, hc1, hc2, hc3⟩ := hcell k hkl
      have hX := below1' wr (.cells #[] 5)
      have c1 := (hb.cell (p := ⟨gk, ok + k, none⟩) hgk).trans hc1
      have c1 := (World.cell?_alloc_lt wr (.cells #[] 5) ⟨gk, ok + k, none⟩ (World.block_lt_of_cell? _ _ c1)).trans c1
      have hkk := HL.out ks[k] (List.getElem_mem hkl)
      have hr1 := (((hc2.below hb).more hb.size).below hX).more hX.size
      obtain ⟨key, hkey⟩ : ∃ key, key = ks[k] := ⟨_, rfl⟩
      rw [← hkey] at c1 hkk hr1
      have HP := Lib.hid (show ∀ u : Value, (ps ++ [(u, key)]).map (·.2) = ks.take (k + 1) from fun u => by rw [List.map_append, hps.out, List.take_succ_eq_append_getElem hkl, hkey]; rfl)
      replace hr1 := Lib.hid hr1
      clear hcell hc1 hc2 hc3 hkey
      go_wp2_with (at_builtin; refine app_bytes _ wr.heap.size _ [] key a ca rfl (.tmp 12) (.tmp 16) rfl rfl rfl (own_made wr) hr1.out ?e1 ?e2 ?_)
      case e1 => simp; omega
      case e2 => simp
      intro v2 w2 o2 hb2 _
      have hb12 : Below wr.heap.size wr w2 := hX.trans hb2
      have hrow : ∀ r, u3.ownBlock = some r → r < wr.heap.size := fun r hr => (World.ownsRow.lt ho r hr).2
      have ho2 := ho.below hb12
      have hkv2 : ∀ p ∈ ps, KA w2 u3.ownBlock p := fun p hp => (hkv.out p hp).below hb12
      have hbw := hb.trans (hb12.mono hb.size)
      have hkm : ∃ A2 c2, v2 = .slice A2 key.length c2 ∧ KA w2 u3.ownBlock (v2, key) := by
        rcases o2.2 with ⟨rfl, hn⟩ | ⟨g2, cap2, cur, rfl, hg2, hh2, _⟩
        · have hkn : key = [] := List.eq_nil_of_length_eq_zero hn
          subst hkn
          exact ⟨none, 0, rfl, none, 0, rfl, by simp, .inl rfl⟩
        · refine ⟨some ⟨g2, 0, none⟩, cap2, rfl, some ⟨g2, 0, none⟩, cap2, rfl, by show key.length ≤ _; omega, .inr ⟨g2, 0, rfl, (Array.getElem?_eq_some_iff.1 hh2).1, fun h => ?_, fun i hi => ?_⟩⟩
          · have := hrow g2 h.symm
            omega
          · have := o2.cell i hi
            rw [Nat.zero_add]; exact this
      obtain ⟨A2, c2, rfl, hkm⟩ := hkm
      have HX := Lib.hid (show ∀ p ∈ ps ++ [(Value.slice A2 key.length c2, key)], KA w2 u3.ownBlock p from fun p hp => by
        rcases List.mem_append.1 hp with h | h
        · exact hkv2 p h
        · rw [List.mem_singleton.1 h]; exact hkm)
      have hq := HP.out (Value.slice A2 key.length c2)
      obtain ⟨qs, hqs⟩ : ∃ qs, qs = ps ++ [(Value.slice A2 key.length c2, key)] := ⟨_, rfl⟩
      have hq1 : (ps.map (·.1)) ++ [Value.slice A2 key.length c2] = qs.map (·.1) := by rw [hqs, List.map_append]; rfl
      have hql : qs.length = k + 1 := by rw [hqs, List.length_append, hpl]; rfl
      rw [← hqs] at HX hq
      obtain ⟨m, hm⟩ : ∃ m, m = key.length := ⟨_, rfl⟩
      rw [← hm] at hq1
      rw [← hm]
      replace hq := Lib.hid hq
      replace hq1 := Lib.hid hq1
      have hvl : (ps.map (·.1)).length = k := by rw [List.length_map, hpl]
      clear hb2 o2 ho hb c1 hm hb12 hX hqs hkm hkv2 hrow HP hr1
      go_wp2_with (at_builtin; refine app_lies _ w.heap.size u3 (ps.map (·.1)) (.slice A2 m c2) rfl (.tmp 11) (.tmp 18) rfl rfl rfl ho2 rfl ?e3 ?e4 ?_)
      case e3 => omega
      case e4 => exact hbw.size
      intro g3 cap3 w3 o3 hg3 hl3
      rw [hq1.out] at o3
      have hbt := below1' w2 (.cells #[.slice A2 m c2] 22)
      have hk3 : ∀ p ∈ qs, KA w3 (some g3) p := fun p hp => ((HX.out p hp).below hbt).grown hg3 (by rcases hl3 with h | h; exact .inl h; exact .inr (by simpa using h))
      have hb3 : Below w.heap.size w w3 := (hbw.trans (hbt.mono hbw.size)).grown hg3 (Nat.le_trans hbw.size hbt.size) (fun r hr => (World.ownsRow.lt ho2 r hr).1)
      replace hk3 := Lib.hid hk3
      clear hg3 hl3 hbt
      go_wp2
      go_roundw
      case rel => exact ⟨k + 1, qs, by omega, by go_num, o3, hq.out, hql, hk3.out, hb3⟩
      case measure => simp [intOf]; omega
    · have hkn : k = n := by omega
      subst hkn
      go_wp2
      go_ret
      refine ⟨_, ps, rfl, ho, ?_, fun p hp => (hkv.out p hp).kv, hb⟩
      rw [hps.out, List.take_of_length_le (by have := HN.out; omega)]
end Go.Proofs.Ytogfojohflkdnaa
