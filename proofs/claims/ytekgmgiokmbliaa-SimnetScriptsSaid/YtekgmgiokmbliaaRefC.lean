/-
  The reference's take.
-/
import Derived.Test.YtekgmgiokmbliaaRefB
set_option linter.unusedVariables false
namespace Go.Proofs.Ytekgmgiokmbliaa
open Go.RowKit

theorem OwnF.mono {w : World} {b b' : Nat} {v : Value} {l : List Ev} (h : OwnF w b v l) (hb : b' ≤ b) : OwnF w b' v l := by
  unfold OwnF at h ⊢
  refine ⟨h.1, ?_⟩
  rcases h.2 with hn | ⟨g, cap, cur, hv, hg, r⟩
  · exact .inl hn
  · exact .inr ⟨g, cap, cur, hv, Nat.le_trans hb hg, r⟩
/-- append(v, xs...): v the call's own, xs cells of envelopes -/
theorem app_evs {ops : Array Oper} {rest : List Oper} {o : Oper} {a : Act} {Q : Exit → Act → World → Prop} (w : World) (base : Nat) (v : Value) (l m : List Ev) (ad : Addr) (c k : Nat) (hgd : o.guard = none) (s x : Operand)
    (ho : o.op = .call { callee := .builtin .append, args := #[s, x], argTypes := #[27, 27] })
    (hs : a.eval s = v) (hx : a.eval x = .slice (some ad) k c) (hk : k = m.length) (hown : OwnF w base v l) (hr : ∀ j u, (m.flatMap ec)[j]? = some u → w.cell? (ad.add j) = some u) (hone : ∀ e ∈ m, e.2.2.2.2.oneCell' = true) (hlen : l.length + m.length ≤ 2000) (hbase : base ≤ w.heap.size)
    (h : ∀ v' w', OwnF w' base v' (l ++ m) → w.grownBy w' v.ownBlock → wpList Try.prog ops Q rest (a.put o.dst v') w') : wpList Try.prog ops Q (o :: rest) a w := by
  subst hk
  obtain ⟨i0, hi0, hz0, hz1, hz2⟩ := info_parts infoE
  refine wpList_append_own_wide w hgd s x 27 ho base 32 i0 _ 5 56 Try.underlying27 hi0 hz0 hz1 hz2 rfl (by decide) v l.length (l.flatMap ec) hs hown ad m.length c (m.flatMap ec) hx (ec_len m) hr ?_ (by unfold maxLen; omega) (by omega) hbase ?_
  · intro u hu
    obtain ⟨e, he, hu⟩ := List.mem_flatMap.1 hu
    have h1 := hone e he
    simp only [ec, List.mem_cons, List.not_mem_nil, or_false] at hu
    rcases hu with rfl | rfl | rfl | rfl | rfl <;> first | rfl | exact h1
  · intro v' w' h1 h2 _
    refine h v' w' ?_ h2
    unfold OwnF
    rw [List.flatMap_append, List.length_append]
    exact h1

set_option maxHeartbeats 3200000 in
set_option maxRecDepth 100000 in
theorem rtake_ok (g base : Nat) (last : Int) (fv : Value) (es : List Ev) (k : Nat) (w : World) (hN : RNet w g base last fv es) (hk : k < es.length) (hlen : es.length ≤ 1000) (hne : ∀ e ∈ es, e.2.2.2.2.oneCell' = true) :
    Calls Try.prog 37 #[.pointer (some ⟨g, 0, none⟩), .int .i64 k] w fun e w' => ∃ fv', e = .returned (.tuple #[]) ∧ RNet w' g base last fv' (es.eraseIdx k) ∧ Two g fv.ownBlock w w' ∧ (∀ r, fv'.ownBlock = some r → w.heap.size ≤ r) := by
  obtain ⟨fA, fc, rfl⟩ := hN.own.form
  have hO' := hN.own
  unfold OwnF at hO'
  obtain ⟨q, rfl⟩ : ∃ q, fA = some ⟨q, 0, none⟩ := by
    rcases hO'.2 with ⟨_, hn⟩ | ⟨g, cap, cur, hv, _⟩
    · omega
    · injection hv with h1 h2 h3; exact ⟨g, h1⟩
  obtain ⟨hcn, hcm⟩ : es.length ≤ fc ∧ fc ≤ maxLen := by
    rcases hO'.2 with ⟨hv, _⟩ | ⟨g, cap, cur, hv, _, _, h1, h2, _⟩
    · cases hv
    · injection hv with h3 h4 h5; subst h5; exact ⟨by omega, h2⟩
  have hcell : ∀ t, t < es.length * 5 → w.cell? ⟨q, t, none⟩ = (es.flatMap ec)[t]? := fun t ht => World.ownsRow.cellAt hO' t ht
  obtain ⟨n, hn⟩ : ∃ n, n = es.length := ⟨_, rfl⟩
  have hR1 : Hid (∀ j u, ((es.take k).flatMap ec)[j]? = some u → w.cell? ((⟨q, 0, none⟩ : Addr).add j) = some u) := by
    intro j u hu
    have hj : j < ((es.take k).flatMap ec).length := (List.getElem?_eq_some_iff.1 hu).1
    rw [ec_len, List.length_take] at hj
    rw [add_at, Nat.zero_add, hcell j (by omega)]
    rw [← flat_take, List.getElem?_take] at hu
    split at hu
    · exact hu
    · cases hu
  obtain ⟨B, hA, hBq, hR2⟩ : ∃ B : Addr, (if fc = k + 1 then (some ⟨q, 0, none⟩ : Option Addr) else some ⟨q, (k + 1) * 5, none⟩) = some B ∧ B.block = q ∧ Hid (∀ j u, ((es.drop (k + 1)).flatMap ec)[j]? = some u → w.cell? (B.add j) = some u) := by
    by_cases hcj : fc = k + 1
    · refine ⟨⟨q, 0, none⟩, by rw [if_pos hcj], rfl, fun t u hu => ?_⟩
      have h0 : es.drop (k + 1) = [] := List.drop_eq_nil_of_le (by omega)
      rw [h0] at hu
      cases hu
    · refine ⟨⟨q, (k + 1) * 5, none⟩, by rw [if_neg hcj], rfl, fun t u hu => ?_⟩
      have ht : t < ((es.drop (k + 1)).flatMap ec).length := (List.getElem?_eq_some_iff.1 hu).1
      rw [ec_len, List.length_drop] at ht
      rw [add_at, hcell _ (by omega)]
      rw [← flat_drop, List.getElem?_drop] at hu
      exact hu
  have HO := Lib.hid hN
  have HNE := Lib.hid hne
  have hq : q < w.heap.size := (World.ownsRow.lt hO' q rfl).2
  have hk1 := hN.c1.1
  have hkf := hN.c1.2
  have hgw := hN.c1.lt
  have HN := Lib.hid hn
  rw [← hn] at hk1 hk hlen hcn
  have hcm : fc ≤ 9223372036854775807 := hcm
  have hk' : k ≤ 1000 := by omega
  have hks : k ≤ fc := by omega
  have hks1 : k + 1 ≤ fc := by omega
  have hkn1 : k + 1 ≤ n := by omega
  have hHK := Lib.hid hk
  clear hN hne hO' hcell hn
  go_enter Try.func37, Try.ntmps37
  go_wp2_with (at_builtin; refine app_evs _ w.heap.size (.slice none 0 0) [] (es.take k) ⟨q, 0, none⟩ fc k rfl (.tmp 5) (.tmp 11) rfl rfl rfl (by rw [List.length_take]; have := HN.out; omega) (World.ownsRow_nil _ _ _ _) hR1.out (fun e he => HNE.out e (List.mem_of_mem_take he)) (by simp; have := HN.out; omega) (Nat.le_refl _) ?_)
  intro v2 w2 O2 hg2
  have h2 : Below w.heap.size w w2 := (Below.refl _ _).grown hg2 (Nat.le_refl _) (fun k hk => by cases hk)
  have O2 := Lib.hid O2
  have R2 := Lib.hid (fun (j : Nat) (u : Value) (hu : ((es.drop (k + 1)).flatMap ec)[j]? = some u) => (h2.cell (p := B.add j) (by have := World.block_lt_of_cell? w _ (hR2.out j u hu); exact this)).trans (hR2.out j u hu))
  have k2 := (HO.out.c1.keep h2).1
  rw [← HN.out] at k2
  have h2' := Lib.hid h2
  clear hg2 h2
  go_wp2_with (at_builtin; refine app_evs _ w.heap.size v2 (es.take k) (es.drop (k + 1)) B (fc - (k + 1)) (n - (k + 1)) rfl (.tmp 13) (.tmp 20) rfl rfl (by simp [Act.eval]) (by rw [List.length_drop]; have := HN.out; omega) O2.out R2.out (fun e he => HNE.out e (List.mem_of_mem_drop he)) (by simp; have := HN.out; omega) h2'.out.size ?_)
  intro v3 w3 O3 hg3
  obtain ⟨A3, a3, hv3⟩ := OwnF.form O3
  obtain ⟨n3, hn3⟩ : ∃ n3, n3 = (es.take k ++ es.drop (k + 1)).length := ⟨_, rfl⟩
  rw [← hn3] at hv3
  clear hn3
  subst hv3
  have h3 : Below w.heap.size w w3 := h2'.out.grown hg3 h2'.out.size (fun k hk => (World.ownsRow.lt O2.out k hk).1)
  have C0 := HO.out.c0.keep h3
  have C1 := HO.out.c1.keep h3
  obtain ⟨c1, f1⟩ := C1
  rw [← List.eraseIdx_eq_take_drop_succ] at O3
  have hge : ∀ r, (Value.slice A3 n3 a3).ownBlock = some r → w.heap.size ≤ r := fun r hr => (World.ownsRow.lt O3 r hr).1
  have N3 : Hid (RNet (w3.setCell ⟨g, 0, none⟩ (.slice A3 n3 a3)) g base last (.slice A3 n3 a3) (es.eraseIdx k)) := ⟨C0.far (by simp) _, Cell.set ⟨c1, f1⟩ _, OwnF.mono (OwnF.far (p := ⟨g, 0, none⟩) O3 (fun e => by have := hge g e; omega) _) (by have := (HO.out.gb); omega), HO.out.gb, fun e => by have := hge g e; omega⟩
  have T3 : Hid (Two g (Value.slice (some ⟨q, 0, none⟩) es.length fc).ownBlock w (w3.setCell ⟨g, 0, none⟩ (.slice A3 n3 a3))) := (Two.of_below h3).setg 0 _
  have HGE := Lib.hid hge
  clear C0 O3 hg3 h3 hge O2 R2
  go_wp2
  go_end0
  exact ⟨_, rfl, N3.out, T3.out, HGE.out⟩
end Go.Proofs.Ytekgmgiokmbliaa
