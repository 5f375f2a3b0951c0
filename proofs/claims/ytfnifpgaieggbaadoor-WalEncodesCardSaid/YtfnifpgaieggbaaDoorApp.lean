/-
  An operation's bytes behind a body.
-/
import Derived.Test.YtfnifpgaieggbaaDoorOps
import Derived.Deep.AppendLies
set_option linter.unusedVariables false
namespace Go.Proofs.YtfnifpgaieggbaaDoor
open Go.RowKit

theorem rd_grown {w w' : World} {B : Nat} {A : Option Addr} {l : List UInt8} {row : Option Nat} (h : Rd w B A l) (hB : B ≤ w.heap.size) (g : w.grownBy w' row) (hA : ∀ q o, A = some ⟨q, o, none⟩ → row ≠ some q) : Rd w' B A l := by
  rcases h with h | ⟨q, o, e, hq, hc⟩
  · exact .inl h
  · exact .inr ⟨q, o, e, hq, fun i hi => (g.cell_far ⟨q, o + i, none⟩ (show q < _ by omega) (fun x => hA q o e x.symm)).trans (hc i hi)⟩
theorem lit1 {c : UInt8} {x : Int} (h : x = (c.toNat : Int)) (w : World) : Rd (w.alloc (.cells #[.int .u8 x] 5)) (w.heap.size + 1) (some ⟨w.heap.size, 0, none⟩) [c] := rd_lit w [c] #[.int .u8 x] (by rw [h]; rfl)

/-- where a row that was appended to lies -/
def Lies (w : World) (v v' : Value) : Prop := v'.ownBlock = v.ownBlock ∨ ∀ r, v'.ownBlock = some r → w.heap.size ≤ r
theorem Lies.refl (w : World) (v : Value) : Lies w v v := .inl rfl
theorem Lies.ne {w : World} {v v' : Value} {q : Nat} (h : Lies w v v') (hv : v.ownBlock ≠ some q) (hq : q < w.heap.size) : v'.ownBlock ≠ some q := fun e => by
  rcases h with h | h
  · exact hv (h ▸ e)
  · have := h q e; omega
/-- append(v, m...), m not empty, and where it lies -/
theorem app_more {ops : Array Oper} {rest : List Oper} {o : Oper} {a : Act} {Q : Exit → Act → World → Prop} (w : World) (base : Nat) (v : Value) (l m : List UInt8) (A : Option Addr) (c n : Nat) (hn : n = m.length) (hm : 0 < n) (hgd : o.guard = none) (s x : Operand)
    (ho : o.op = .call { callee := .builtin .append, args := #[s, x], argTypes := #[28, 28] })
    (hs : a.eval s = v) (hx : a.eval x = .slice A n c) (hown : Own w base v l) (hr : Rd w w.heap.size A m) (hlen : l.length + n ≤ 70368744177664) (hbase : base ≤ w.heap.size)
    (h : ∀ gq cap w', Own w' base (.slice (some ⟨gq, 0, none⟩) (l.length + n) cap) (l ++ m) → w.grownBy w' v.ownBlock → Lies w v (.slice (some ⟨gq, 0, none⟩) (l.length + n) cap) → wpList Tryd.prog ops Q rest (a.put o.dst (.slice (some ⟨gq, 0, none⟩) (l.length + n) cap)) w') : wpList Tryd.prog ops Q (o :: rest) a w := by
  subst hn
  obtain ⟨i0, hi0, hz0, hz1, hz2⟩ := info_parts info8
  have hown' : w.ownsRow base 5 1 v l.length (l.map bv) := hown
  rcases hr with h0 | ⟨g, off, rfl, hg, hc⟩
  · rw [h0] at hm; simp at hm
  refine wpList_append_lies w hgd s x 28 ho base 5 i0 _ 1 1 Tryd.underlying28 hi0 hz0 hz1 hz2 rfl (by decide) v l.length (l.map bv) hs hown' ⟨g, off, none⟩ m.length c (m.map bv) hx (by simp) ?_ ?_ hm (by unfold maxLen; omega) (by omega) hbase w.heap.size rfl ?_
  · intro j u hu
    have hj : j < m.length := by
      rcases Nat.lt_or_ge j m.length with h | h
      · exact h
      · simp [List.getElem?_map, List.getElem?_eq_none h] at hu
    rw [add_at, hc j hj]
    simp [List.getElem?_map, List.getElem?_eq_getElem hj] at hu
    rw [hu]
  · intro u hu
    obtain ⟨b, _, rfl⟩ := List.mem_map.1 hu
    exact bv_one b
  · intro gq cap w' h1 h2 h3 _
    refine h gq cap w' ?_ h2 ?_
    · unfold Own
      rw [List.map_append, List.length_append]
      exact h1
    · rcases h3 with h3 | h3
      · exact .inl h3.symm
      · refine .inr (fun r hr => ?_)
        injection hr with hr
        have hr : gq = r := hr
        omega
theorem grown_below {B : Nat} {w w' : World} {v : Value} {base : Nat} {l : List UInt8} (h : w.grownBy w' v.ownBlock) (ho : Own w base v l) (hB : B ≤ base) (hw : B ≤ w.heap.size) : Below B w w' :=
  ⟨h.os, h.tape, h.output, h.size, fun k hk => h.block k (by omega) (fun e => by have := (World.ownsRow.lt ho k e.symm).1; omega)⟩

set_option maxHeartbeats 3200000 in
set_option maxRecDepth 100000 in
theorem appendop_any (op : OpD) (base : Nat) (v : Value) (l : List UInt8) (K : Option Addr) (kc : Nat) (V : Option Addr) (vc : Nat) (w : World) (ho : Own w base v l) (hb0 : base ≤ w.heap.size) (hl : l.length ≤ 4194304)
    (hk : Rd w w.heap.size K op.key) (hv : Rd w w.heap.size V op.val) (hkl : op.key.length ≤ 1048576) (hvl : op.val.length ≤ 1048576) :
    Calls Tryd.prog 20 #[v, .agg #[.bool op.del, .slice K op.key.length kc, .slice V op.val.length vc]] w fun e w' => ∃ v', e = .returned v' ∧ Own w' base v' (l ++ opB op) ∧ Below base w w' := by
  obtain ⟨del, key, val⟩ := op
  simp only at hk hv hkl hvl ⊢
  have hb := below1' w (.cells #[.bool del, .slice K key.length kc, .slice V val.length vc] 43)
  have B0 := Cell.new w #[.bool del, .slice K key.length kc, .slice V val.length vc] 43 0 (.bool del) rfl
  have B1 := Cell.new w #[.bool del, .slice K key.length kc, .slice V val.length vc] 43 1 (.slice K key.length kc) rfl
  have B2 := Cell.new w #[.bool del, .slice K key.length kc, .slice V val.length vc] 43 2 (.slice V val.length vc) rfl
  have HT := Lib.hid (text_ok K kc key _ ((hk.below hb).more hb.size) (by omega))
  have HO := Lib.hid ho
  have HV := Lib.hid hv
  obtain ⟨nk, hnk⟩ : ∃ x, x = key.length := ⟨_, rfl⟩
  obtain ⟨nv, hnv⟩ : ∃ x, x = val.length := ⟨_, rfl⟩
  obtain ⟨tk, htk⟩ : ∃ x, x = num key.length ++ key := ⟨_, rfl⟩
  have HTK : Hid (tk = textB key) := htk
  have htl : tk.length ≤ 1048600 := by rw [htk]; have := (textB_len (s := key)).2; unfold textB at this; omega
  have htp0 : 0 < tk.length := by rw [htk]; have := (textB_len (s := key)).1; unfold textB at this; omega
  rw [← htk] at HT
  obtain ⟨ntk, hntk⟩ : ∃ x, x = tk.length := ⟨_, rfl⟩
  have HNT := Lib.hid hntk
  rw [← hntk] at htl htp0
  rw [← hnk, ← hnv] at B0 B1 B2 hb HT
  rw [← hnk, ← hnv]
  have hnl := Lib.hid hl
  have HB0 := Lib.hid hb0
  have HVV := Lib.hid hnv
  have HOW : Hid (∀ q, v.ownBlock = some q → base ≤ q ∧ q < w.heap.size) := fun q hq => World.ownsRow.lt ho q hq
  clear ho hk hv hnk htk hnv hl
  obtain ⟨u, hu⟩ : ∃ u, u = w.heap.size := ⟨_, rfl⟩
  have HU := Lib.hid hu
  rw [← hu] at B0 B1 B2
  go_enter Tryd.func20, Tryd.ntmps20
  go_wp2_with fail
  rw [← hu]
  clear hu
  refine HT.out.mono ?_
  rintro e w1 ⟨v1, rfl, o1, h1⟩
  have X0 := B0.keep h1
  have X2 := B2.keep h1
  have hb1 := hb.trans (h1.mono hb.size)
  have HO1 := Lib.hid (Own.belowFar HO.out hb1)
  have hfr : Hid (∀ q, v1.ownBlock = some q → w.heap.size < q) := fun q hq => by
    have h2 := (World.ownsRow.lt o1 q hq).1
    have h3 : (w.alloc (.cells #[.bool del, .slice K nk kc, .slice V nv vc] 43)).heap.size = w.heap.size + 1 := by simp
    omega
  obtain ⟨A1, c1, rfl, rd1⟩ := o1.rd
  rw [← hntk]
  clear hntk
  have HR1 := Lib.hid rd1
  have hap : Hid (∀ q o, A1 = some ⟨q, o, none⟩ → v.ownBlock ≠ some q) := fun q o e h => by
    have h2 := hfr.out q (by rw [e]; rfl)
    have h3 := (HOW.out q h).2
    omega
  obtain ⟨x0, _⟩ := X0
  have HX2 := Lib.hid X2
  have HV1 := Lib.hid ((HV.out.below hb1).more hb1.size)
  clear o1 h1 hb B0 B1 B2 HT HV HO X2
  cases del with
  | true =>
    have hE : Hid (l ++ [by8 1] ++ tk = l ++ opB ⟨true, key, val⟩) := by show _ = _; rw [HTK.out]; simp [opB]
    have hsz : Hid (base ≤ (w1.alloc (.cells #[.int .u8 1] 5)).heap.size) := by have := HB0.out; have := hb1.size; show _ ≤ _; simp; omega
    have HBB : Hid (Below base w (w1.alloc (.cells #[.int .u8 1] 5))) := (hb1.mono HB0.out).alloc (Nat.le_trans HB0.out hb1.size) _
    have hq1 := Lib.hid (below1' w1 (.cells #[.int .u8 1] 5))
    have hn1 : Hid (l.length + 1 ≤ 70368744177664) := by have := hnl.out; show _ ≤ _; omega
    have htp : Hid (0 < ntk) := htp0
    clear rd1 HX2 hb1
    go_wp2_with (at_builtin; refine app_more (w1.alloc (.cells #[.int .u8 1] 5)) base v l [by8 1] (some ⟨w1.heap.size, 0, none⟩) 1 1 rfl (by decide) rfl (.tmp 17) (.tmp 18) rfl rfl rfl (HO1.out.alloc _) ((lit1 rfl w1).more (by simp)) hn1.out hsz.out ?_)
    intro gq cap w3 o3 g3 l3
    have HR3 := Lib.hid (rd_grown ((HR1.out.below hq1.out).more hq1.out.size) (Nat.le_refl _) g3 hap.out)
    have HB3 := Lib.hid (HBB.out.trans (grown_below g3 (HO1.out.alloc _) (Nat.le_refl _) hsz.out))
    have hs3 : Hid (base ≤ w3.heap.size) := Nat.le_trans hsz.out g3.size
    obtain ⟨L3, hL3⟩ : ∃ x, x = l ++ [by8 1] := ⟨_, rfl⟩
    rw [← hL3] at o3
    have HL3 := Lib.hid hL3
    have HO3 := Lib.hid o3
    have hl3 : L3.length = l.length + 1 := by rw [hL3]; simp
    have hn2 : Hid (L3.length + ntk ≤ 70368744177664) := by have := hnl.out; show _ ≤ _; omega
    obtain ⟨n3, hn3⟩ : ∃ x, x = l.length + 1 := ⟨_, rfl⟩
    rw [← hn3] at HO3
    rw [← hn3]
    have HRm := Lib.hid (HR3.out.more g3.size)
    clear o3 g3 l3 hn3 hL3 hl3
    go_wp2_with (at_builtin; refine app_more w3 base (.slice (some ⟨gq, 0, none⟩) n3 cap) L3 tk A1 c1 ntk HNT.out htp.out rfl (.tmp 19) (.tmp 20) rfl rfl rfl HO3.out HRm.out hn2.out hs3.out ?_)
    intro gq4 cap4 w4 o4 g4 l4
    have HB4 := Lib.hid (HB3.out.trans (grown_below g4 HO3.out (Nat.le_refl _) hs3.out))
    rw [show L3 ++ tk = l ++ opB ⟨true, key, val⟩ by rw [HL3.out]; exact hE.out] at o4
    have HO4 := Lib.hid o4
    clear o4 g4 l4
    go_wp2
    go_ret
    exact ⟨_, rfl, HO4.out, HB4.out⟩
  | false =>
    have x2 := HX2.out.1
    obtain ⟨tv, htv⟩ : ∃ x, x = num val.length ++ val := ⟨_, rfl⟩
    have HTV : Hid (tv = textB val) := htv
    have htvl : tv.length ≤ 1048600 := by rw [htv]; have := (textB_len (s := val)).2; unfold textB at this; omega
    have htvp : 0 < tv.length := by rw [htv]; have := (textB_len (s := val)).1; unfold textB at this; omega
    have HT2 := Lib.hid (text_ok V vc val w1 HV1.out (by omega))
    replace HT2 := HT2.out
    rw [← htv, ← HVV.out] at HT2
    replace HT2 := Lib.hid HT2
    have hE : Hid (l ++ [by8 0] ++ tk ++ tv = l ++ opB ⟨false, key, val⟩) := by show _ = _; rw [HTK.out, HTV.out]; simp [opB]
    have htp : Hid (0 < ntk) := htp0
    obtain ⟨ntv, hntv⟩ : ∃ x, x = tv.length := ⟨_, rfl⟩
    have HNV := Lib.hid hntv
    rw [← hntv] at htvl htvp
    have htp2 : Hid (0 < ntv) := htvp
    clear htv
    go_wp2_with fail
    refine HT2.out.mono ?_
    rintro e w2 ⟨v2, rfl, o2, h2⟩
    have hb2 := hb1.trans (h2.mono hb1.size)
    have HO2 := Lib.hid (Own.belowFar HO1.out h2)
    have HR12 := Lib.hid ((HR1.out.below h2).more h2.size)
    have hfr2 : Hid (∀ q, v2.ownBlock = some q → w1.heap.size ≤ q ∧ q < w2.heap.size) := fun q hq => World.ownsRow.lt o2 q hq
    obtain ⟨A2, c2, rfl, rd2⟩ := o2.rd
    have HR22 := Lib.hid rd2
    have hap2 : Hid (∀ q o, A2 = some ⟨q, o, none⟩ → v.ownBlock ≠ some q) := fun q o e h => by
      have h2 := (hfr2.out q (by rw [e]; rfl)).1
      have h3 := (HOW.out q h).2
      have h4 := hb1.size
      omega
    have hlt2 : Hid (∀ q o, A2 = some ⟨q, o, none⟩ → q < w2.heap.size) := fun q o e => (hfr2.out q (by rw [e]; rfl)).2
    have hsz : Hid (base ≤ (w2.alloc (.cells #[.int .u8 0] 5)).heap.size) := by have := HB0.out; have := hb2.size; show _ ≤ _; simp; omega
    have HBB : Hid (Below base w (w2.alloc (.cells #[.int .u8 0] 5))) := (hb2.mono HB0.out).alloc (Nat.le_trans HB0.out hb2.size) _
    have hq1 := Lib.hid (below1' w2 (.cells #[.int .u8 0] 5))
    have hn1 : Hid (l.length + 1 ≤ 70368744177664) := by have := hnl.out; show _ ≤ _; omega
    rw [← hntv]
    clear o2 h2 rd2 rd1 hb2 HT2 x2 HX2 hb1 hntv
    go_wp2_with (at_builtin; refine app_more (w2.alloc (.cells #[.int .u8 0] 5)) base v l [by8 0] (some ⟨w2.heap.size, 0, none⟩) 1 1 rfl (by decide) rfl (.tmp 28) (.tmp 29) rfl rfl rfl (HO2.out.alloc _) ((lit1 rfl w2).more (by simp)) hn1.out hsz.out ?_)
    intro gq cap w3 o3 g3 l3
    have HR3 := Lib.hid (rd_grown ((HR12.out.below hq1.out).more hq1.out.size) (Nat.le_refl _) g3 hap.out)
    have HR32 := Lib.hid (rd_grown ((HR22.out.below hq1.out).more hq1.out.size) (Nat.le_refl _) g3 hap2.out)
    have hap3 : Hid (∀ q o, A2 = some ⟨q, o, none⟩ → (Value.slice (some ⟨gq, 0, none⟩) (l.length + 1) cap).ownBlock ≠ some q) := fun q o e => l3.ne (hap2.out q o e) (by have := hlt2.out q o e; simp; omega)
    have HB3 := Lib.hid (HBB.out.trans (grown_below g3 (HO2.out.alloc _) (Nat.le_refl _) hsz.out))
    have hs3 : Hid (base ≤ w3.heap.size) := Nat.le_trans hsz.out g3.size
    obtain ⟨L3, hL3⟩ : ∃ x, x = l ++ [by8 0] := ⟨_, rfl⟩
    rw [← hL3] at o3
    have HL3 := Lib.hid hL3
    have HO3 := Lib.hid o3
    have hl3 : L3.length = l.length + 1 := by rw [hL3]; simp
    have hn2 : Hid (L3.length + ntk ≤ 70368744177664) := by have := hnl.out; show _ ≤ _; omega
    obtain ⟨n3, hn3⟩ : ∃ x, x = l.length + 1 := ⟨_, rfl⟩
    rw [← hn3] at HO3 hap3
    rw [← hn3]
    have HRm := Lib.hid (HR3.out.more g3.size)
    have HRm2 := Lib.hid (HR32.out.more g3.size)
    clear o3 g3 l3 hn3 hL3 hl3
    go_wp2_with (at_builtin; refine app_more w3 base (.slice (some ⟨gq, 0, none⟩) n3 cap) L3 tk A1 c1 ntk HNT.out htp.out rfl (.tmp 30) (.tmp 31) rfl rfl rfl HO3.out HRm.out hn2.out hs3.out ?_)
    intro gq4 cap4 w4 o4 g4 l4
    have HR4 := Lib.hid ((rd_grown HRm2.out (Nat.le_refl _) g4 hap3.out).more g4.size)
    have HB4 := Lib.hid (HB3.out.trans (grown_below g4 HO3.out (Nat.le_refl _) hs3.out))
    have hs4 : Hid (base ≤ w4.heap.size) := Nat.le_trans hs3.out g4.size
    obtain ⟨L4, hL4⟩ : ∃ x, x = L3 ++ tk := ⟨_, rfl⟩
    rw [← hL4] at o4
    have HL4 := Lib.hid hL4
    have HO4 := Lib.hid o4
    have hn4 : Hid (L4.length + ntv ≤ 70368744177664) := by have := hnl.out; have := HNT.out; show _ ≤ _; rw [hL4, HL3.out]; simp; omega
    obtain ⟨n4, hn4'⟩ : ∃ x, x = L3.length + ntk := ⟨_, rfl⟩
    rw [← hn4'] at HO4
    rw [← hn4']
    clear o4 g4 l4 hn4' hL4
    go_wp2_with (at_builtin; refine app_more w4 base (.slice (some ⟨gq4, 0, none⟩) n4 cap4) L4 tv A2 c2 ntv HNV.out htp2.out rfl (.tmp 33) (.tmp 34) rfl rfl rfl HO4.out HR4.out hn4.out hs4.out ?_)
    intro gq5 cap5 w5 o5 g5 l5
    have HB5 := Lib.hid (HB4.out.trans (grown_below g5 HO4.out (Nat.le_refl _) hs4.out))
    rw [show L4 ++ tv = l ++ opB ⟨false, key, val⟩ by rw [HL4.out, HL3.out]; exact hE.out] at o5
    have HO5 := Lib.hid o5
    clear o5 g5 l5
    go_wp2
    go_ret
    exact ⟨_, rfl, HO5.out, HB5.out⟩
end Go.Proofs.YtfnifpgaieggbaaDoor
