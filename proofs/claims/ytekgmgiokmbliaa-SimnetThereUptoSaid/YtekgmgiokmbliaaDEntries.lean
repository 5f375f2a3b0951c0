/-
  The reader of the program: entries.
-/
import Derived.Test.YtekgmgiokmbliaaDBytes
import Derived.Test.YtekgmgiokmbliaaEnts
set_option linter.unusedVariables false
namespace Go.Proofs.Ytekgmgiokmbliaa
open Go.RowKit

theorem infoL : (Try.prog.info? 74).map (fun i => (i.zero, i.size, i.bytes)) = some (some (.agg #[.int .i64 0, .int .i64 0, .int .i64 0, .slice none 0 0]), 4, 48) := by kernel_rfl
/-- an entry and where its bytes lie -/
abbrev EV := Ent × Option Addr × Nat
def lc (e : EV) : List Value := [.int .i64 e.1.index, .int .i64 e.1.term, .int .i64 e.1.kind, .slice e.2.1 e.1.data.length e.2.2]
theorem lc_len (es : List EV) : (es.flatMap lc).length = es.length * 4 := by
  induction es with
  | nil => rfl
  | cons e es ih => rw [List.flatMap_cons, List.length_append, ih]; simp [lc]; omega
theorem lc_at : ∀ (es : List EV) (k j : Nat) (h : k < es.length), j < 4 → (es.flatMap lc)[k * 4 + j]? = (lc es[k])[j]?
  | [], _, _, h, _ => by simp at h
  | e :: es, 0, j, _, hj => by
    rw [List.flatMap_cons, Nat.zero_mul, Nat.zero_add, List.getElem?_append_left (by simp [lc]; exact hj)]
    rfl
  | e :: es, k + 1, j, h, hj => by
    rw [List.flatMap_cons, List.getElem?_append_right (by simp [lc]; omega)]
    have : (k + 1) * 4 + j - (lc e).length = k * 4 + j := by simp [lc]; omega
    rw [this, lc_at es k j (by simpa using h) hj]
    rfl
/-- entries that were read: a row, their bytes apart from the reader and the row -/
structure Got (w : World) (base g : Nat) (v : Value) (es : List EV) : Prop where
  own : w.ownsRow base 74 4 v es.length (es.flatMap lc)
  rd : ∀ e ∈ es, RdN w g e.2.1 e.1.data ∧ ∀ q o, e.2.1 = some ⟨q, o, none⟩ → e.1.data ≠ [] → v.ownBlock ≠ some q ∧ base ≤ q
  ne : v.ownBlock ≠ some g
theorem Got.form {w : World} {base g : Nat} {v : Value} {es : List EV} (h : Got w base g v es) : ∃ A c, v = .slice A es.length c := by
  rcases h.own.2 with ⟨rfl, hn⟩ | ⟨g, cap, cur, rfl, _⟩
  · exact ⟨none, 0, by rw [hn]⟩
  · exact ⟨_, _, rfl⟩
theorem Got.only {w w' : World} {base g : Nat} {v : Value} {es : List EV} (h : Got w base g v es) (ho : Only g w w') : Got w' base g v es := by
  refine ⟨row_block h.own (fun k hk => ho.block k (World.ownsRow.lt h.own k hk).2 (fun e => h.ne (e ▸ hk))), fun e he => ?_, h.ne⟩
  obtain ⟨h1, h2⟩ := h.rd e he
  exact ⟨h1.only ho, h2⟩
theorem Got.ents {w : World} {base g : Nat} {A : Option Addr} {n c : Nat} {es : List EV} (h : Got w base g (.slice A n c) es) : Ents w w.heap.size A (es.map (·.1)) := by
  by_cases h0 : es = []
  · exact .inl (by rw [h0]; rfl)
  · right
    have hl : 0 < es.length := List.length_pos_iff.2 h0
    have hA : ∃ q, (Value.slice A n c).ownBlock = some q ∧ A = some ⟨q, 0, none⟩ := by
      rcases h.own.2 with ⟨_, hn⟩ | ⟨g, cap, cur, hv, _⟩
      · omega
      · injection hv with h1 h2 h3
        subst h1
        exact ⟨g, rfl, rfl⟩
    obtain ⟨q, hq, hA⟩ := hA
    refine ⟨q, 0, hA, (World.ownsRow.lt h.own q hq).2, fun k hk => ?_⟩
    have hk' : k < es.length := by simpa using hk
    have C := World.ownsRow.cells h.own hq
    have F : ∀ j u, j < 4 → (lc es[k])[j]? = some u → w.cell? ⟨q, 0 + k * 4 + j, none⟩ = some u := fun j u hj hu => by
      have := C (k * 4 + j) u ((lc_at es k j hk' hj).trans hu)
      rw [add_at, ← Nat.add_assoc] at this
      exact this
    rw [List.getElem_map]
    exact ⟨es[k].2.1, es[k].2.2, F 0 _ (by omega) rfl, F 1 _ (by omega) rfl, F 2 _ (by omega) rfl, F 3 _ (by omega) rfl, (h.rd _ (List.getElem_mem hk')).1.rd⟩

/-- append(v, e), e in a block of its own -/
theorem app_entry {ops : Array Oper} {rest : List Oper} {o : Oper} {a : Act} {Q : Exit → Act → World → Prop} (w : World) (base g : Nat) (v : Value) (n : Nat) (es : List EV) (e : EV) (hgd : o.guard = none) (s x : Operand)
    (ho : o.op = .call { callee := .builtin .append, args := #[s, x], argTypes := #[49, 49] })
    (hs : a.eval s = v) (H : Nat) (hH : w.heap.size = H) (hx : a.eval x = .slice (some ⟨H, 0, none⟩) 1 1) (hg : Got w base g v es) (he : RdN w g e.2.1 e.1.data) (hev : ∀ q o, e.2.1 = some ⟨q, o, none⟩ → e.1.data ≠ [] → v.ownBlock ≠ some q ∧ base ≤ q) (hn : n = es.length) (hlen : n < 1000) (hbase : base ≤ w.heap.size) (hgw : g < w.heap.size)
    (h : ∀ gq cap w', Got w' base g (.slice (some ⟨gq, 0, none⟩) (n + 1) cap) (es ++ [e]) → w.grownBy w' v.ownBlock → wpList Try.prog ops Q rest (a.put o.dst (.slice (some ⟨gq, 0, none⟩) (n + 1) cap)) w') :
    wpList Try.prog ops Q (o :: rest) a (w.alloc (.cells #[.int .i64 e.1.index, .int .i64 e.1.term, .int .i64 e.1.kind, .slice e.2.1 e.1.data.length e.2.2] 74)) := by
  subst hn
  subst hH
  obtain ⟨i0, hi0, hz0, hz1, hz2⟩ := info_parts infoL
  have hown' : (w.alloc (.cells #[.int .i64 e.1.index, .int .i64 e.1.term, .int .i64 e.1.kind, .slice e.2.1 e.1.data.length e.2.2] 74)).ownsRow base 74 4 v es.length (es.flatMap lc) := World.ownsRow.alloc hg.own _
  refine wpList_append_lies (w.alloc (.cells #[.int .i64 e.1.index, .int .i64 e.1.term, .int .i64 e.1.kind, .slice e.2.1 e.1.data.length e.2.2] 74)) hgd s x 49 ho base 74 i0 _ 4 48 Try.underlying49 hi0 hz0 hz1 hz2 rfl (by decide) v es.length (es.flatMap lc) hs hown' ⟨w.heap.size, 0, none⟩ 1 1 (lc e) hx rfl ?_ ?_ (by decide) (by unfold maxLen; omega) (by omega) (by simp; omega) (w.heap.size + 1) (by simp) ?_
  · intro j u hu
    rw [add_at, World.cell?_alloc_at _ _ _ _ rfl, Nat.zero_add, ← Array.getElem?_toList]
    exact hu
  · intro u hu
    simp only [lc, List.mem_cons, List.not_mem_nil, or_false] at hu
    rcases hu with rfl | rfl | rfl | rfl <;> rfl
  · intro gq cap w' h1 h2 h3 _
    have hgr := grown_alloc h2
    refine h gq cap w' ⟨?_, fun f hf => ?_, ?_⟩ hgr
    · rw [List.flatMap_append, List.length_append]
      simpa using h1
    · have hfin : RdN w g f.2.1 f.1.data ∧ ∀ q o, f.2.1 = some ⟨q, o, none⟩ → f.1.data ≠ [] → v.ownBlock ≠ some q ∧ base ≤ q := by
        rcases List.mem_append.1 hf with hf | hf
        · exact hg.rd f hf
        · rw [List.mem_singleton.1 hf]; exact ⟨he, hev⟩
      obtain ⟨r1, r2⟩ := hfin
      refine ⟨⟨?_, r1.ne⟩, fun q o hq h0 => ⟨fun hb => ?_, (r2 q o hq h0).2⟩⟩
      · rcases r1.rd with h0 | ⟨q, o, hq, hlt, hc⟩
        · exact .inl h0
        · by_cases h0 : f.1.data = []
          · exact .inl h0
          · exact .inr ⟨q, o, hq, Nat.lt_of_lt_of_le hlt hgr.size, fun i hi => (hgr.cell_far _ hlt (fun x => (r2 q o hq h0).1 x.symm)).trans (hc i hi)⟩
      · injection hb with hb
        have hb : gq = q := hb
        rcases h3 with h3 | h3
        · exact (r2 q o hq h0).1 (hb ▸ h3)
        · rcases r1.rd with h4 | ⟨q', o', hq', hlt, _⟩
          · exact h0 h4
          · rw [hq] at hq'; injection hq' with hq'; injection hq' with hq'; omega
    · intro hb
      injection hb with hb
      have hb : gq = g := hb
      rcases h3 with h3 | h3
      · exact hg.ne (hb ▸ h3)
      · omega

def reF (index : Int) : Nat → Nat → List Ent → RS → List Ent × RS
  | 0, _, acc, s => (acc, s)
  | f + 1, k, acc, s => reF index f (k + 1) (acc ++ [⟨index + 1 + k, (rcount s).1, (rbyte (rcount s).2).1, (rbytes (rbyte (rcount s).2).2).1⟩]) (rbytes (rbyte (rcount s).2).2).2
def rentries (index : Int) (s : RS) : List Ent × RS := if 64 < (rcount s).1 then ([], ((rcount s).2.1, true)) else reF index (rcount s).1 0 [] (rcount s).2
theorem RdrAt.grown {w w' : World} {g B : Nat} {s : RS} {row : Option Nat} (h : RdrAt w g B s) (hg : w.grownBy w' row) (hr : row ≠ some g) (hB : ∀ r, row = some r → B ≤ r) : RdrAt w' g B s := by
  obtain ⟨A, c, hc, h1, h2, hrd, hA⟩ := h.at_
  have hne : some g ≠ row := fun e => hr e.symm
  refine ⟨⟨A, c, hc.grown hg hne, h1, h2, ?_, hA⟩, h.bad.grown hg hne, h.hB⟩
  rcases hrd with h0 | ⟨q, o, e, hq, hcell⟩
  · exact .inl h0
  · exact .inr ⟨q, o, e, hq, fun i hi => (hg.cell_far ⟨q, o + i, none⟩ (by show q < _; have := hc.lt; have := h.hB; omega) (fun x => by have := hB q x.symm; omega)).trans (hcell i hi)⟩
theorem Only.grown {g : Nat} {a w w' : World} {row : Option Nat} (h : Only g a w) (hg : w.grownBy w' row) (hr : ∀ r, row = some r → a.heap.size ≤ r) : Only g a w' :=
  ⟨hg.os.trans h.os, hg.tape.trans h.tape, hg.output.trans h.output, Nat.le_trans h.size hg.size, fun k hk hkg => (hg.block k (Nat.lt_of_lt_of_le hk h.size) (fun e => by have := hr k e.symm; omega)).trans (h.block k hk hkg)⟩
theorem rbyte_len (s : RS) : (rbyte s).2.1.length ≤ s.1.length := by
  obtain ⟨l, b⟩ := s
  cases l <;> simp [rbyte]
theorem rbytes_len (s : RS) : (rbytes s).2.1.length ≤ s.1.length := by
  unfold rbytes
  have := rcount_len s
  split
  · exact this
  · simp; omega

set_option maxHeartbeats 3200000 in
set_option maxRecDepth 100000 in
theorem dentries_any (g B : Nat) (idx : Int) (s : RS) (w : World) (h : RdrAt w g B s) (hl : s.1.length ≤ 140737488351232) (hi1 : 0 ≤ idx) (hi2 : idx < 72057594037927936) :
    Calls Try.prog 65 #[.pointer (some ⟨g, 0, none⟩), .int .i64 idx] w fun e w' => ∃ A c es, e = .returned (.slice A (es : List EV).length c) ∧ es.map (·.1) = (rentries idx s).1 ∧ Got w' w.heap.size g (.slice A es.length c) es ∧ RdrAt w' g B (rentries idx s).2 ∧ Only g w w' := by
  have CO := Lib.hid (dcount_any g B s w h)
  have hgw : g < w.heap.size := h.bad.lt
  have HBg := Lib.hid h.hB
  have HD : Hid (rentries idx s = if 64 < (rcount s).1 then ([], ((rcount s).2.1, true)) else reF idx (rcount s).1 0 [] (rcount s).2) := rfl
  have HLn : Hid ((rcount s).2.1.length ≤ 140737488351232) := Nat.le_trans (rcount_len s) hl
  obtain ⟨n, hn⟩ : ∃ n, n = (rcount s).1 := ⟨_, rfl⟩
  obtain ⟨t, ht⟩ : ∃ t, t = (rcount s).2 := ⟨_, rfl⟩
  have hlt := rcount_lt s
  replace CO := CO.out
  replace HD := HD.out
  replace HLn := HLn.out
  rw [← hn, ← ht] at CO HD
  rw [← ht] at HLn
  rw [← hn] at hlt
  replace CO := Lib.hid CO
  replace HD := Lib.hid HD
  replace HLn := Lib.hid HLn
  clear h hn ht hl
  go_enter Try.func65, Try.ntmps65
  go_wp2_with fail
  refine CO.out.mono ?_
  rintro e w2 ⟨rfl, R2, O2⟩
  by_cases hgt : 64 < n
  · have HF : Hid (RdrAt (w2.setCell ⟨g, 1, none⟩ (.bool true)) g B (t.1, true) ∧ Only g w (w2.setCell ⟨g, 1, none⟩ (.bool true))) := ⟨R2.set_bad, O2.set1 1 _⟩
    obtain ⟨k1, f1⟩ := R2.bad
    clear R2 O2
    go_wp2
    go_ret
    rw [HD.out, if_pos hgt]
    exact ⟨none, 0, [], rfl, rfl, ⟨World.ownsRow_nil _ _ _ _, (fun e h => nomatch h), (fun h => nomatch h)⟩, HF.out.1, HF.out.2⟩
  · have hn64 : n ≤ 64 := by omega
    have S0 : Hid (∃ (es : List EV) (s' : RS), Got w2 w.heap.size g (.slice none 0 0) es ∧ es.length = 0 ∧ RdrAt w2 g B s' ∧ Only g w w2 ∧ reF idx n 0 [] t = reF idx (n - 0) 0 (es.map (·.1)) s' ∧ s'.1.length ≤ 140737488351232) :=
      ⟨[], t, ⟨World.ownsRow_nil _ _ _ _, (fun e h => nomatch h), (fun h => nomatch h)⟩, rfl, R2, O2, rfl, HLn.out⟩
    clear R2 O2
    go_wp2
    go_loopw [6, 16] (fun s6 s16 wr => ∃ (k : Nat) (A : Option Addr) (d : Nat), s16 = .int .i64 k ∧ k ≤ n ∧ s6 = .slice A k d ∧ Hid (∃ (es : List EV) (s' : RS), Got wr w.heap.size g (.slice A k d) es ∧ es.length = k ∧ RdrAt wr g B s' ∧ Only g w wr ∧ reF idx n 0 [] t = reF idx (n - k) k (es.map (·.1)) s' ∧ s'.1.length ≤ 140737488351232)) (fun _ s16 _ => n - (intOf s16).toNat)
    case atStart => exact ⟨0, none, 0, rfl, by omega, rfl, S0⟩
    case round =>
      clear S0
      obtain ⟨k, A, d, rfl, hk, rfl, HI⟩ := hrel
      by_cases hlt : k < n
      · obtain ⟨es, s', hG, hes, hR, hO, hE, hsl⟩ := HI.out
        have C1 := Lib.hid (dcount_any g B s' wr hR)
        have HG := Lib.hid hG
        have HES := Lib.hid hes
        have HO := Lib.hid hO
        have HE := Lib.hid hE
        have l1 := Nat.le_trans (rcount_len s') hsl
        have l2 := Lib.hid (Nat.le_trans (rbyte_len (rcount s').2) l1)
        have l3 := Lib.hid (Nat.le_trans (rbytes_len (rbyte (rcount s').2).2) l2.out)
        clear hG hes hR hO hE hsl l1 HI
        go_wp2_with fail
        refine C1.out.mono ?_
        rintro e w3 ⟨rfl, R3, O3⟩
        have C2 := Lib.hid (dbyte_any g B (rcount s').2 w3 R3)
        have HG3 := Lib.hid (HG.out.only O3)
        have HO3 := Lib.hid (HO.out.trans O3)
        clear R3 O3 C1 HG HO
        go_wp2_with fail
        refine C2.out.mono ?_
        rintro e w4 ⟨rfl, R4, O4⟩
        have C3 := Lib.hid (dbytes_any g B (rbyte (rcount s').2).2 w4 R4 l2.out)
        have HG4 := Lib.hid (HG3.out.only O4)
        have HO4 := Lib.hid (HO3.out.trans O4)
        clear R4 O4 C2 HG3 HO3
        go_wp2_with fail
        refine C3.out.mono ?_
        rintro e w5 ⟨dA, dc, rfl, N5, R5, O5, hfr⟩
        have HG5 := Lib.hid (HG4.out.only O5)
        have HO5 := Lib.hid (HO4.out.trans O5)
        have hrow : Hid (∀ q, (Value.slice A k d).ownBlock = some q → w.heap.size ≤ q ∧ q < w4.heap.size) := fun q hq => World.ownsRow.lt HG4.out.own q hq
        have HN5 := Lib.hid N5
        have HR5 := Lib.hid R5
        have hev : Hid (∀ q o, dA = some ⟨q, o, none⟩ → (rbytes (rbyte (rcount s').2).2).1 ≠ [] → (Value.slice A k d).ownBlock ≠ some q ∧ w.heap.size ≤ q) := fun q o h1 h2 => ⟨fun h3 => by have := hfr q o h1 h2; have := (hrow.out q h3).2; omega, Nat.le_trans HO4.out.size (hfr q o h1 h2)⟩
        have hk3 : Hid (k < 1000) := by show _ < _; omega
        have hg5 : Hid (g < w5.heap.size) := Nat.lt_of_lt_of_le hgw HO5.out.size
        have hb5 : Hid (w.heap.size ≤ w5.heap.size) := HO5.out.size
        have hw1 : IntKind.i64.wrap (idx + 1) = idx + 1 := IntWalk.i64_in _ (by omega)
        obtain ⟨tN, htN⟩ : ∃ x, x = (rcount s').1 := ⟨_, rfl⟩
        obtain ⟨yN, hyN⟩ : ∃ x, x = (rbyte (rcount s').2).1 := ⟨_, rfl⟩
        obtain ⟨dl, hdl⟩ : ∃ x, x = (rbytes (rbyte (rcount s').2).2).1 := ⟨_, rfl⟩
        replace HN5 := HN5.out
        replace hev := hev.out
        rw [← hdl] at HN5 hev
        replace HN5 := Lib.hid HN5
        replace hev := Lib.hid hev
        rw [← htN, ← hyN, ← hdl]
        have HT := Lib.hid (And.intro htN (And.intro hyN hdl))
        have hk64 : k ≤ 64 := by omega
        clear N5 R5 O5 hfr C3 HG4 HO4 htN hyN hdl
        go_wp2_with (at_builtin; refine app_entry w5 w.heap.size g (.slice A k d) k es (⟨idx + 1 + k, tN, yN, dl⟩, dA, dc) rfl (.tmp 19) (.tmp 31) rfl rfl w5.heap.size rfl rfl HG5.out HN5.out hev.out HES.out.symm hk3.out hb5.out hg5.out ?_)
        intro gq cap w6 G6 g6
        have HF : Hid (∃ (es : List EV) (s' : RS), Got w6 w.heap.size g (.slice (some ⟨gq, 0, none⟩) (k + 1) cap) es ∧ es.length = k + 1 ∧ RdrAt w6 g B s' ∧ Only g w w6 ∧ reF idx n 0 [] t = reF idx (n - (k + 1)) (k + 1) (es.map (·.1)) s' ∧ s'.1.length ≤ 140737488351232) := by
          refine ⟨_, _, G6, by rw [List.length_append, HES.out]; rfl, HR5.out.grown g6 HG5.out.ne (fun r hr => by have := (hrow.out r hr).1; have := HBg.out; omega), HO5.out.grown g6 (fun r hr => (hrow.out r hr).1), ?_, l3.out⟩
          rw [HE.out, show n - k = (n - (k + 1)) + 1 by omega, reF, List.map_append, List.map_cons, List.map_nil, HT.out.1, HT.out.2.1, HT.out.2.2]
        clear G6 g6 HG5 HO5 HR5 HN5 hev
        go_wp2
        go_roundw
        case rel => exact ⟨k + 1, some ⟨gq, 0, none⟩, cap, by go_num, by omega, rfl, HF⟩
        case measure => simp [intOf]; omega
      · have hkn : k = n := by omega
        subst hkn
        obtain ⟨es, s', hG, hes, hR, hO, hE, _⟩ := HI.out
        rw [Nat.sub_self, reF] at hE
        have HF : Hid (∃ es : List EV, es.length = k ∧ es.map (·.1) = (rentries idx s).1 ∧ Got wr w.heap.size g (.slice A k d) es ∧ RdrAt wr g B (rentries idx s).2 ∧ Only g w wr) := by
          rw [HD.out, if_neg hgt, hE]
          exact ⟨es, hes, rfl, hG, hR, hO⟩
        clear hG hes hR hO hE HI
        go_wp2
        go_ret
        obtain ⟨es, h1, h2, h3, h4, h5⟩ := HF.out
        subst h1
        exact ⟨A, d, es, rfl, h2, h3, h4, h5⟩
end Go.Proofs.Ytekgmgiokmbliaa
