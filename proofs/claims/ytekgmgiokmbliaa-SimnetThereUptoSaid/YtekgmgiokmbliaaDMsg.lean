/-
  The reader of the program: a message.
-/
import Derived.Test.YtekgmgiokmbliaaDEntries
import Derived.Test.YtekgmgiokmbliaaMemb
set_option linter.unusedVariables false
namespace Go.Proofs.Ytekgmgiokmbliaa
open Go.RowKit

theorem Only.after {g r : Nat} {a w w' : World} (h : Only g a w) (k : Only r w w') (hr : a.heap.size ≤ r) : Only g a w' :=
  ⟨k.os.trans h.os, k.tape.trans h.tape, k.output.trans h.output, Nat.le_trans h.size k.size, fun i hi hg => (k.block i (Nat.lt_of_lt_of_le hi h.size) (by omega)).trans (h.block i hi hg)⟩
theorem RdrAt.far {w w' : World} {g B r : Nat} {s : RS} (h : RdrAt w g B s) (k : Only r w w') (hr : g ≠ r) (hB : B ≤ r) : RdrAt w' g B s := by
  obtain ⟨A, c, hc, h1, h2, hrd, hA⟩ := h.at_
  refine ⟨⟨A, c, hc.only k hr, h1, h2, ?_, hA⟩, h.bad.only k hr, h.hB⟩
  rcases hrd with h0 | ⟨q, o, e, hq, hcell⟩
  · exact .inl h0
  · exact .inr ⟨q, o, e, hq, fun i hi => cell_only (hcell i hi) k (show q ≠ r by omega)⟩

theorem rbytes_le (s : RS) : (rbytes s).1.length ≤ s.1.length := by
  have h := rcount_len s
  unfold rbytes
  split
  · exact Nat.zero_le _
  · simp only [List.length_take]; omega
theorem OwnI.off {w w' : World} {p base : Nat} {v : Value} {G : List Int} (h : OwnI w base v G) (ho : Only p w w') (hp : p < base) : OwnI w' base v G :=
  row_block h (fun k hk => ho.block k (h.lt k hk).2 (fun e => by have := (h.lt k hk).1; omega))
theorem OwnI.low {w : World} {b b' : Nat} {v : Value} {l : List Int} (h : OwnI w b v l) (hb : b' ≤ b) : OwnI w b' v l := by
  unfold OwnI at h ⊢
  refine ⟨h.1, ?_⟩
  rcases h.2 with hn | ⟨g, cap, cur, hv, hg, r⟩
  · exact .inl hn
  · exact .inr ⟨g, cap, cur, hv, Nat.le_trans hb hg, r⟩
theorem RdN.off {w w' : World} {g p base : Nat} {A : Option Addr} {l : List UInt8} (h : RdN w g A l) (hA : ∀ q o, A = some ⟨q, o, none⟩ → l ≠ [] → base ≤ q) (ho : Only p w w') (hp : p < base) : RdN w' g A l := by
  refine ⟨?_, h.ne⟩
  rcases h.rd with h0 | ⟨q, o, e, hq, hc⟩
  · exact .inl h0
  · by_cases h0 : l = []
    · exact .inl h0
    · exact .inr ⟨q, o, e, Nat.lt_of_lt_of_le hq ho.size, fun i hi => cell_only (hc i hi) ho (show q ≠ p by have := hA q o e h0; omega)⟩
theorem Got.off {w w' : World} {p base g : Nat} {v : Value} {es : List EV} (h : Got w base g v es) (ho : Only p w w') (hp : p < base) : Got w' base g v es := by
  refine ⟨row_block h.own (fun k hk => ho.block k (World.ownsRow.lt h.own k hk).2 (fun e => by have := (World.ownsRow.lt h.own k hk).1; omega)), fun e he => ?_, h.ne⟩
  obtain ⟨h1, h2⟩ := h.rd e he
  exact ⟨h1.off (fun q o e0 h0 => (h2 q o e0 h0).2) ho hp, h2⟩
theorem Got.low {w : World} {b b' g : Nat} {v : Value} {es : List EV} (h : Got w b g v es) (hb : b' ≤ b) : Got w b' g v es := by
  refine ⟨⟨h.own.1, ?_⟩, fun e he => ⟨(h.rd e he).1, fun q o h1 h2 => ⟨((h.rd e he).2 q o h1 h2).1, Nat.le_trans hb ((h.rd e he).2 q o h1 h2).2⟩⟩, h.ne⟩
  rcases h.own.2 with hn | ⟨g, cap, cur, hv, hg, r⟩
  · exact .inl hn
  · exact .inr ⟨g, cap, cur, hv, Nat.le_trans hb hg, r⟩
/-- a message that was read: its lists apart from the reader and from what was there before -/
structure MGot (w : World) (g lo : Nat) (m : Msg) (a : At) : Prop where
  ge : ∃ es : List EV, es.map (·.1) = m.entries ∧ Got w lo g (.slice a.e es.length a.ec) es ∧ ∀ e ∈ es, ∀ q o, e.2.1 = some ⟨q, o, none⟩ → e.1.data ≠ [] → lo ≤ q
  gm : OwnI w lo (.slice a.m m.members.length a.mc) m.members
  gd : RdN w g a.d m.data ∧ ∀ q o, a.d = some ⟨q, o, none⟩ → m.data ≠ [] → lo ≤ q
theorem MGot.rd {w : World} {g lo : Nat} {m : Msg} {a : At} (h : MGot w g lo m a) : MRd w w.heap.size m a := by
  obtain ⟨es, h1, h2, _⟩ := h.ge
  exact ⟨h1 ▸ h2.ents, h.gm.rdI, h.gd.1.rd⟩

/-- a message read off the front of bytes -/
def pmsg (s : RS) : Msg × RS :=
  let k := rbyte s
  let g := rbyte k.2
  let f := rbyte g.2
  let d := rbyte f.2
  let t := rcount d.2
  if k.1 = 1 then
    let i := rcount t.2
    let l := rcount i.2
    (⟨k.1, g.1, f.1, d.1, t.1, i.1, l.1, 0, false, [], [], []⟩, l.2)
  else if k.1 = 2 then
    let b := rbyte t.2
    (⟨k.1, g.1, f.1, d.1, t.1, 0, 0, 0, b.1 != 0, [], [], []⟩, b.2)
  else if k.1 = 3 then
    let i := rcount t.2
    let l := rcount i.2
    let c := rcount l.2
    let e := rentries i.1 c.2
    (⟨k.1, g.1, f.1, d.1, t.1, i.1, l.1, c.1, false, e.1, [], []⟩, e.2)
  else if k.1 = 4 then
    let b := rbyte t.2
    let i := rcount b.2
    (⟨k.1, g.1, f.1, d.1, t.1, i.1, 0, 0, b.1 != 0, [], [], []⟩, i.2)
  else if k.1 = 5 then
    let i := rcount t.2
    let l := rcount i.2
    let m := rbytes l.2
    let d' := rbytes m.2
    (⟨k.1, g.1, f.1, d.1, t.1, i.1, l.1, 0, false, [], intsOf m.1, d'.1⟩, d'.2)
  else (⟨k.1, g.1, f.1, d.1, t.1, 0, 0, 0, false, [], [], []⟩, t.2)

theorem nat_slice_nil (w : World) (lo : Nat) : OwnI w lo (.slice none 0 0) [] := World.ownsRow_nil _ _ _ _
theorem MGot.none_ (w : World) (g lo : Nat) (m : Msg) (h1 : m.entries = []) (h2 : m.members = []) (h3 : m.data = []) : MGot w g lo m ⟨none, 0, none, 0, none, 0⟩ := by
  refine ⟨⟨[], by rw [h1]; rfl, ⟨World.ownsRow_nil _ _ _ _, (fun e h => nomatch h), (fun h => nomatch h)⟩, (fun e h => nomatch h)⟩, ?_, ?_⟩
  · rw [h2]; exact World.ownsRow_nil _ _ _ _
  · rw [h3]; exact ⟨RdN.nil_ _ _ _, fun _ _ h => nomatch h⟩

set_option maxHeartbeats 6400000 in
set_option maxRecDepth 100000 in
theorem dmessage_any (g B : Nat) (s : RS) (w : World) (h : RdrAt w g B s) (hl : s.1.length ≤ 140737488351232) (hmb : (pmsg s).1.members.length ≤ 1048576) :
    Calls Try.prog 46 #[.pointer (some ⟨g, 0, none⟩)] w fun e w' => ∃ a, e = .returned (msgV (pmsg s).1 a) ∧ MGot w' g w.heap.size (pmsg s).1 a ∧ RdrAt w' g B (pmsg s).2 ∧ Only g w w' := by
  have hb := below1' w (.cells #[.int .i64 0, .int .i64 0, .int .i64 0, .int .i64 0, .int .i64 0, .int .i64 0, .int .i64 0, .int .i64 0, .bool false, .slice none 0 0, .slice none 0 0, .slice none 0 0] 51)
  have R := fun (j : Nat) (x : Value) (h : (#[.int .i64 0, .int .i64 0, .int .i64 0, .int .i64 0, .int .i64 0, .int .i64 0, .int .i64 0, .int .i64 0, .bool false, .slice none 0 0, .slice none 0 0, .slice none 0 0] : Array Value)[j]? = some x) => Cell.new w #[.int .i64 0, .int .i64 0, .int .i64 0, .int .i64 0, .int .i64 0, .int .i64 0, .int .i64 0, .int .i64 0, .bool false, .slice none 0 0, .slice none 0 0, .slice none 0 0] 51 j x h
  have R0 := R 0 (.int .i64 0) rfl
  have R1 := R 1 (.int .i64 0) rfl
  have R2 := R 2 (.int .i64 0) rfl
  have R3 := R 3 (.int .i64 0) rfl
  have R4 := R 4 (.int .i64 0) rfl
  have R5 := R 5 (.int .i64 0) rfl
  have R6 := R 6 (.int .i64 0) rfl
  have R7 := R 7 (.int .i64 0) rfl
  have R8 := R 8 (.bool false) rfl
  have R9 := R 9 (.slice none 0 0) rfl
  have R10 := R 10 (.slice none 0 0) rfl
  have R11 := R 11 (.slice none 0 0) rfl
  have R0' := h.below hb
  have HB := Lib.hid h.hB
  have hgw := h.bad.lt
  have C1 := Lib.hid (dbyte_any g B s _ R0')
  have HO0 := Lib.hid (Only.of_below (g := g) hb)
  have HL0 := Lib.hid hl
  obtain ⟨r, hrr⟩ : ∃ r, r = w.heap.size := ⟨_, rfl⟩
  rw [← hrr] at R0
  rw [← hrr] at R1
  rw [← hrr] at R2
  rw [← hrr] at R3
  rw [← hrr] at R4
  rw [← hrr] at R5
  rw [← hrr] at R6
  rw [← hrr] at R7
  rw [← hrr] at R8
  rw [← hrr] at R9
  rw [← hrr] at R10
  rw [← hrr] at R11
  have HRR := Lib.hid hrr
  have hgr : g ≠ r := by omega
  have hrg : r ≠ g := by omega
  have HMB := Lib.hid hmb
  clear h hb R R0' hl hmb
  go_enter Try.func46, Try.ntmps46
  go_wp2_with fail
  rw [← hrr]
  clear hrr
  refine C1.out.mono ?_
  rintro e w1 ⟨rfl, S1, O1⟩
  obtain ⟨n1, hn1⟩ : ∃ x, x = (rbyte s).1 := ⟨_, rfl⟩
  obtain ⟨t1, ht1⟩ : ∃ x, x = (rbyte s).2 := ⟨_, rfl⟩
  have HL1 : Hid (t1.1.length ≤ 140737488351232) := by show _ ≤ _; rw [ht1]; exact Nat.le_trans (rbyte_len _) HL0.out
  rw [← ht1] at S1
  rw [← hn1]
  have HN1 := Lib.hid (And.intro hn1 ht1)
  have HO1 := Lib.hid (HO0.out.trans O1)
  replace R0 := R0.only O1 hrg
  replace R1 := R1.only O1 hrg
  replace R2 := R2.only O1 hrg
  replace R3 := R3.only O1 hrg
  replace R4 := R4.only O1 hrg
  replace R5 := R5.only O1 hrg
  replace R6 := R6.only O1 hrg
  replace R7 := R7.only O1 hrg
  replace R8 := R8.only O1 hrg
  replace R9 := R9.only O1 hrg
  replace R10 := R10.only O1 hrg
  replace R11 := R11.only O1 hrg
  clear hn1 ht1 O1 C1 
  have C2 := Lib.hid (dbyte_any g B t1 _ S1)
  go_wp2_with fail
  refine C2.out.mono ?_
  rintro e w2 ⟨rfl, S2, O2⟩
  obtain ⟨n2, hn2⟩ : ∃ x, x = (rbyte t1).1 := ⟨_, rfl⟩
  obtain ⟨t2, ht2⟩ : ∃ x, x = (rbyte t1).2 := ⟨_, rfl⟩
  have HL2 : Hid (t2.1.length ≤ 140737488351232) := by show _ ≤ _; rw [ht2]; exact Nat.le_trans (rbyte_len _) HL1.out
  rw [← ht2] at S2
  rw [← hn2]
  have HN2 := Lib.hid (And.intro hn2 ht2)
  have HO2 := Lib.hid (HO1.out.trans O2)
  replace R0 := R0.only O2 hrg
  replace R1 := R1.only O2 hrg
  replace R2 := R2.only O2 hrg
  replace R3 := R3.only O2 hrg
  replace R4 := R4.only O2 hrg
  replace R5 := R5.only O2 hrg
  replace R6 := R6.only O2 hrg
  replace R7 := R7.only O2 hrg
  replace R8 := R8.only O2 hrg
  replace R9 := R9.only O2 hrg
  replace R10 := R10.only O2 hrg
  replace R11 := R11.only O2 hrg
  clear hn2 ht2 O2 C2 S1
  have C3 := Lib.hid (dbyte_any g B t2 _ S2)
  go_wp2_with fail
  refine C3.out.mono ?_
  rintro e w3 ⟨rfl, S3, O3⟩
  obtain ⟨n3, hn3⟩ : ∃ x, x = (rbyte t2).1 := ⟨_, rfl⟩
  obtain ⟨t3, ht3⟩ : ∃ x, x = (rbyte t2).2 := ⟨_, rfl⟩
  have HL3 : Hid (t3.1.length ≤ 140737488351232) := by show _ ≤ _; rw [ht3]; exact Nat.le_trans (rbyte_len _) HL2.out
  rw [← ht3] at S3
  rw [← hn3]
  have HN3 := Lib.hid (And.intro hn3 ht3)
  have HO3 := Lib.hid (HO2.out.trans O3)
  replace R0 := R0.only O3 hrg
  replace R1 := R1.only O3 hrg
  replace R2 := R2.only O3 hrg
  replace R3 := R3.only O3 hrg
  replace R4 := R4.only O3 hrg
  replace R5 := R5.only O3 hrg
  replace R6 := R6.only O3 hrg
  replace R7 := R7.only O3 hrg
  replace R8 := R8.only O3 hrg
  replace R9 := R9.only O3 hrg
  replace R10 := R10.only O3 hrg
  replace R11 := R11.only O3 hrg
  clear hn3 ht3 O3 C3 S2
  have C4 := Lib.hid (dbyte_any g B t3 _ S3)
  go_wp2_with fail
  refine C4.out.mono ?_
  rintro e w4 ⟨rfl, S4, O4⟩
  obtain ⟨n4, hn4⟩ : ∃ x, x = (rbyte t3).1 := ⟨_, rfl⟩
  obtain ⟨t4, ht4⟩ : ∃ x, x = (rbyte t3).2 := ⟨_, rfl⟩
  have HL4 : Hid (t4.1.length ≤ 140737488351232) := by show _ ≤ _; rw [ht4]; exact Nat.le_trans (rbyte_len _) HL3.out
  rw [← ht4] at S4
  rw [← hn4]
  have HN4 := Lib.hid (And.intro hn4 ht4)
  have HO4 := Lib.hid (HO3.out.trans O4)
  replace R0 := R0.only O4 hrg
  replace R1 := R1.only O4 hrg
  replace R2 := R2.only O4 hrg
  replace R3 := R3.only O4 hrg
  replace R4 := R4.only O4 hrg
  replace R5 := R5.only O4 hrg
  replace R6 := R6.only O4 hrg
  replace R7 := R7.only O4 hrg
  replace R8 := R8.only O4 hrg
  replace R9 := R9.only O4 hrg
  replace R10 := R10.only O4 hrg
  replace R11 := R11.only O4 hrg
  clear hn4 ht4 O4 C4 S3
  have C5 := Lib.hid (dcount_any g B t4 _ S4)
  go_wp2_with fail
  refine C5.out.mono ?_
  rintro e w5 ⟨rfl, S5, O5⟩
  obtain ⟨n5, hn5⟩ : ∃ x, x = (rcount t4).1 := ⟨_, rfl⟩
  obtain ⟨t5, ht5⟩ : ∃ x, x = (rcount t4).2 := ⟨_, rfl⟩
  have HL5 : Hid (t5.1.length ≤ 140737488351232) := by show _ ≤ _; rw [ht5]; exact Nat.le_trans (rcount_len _) HL4.out
  rw [← ht5] at S5
  have hlt5 : n5 < 72057594037927936 := by rw [hn5]; exact rcount_lt _
  rw [← hn5]
  have HN5 := Lib.hid (And.intro hn5 ht5)
  have HO5 := Lib.hid (HO4.out.trans O5)
  replace R0 := R0.only O5 hrg
  replace R1 := R1.only O5 hrg
  replace R2 := R2.only O5 hrg
  replace R3 := R3.only O5 hrg
  replace R4 := R4.only O5 hrg
  replace R5 := R5.only O5 hrg
  replace R6 := R6.only O5 hrg
  replace R7 := R7.only O5 hrg
  replace R8 := R8.only O5 hrg
  replace R9 := R9.only O5 hrg
  replace R10 := R10.only O5 hrg
  replace R11 := R11.only O5 hrg
  clear hn5 ht5 O5 C5 S4
  have HSZ5 : Hid (w.heap.size < w5.heap.size) := by have := R0.lt; rw [HRR.out] at this; exact this
  have hV := below1' w5 (.cells #[.int .i64 (n1 : Nat), .int .i64 (n2 : Nat), .int .i64 (n3 : Nat), .int .i64 (n4 : Nat), .int .i64 (n5 : Nat), .int .i64 0, .int .i64 0, .int .i64 0, .bool false, .slice none 0 0, .slice none 0 0, .slice none 0 0] 51)
  have X := fun (j : Nat) (x : Value) (h : (#[.int .i64 (n1 : Nat), .int .i64 (n2 : Nat), .int .i64 (n3 : Nat), .int .i64 (n4 : Nat), .int .i64 (n5 : Nat), .int .i64 0, .int .i64 0, .int .i64 0, .bool false, .slice none 0 0, .slice none 0 0, .slice none 0 0] : Array Value)[j]? = some x) => Cell.new w5 #[.int .i64 (n1 : Nat), .int .i64 (n2 : Nat), .int .i64 (n3 : Nat), .int .i64 (n4 : Nat), .int .i64 (n5 : Nat), .int .i64 0, .int .i64 0, .int .i64 0, .bool false, .slice none 0 0, .slice none 0 0, .slice none 0 0] 51 j x h
  have X0 := X 0 (.int .i64 (n1 : Nat)) rfl
  have X1 := X 1 (.int .i64 (n2 : Nat)) rfl
  have X2 := X 2 (.int .i64 (n3 : Nat)) rfl
  have X3 := X 3 (.int .i64 (n4 : Nat)) rfl
  have X4 := X 4 (.int .i64 (n5 : Nat)) rfl
  have X5 := X 5 (.int .i64 0) rfl
  have X6 := X 6 (.int .i64 0) rfl
  have X7 := X 7 (.int .i64 0) rfl
  have X8 := X 8 (.bool false) rfl
  have X9 := X 9 (.slice none 0 0) rfl
  have X10 := X 10 (.slice none 0 0) rfl
  have X11 := X 11 (.slice none 0 0) rfl
  replace R0 := R0.keep hV
  replace R1 := R1.keep hV
  replace R2 := R2.keep hV
  replace R3 := R3.keep hV
  replace R4 := R4.keep hV
  replace R5 := R5.keep hV
  replace R6 := R6.keep hV
  replace R7 := R7.keep hV
  replace R8 := R8.keep hV
  replace R9 := R9.keep hV
  replace R10 := R10.keep hV
  replace R11 := R11.keep hV
  replace S5 := S5.below hV
  replace HO5 := Lib.hid (HO5.out.trans (Only.of_below hV))
  have hru5 : r < w5.heap.size := by have := R0.lt; have h1 : (w5.alloc (.cells #[.int .i64 (n1 : Nat), .int .i64 (n2 : Nat), .int .i64 (n3 : Nat), .int .i64 (n4 : Nat), .int .i64 (n5 : Nat), .int .i64 0, .int .i64 0, .int .i64 0, .bool false, .slice none 0 0, .slice none 0 0, .slice none 0 0] 51)).heap.size = w5.heap.size + 1 := by simp
                                     have h2 := HO4.out.size; have h3 := HRR.out; have h4 := HSZ5.out; omega
  obtain ⟨u, hu⟩ : ∃ u, u = w5.heap.size := ⟨_, rfl⟩
  rw [← hu] at X0
  rw [← hu] at X1
  rw [← hu] at X2
  rw [← hu] at X3
  rw [← hu] at X4
  rw [← hu] at X5
  rw [← hu] at X6
  rw [← hu] at X7
  rw [← hu] at X8
  rw [← hu] at X9
  rw [← hu] at X10
  rw [← hu] at X11
  have hgu : g ≠ u := by have := HSZ5.out; omega
  have hug : u ≠ g := by omega
  have hru : r ≠ u := by omega
  have hur : u ≠ r := by omega
  have HU := Lib.hid hu
  have HP : Hid (pmsg s = if n1 = 1 then (⟨n1, n2, n3, n4, n5, (rcount t5).1, (rcount (rcount t5).2).1, 0, false, [], [], []⟩, (rcount (rcount t5).2).2)
      else if n1 = 2 then (⟨n1, n2, n3, n4, n5, 0, 0, 0, (rbyte t5).1 != 0, [], [], []⟩, (rbyte t5).2)
      else if n1 = 3 then (⟨n1, n2, n3, n4, n5, (rcount t5).1, (rcount (rcount t5).2).1, (rcount (rcount (rcount t5).2).2).1, false, (rentries (rcount t5).1 (rcount (rcount (rcount t5).2).2).2).1, [], []⟩, (rentries (rcount t5).1 (rcount (rcount (rcount t5).2).2).2).2)
      else if n1 = 4 then (⟨n1, n2, n3, n4, n5, (rcount (rbyte t5).2).1, 0, 0, (rbyte t5).1 != 0, [], [], []⟩, (rcount (rbyte t5).2).2)
      else if n1 = 5 then (⟨n1, n2, n3, n4, n5, (rcount t5).1, (rcount (rcount t5).2).1, 0, false, [], intsOf (rbytes (rcount (rcount t5).2).2).1, (rbytes (rbytes (rcount (rcount t5).2).2).2).1⟩, (rbytes (rbytes (rcount (rcount t5).2).2).2).2)
      else (⟨n1, n2, n3, n4, n5, 0, 0, 0, false, [], [], []⟩, t5)) := by
    show _ = _
    rw [HN5.out.1, HN5.out.2, HN4.out.1, HN4.out.2, HN3.out.1, HN3.out.2, HN2.out.1, HN2.out.2, HN1.out.1, HN1.out.2]
    rfl
  have hrw : Hid (w.heap.size ≤ r) := by have := HRR.out; show _ ≤ _; omega
  have huw : Hid (w.heap.size ≤ u) := by have := HSZ5.out; show _ ≤ _; omega
  clear hV X hu HN1 HN2 HN3 HN4 HN5 HL1 HL2 HL3 HL4 HO0 HO1 HO2 HO3 HO4 HRR hru5
  by_cases hk1 : n1 = 1
  · have hn1 : ((n1 : Int) == 1) = true := by rw [hk1]; rfl
    have hz : ((n1 : Nat) : Int) = 1 := by rw [hk1]; rfl
    simp only [hz] at S5 HO5 R0 R1 R2 R3 R4 R5 R6 R7 R8 R9 R10 R11 X0 X1 X2 X3 X4 X5 X6 X7 X8 X9 X10 X11
    have C6 := Lib.hid (dcount_any g B t5 _ S5)
    go_wp2_with fail
    rw [← HU.out]
    refine C6.out.mono ?_
    rintro e w6 ⟨rfl, S6, O6⟩
    obtain ⟨n6, hn6⟩ : ∃ x, x = (rcount t5).1 := ⟨_, rfl⟩
    obtain ⟨t6, ht6⟩ : ∃ x, x = (rcount t5).2 := ⟨_, rfl⟩
    have HL6 : Hid (t6.1.length ≤ 140737488351232) := by show _ ≤ _; rw [ht6]; exact Nat.le_trans (rcount_len _) HL5.out
    rw [← ht6] at S6
    have hlt6 : n6 < 72057594037927936 := by rw [hn6]; exact rcount_lt _
    rw [← hn6]
    have HN6 := Lib.hid (And.intro hn6 ht6)
    have HO6 := Lib.hid (HO5.out.trans O6)
    replace R0 := R0.only O6 hrg
    replace R1 := R1.only O6 hrg
    replace R2 := R2.only O6 hrg
    replace R3 := R3.only O6 hrg
    replace R4 := R4.only O6 hrg
    replace R5 := R5.only O6 hrg
    replace R6 := R6.only O6 hrg
    replace R7 := R7.only O6 hrg
    replace R8 := R8.only O6 hrg
    replace R9 := R9.only O6 hrg
    replace R10 := R10.only O6 hrg
    replace R11 := R11.only O6 hrg
    replace X0 := X0.only O6 hug
    replace X1 := X1.only O6 hug
    replace X2 := X2.only O6 hug
    replace X3 := X3.only O6 hug
    replace X4 := X4.only O6 hug
    replace X5 := X5.only O6 hug
    replace X6 := X6.only O6 hug
    replace X7 := X7.only O6 hug
    replace X8 := X8.only O6 hug
    replace X9 := X9.only O6 hug
    replace X10 := X10.only O6 hug
    replace X11 := X11.only O6 hug
    clear hn6 ht6 O6 C6 S5
    have C7 := Lib.hid (dcount_any g B t6 _ S6)
    go_wp2_with fail
    refine C7.out.mono ?_
    rintro e w7 ⟨rfl, S7, O7⟩
    obtain ⟨n7, hn7⟩ : ∃ x, x = (rcount t6).1 := ⟨_, rfl⟩
    obtain ⟨t7, ht7⟩ : ∃ x, x = (rcount t6).2 := ⟨_, rfl⟩
    have HL7 : Hid (t7.1.length ≤ 140737488351232) := by show _ ≤ _; rw [ht7]; exact Nat.le_trans (rcount_len _) HL6.out
    rw [← ht7] at S7
    have hlt7 : n7 < 72057594037927936 := by rw [hn7]; exact rcount_lt _
    rw [← hn7]
    have HN7 := Lib.hid (And.intro hn7 ht7)
    have HO7 := Lib.hid (HO6.out.trans O7)
    replace R0 := R0.only O7 hrg
    replace R1 := R1.only O7 hrg
    replace R2 := R2.only O7 hrg
    replace R3 := R3.only O7 hrg
    replace R4 := R4.only O7 hrg
    replace R5 := R5.only O7 hrg
    replace R6 := R6.only O7 hrg
    replace R7 := R7.only O7 hrg
    replace R8 := R8.only O7 hrg
    replace R9 := R9.only O7 hrg
    replace R10 := R10.only O7 hrg
    replace R11 := R11.only O7 hrg
    replace X0 := X0.only O7 hug
    replace X1 := X1.only O7 hug
    replace X2 := X2.only O7 hug
    replace X3 := X3.only O7 hug
    replace X4 := X4.only O7 hug
    replace X5 := X5.only O7 hug
    replace X6 := X6.only O7 hug
    replace X7 := X7.only O7 hug
    replace X8 := X8.only O7 hug
    replace X9 := X9.only O7 hug
    replace X10 := X10.only O7 hug
    replace X11 := X11.only O7 hug
    clear hn7 ht7 O7 C7 S6
    have OU := (((Only.refl u (w7)).set1 5 (.int .i64 (n6 : Nat))).set1 6 (.int .i64 (n7 : Nat)))
    replace S7 := S7.far OU (by omega) (by have := HB.out; have := huw.out; omega)
    replace HO7 := Lib.hid (HO7.out.after OU huw.out)
    have OE := (((((((((((((Only.refl r (((((w7).setCell ⟨u, 5, none⟩ (.int .i64 (n6 : Nat)))).setCell ⟨u, 6, none⟩ (.int .i64 (n7 : Nat))))).set1 0 (.int .i64 1)).set1 1 (.int .i64 (n2 : Nat))).set1 2 (.int .i64 (n3 : Nat))).set1 3 (.int .i64 (n4 : Nat))).set1 4 (.int .i64 (n5 : Nat))).set1 5 (.int .i64 (n6 : Nat))).set1 6 (.int .i64 (n7 : Nat))).set1 7 (.int .i64 0)).set1 8 (.bool false)).set1 9 (.slice none 0 0)).set1 10 (.slice none 0 0)).set1 11 (.slice none 0 0))
    have HF := Lib.hid (And.intro (S7.far OE hgr (by have := HB.out; have := hrw.out; omega)) (HO7.out.after OE hrw.out))
    obtain ⟨r0, fr0⟩ := R0
    obtain ⟨r1, fr1⟩ := R1
    obtain ⟨r2, fr2⟩ := R2
    obtain ⟨r3, fr3⟩ := R3
    obtain ⟨r4, fr4⟩ := R4
    obtain ⟨r5, fr5⟩ := R5
    obtain ⟨r6, fr6⟩ := R6
    obtain ⟨r7, fr7⟩ := R7
    obtain ⟨r8, fr8⟩ := R8
    obtain ⟨r9, fr9⟩ := R9
    obtain ⟨r10, fr10⟩ := R10
    obtain ⟨r11, fr11⟩ := R11
    obtain ⟨x0, fx0⟩ := X0
    obtain ⟨x1, fx1⟩ := X1
    obtain ⟨x2, fx2⟩ := X2
    obtain ⟨x3, fx3⟩ := X3
    obtain ⟨x4, fx4⟩ := X4
    obtain ⟨x5, fx5⟩ := X5
    obtain ⟨x6, fx6⟩ := X6
    obtain ⟨x7, fx7⟩ := X7
    obtain ⟨x8, fx8⟩ := X8
    obtain ⟨x9, fx9⟩ := X9
    obtain ⟨x10, fx10⟩ := X10
    obtain ⟨x11, fx11⟩ := X11
    clear OE S7 OU
    have HPM : Hid (pmsg s = (⟨n1, n2, n3, n4, n5, n6, n7, 0, false, [], [], []⟩, t7)) := by show _ = _; rw [HP.out]; rw [if_pos hk1, ← HN6.out.1, ← HN6.out.2, ← HN7.out.1, ← HN7.out.2]
    clear HP
    go_wp2
    rw [HPM.out]
    refine bodyPost_ret (v := .agg #[.int .i64 1, .int .i64 (n2 : Nat), .int .i64 (n3 : Nat), .int .i64 (n4 : Nat), .int .i64 (n5 : Nat), .int .i64 (n6 : Nat), .int .i64 (n7 : Nat), .int .i64 0, .bool false, .slice none 0 0, .slice none 0 0, .slice none 0 0]) (by rw [results_cell1 rfl]; go_simp) rfl ⟨⟨none, 0, none, 0, none, 0⟩, by rw [← hz]; rfl, MGot.none_ _ _ _ _ rfl rfl rfl, HF.out.1, HF.out.2⟩
  by_cases hk2 : n1 = 2
  · have hn1 : ((n1 : Int) == 1) = false := by rw [beq_eq_false_iff_ne]; omega
    have hn2 : ((n1 : Int) == 2) = true := by rw [hk2]; rfl
    have hz : ((n1 : Nat) : Int) = 2 := by rw [hk2]; rfl
    simp only [hz] at S5 HO5 R0 R1 R2 R3 R4 R5 R6 R7 R8 R9 R10 R11 X0 X1 X2 X3 X4 X5 X6 X7 X8 X9 X10 X11
    have C6 := Lib.hid (dbyte_any g B t5 _ S5)
    go_wp2_with fail
    rw [← HU.out]
    refine C6.out.mono ?_
    rintro e w6 ⟨rfl, S6, O6⟩
    obtain ⟨n6, hn6⟩ : ∃ x, x = (rbyte t5).1 := ⟨_, rfl⟩
    obtain ⟨t6, ht6⟩ : ∃ x, x = (rbyte t5).2 := ⟨_, rfl⟩
    have HL6 : Hid (t6.1.length ≤ 140737488351232) := by show _ ≤ _; rw [ht6]; exact Nat.le_trans (rbyte_len _) HL5.out
    rw [← ht6] at S6
    rw [← hn6]
    have HN6 := Lib.hid (And.intro hn6 ht6)
    have HO6 := Lib.hid (HO5.out.trans O6)
    replace R0 := R0.only O6 hrg
    replace R1 := R1.only O6 hrg
    replace R2 := R2.only O6 hrg
    replace R3 := R3.only O6 hrg
    replace R4 := R4.only O6 hrg
    replace R5 := R5.only O6 hrg
    replace R6 := R6.only O6 hrg
    replace R7 := R7.only O6 hrg
    replace R8 := R8.only O6 hrg
    replace R9 := R9.only O6 hrg
    replace R10 := R10.only O6 hrg
    replace R11 := R11.only O6 hrg
    replace X0 := X0.only O6 hug
    replace X1 := X1.only O6 hug
    replace X2 := X2.only O6 hug
    replace X3 := X3.only O6 hug
    replace X4 := X4.only O6 hug
    replace X5 := X5.only O6 hug
    replace X6 := X6.only O6 hug
    replace X7 := X7.only O6 hug
    replace X8 := X8.only O6 hug
    replace X9 := X9.only O6 hug
    replace X10 := X10.only O6 hug
    replace X11 := X11.only O6 hug
    clear hn6 ht6 O6 C6 S5
    have hb : (n6 != 0) = ((n6 : Int) != 0) := by rw [Bool.eq_iff_iff]; simp
    have OU := ((Only.refl u (w6)).set1 8 (.bool ((n6 : Int) != 0)))
    replace S6 := S6.far OU (by omega) (by have := HB.out; have := huw.out; omega)
    replace HO6 := Lib.hid (HO6.out.after OU huw.out)
    have OE := (((((((((((((Only.refl r (((w6).setCell ⟨u, 8, none⟩ (.bool ((n6 : Int) != 0))))).set1 0 (.int .i64 2)).set1 1 (.int .i64 (n2 : Nat))).set1 2 (.int .i64 (n3 : Nat))).set1 3 (.int .i64 (n4 : Nat))).set1 4 (.int .i64 (n5 : Nat))).set1 5 (.int .i64 0)).set1 6 (.int .i64 0)).set1 7 (.int .i64 0)).set1 8 (.bool ((n6 : Int) != 0))).set1 9 (.slice none 0 0)).set1 10 (.slice none 0 0)).set1 11 (.slice none 0 0))
    have HF := Lib.hid (And.intro (S6.far OE hgr (by have := HB.out; have := hrw.out; omega)) (HO6.out.after OE hrw.out))
    obtain ⟨r0, fr0⟩ := R0
    obtain ⟨r1, fr1⟩ := R1
    obtain ⟨r2, fr2⟩ := R2
    obtain ⟨r3, fr3⟩ := R3
    obtain ⟨r4, fr4⟩ := R4
    obtain ⟨r5, fr5⟩ := R5
    obtain ⟨r6, fr6⟩ := R6
    obtain ⟨r7, fr7⟩ := R7
    obtain ⟨r8, fr8⟩ := R8
    obtain ⟨r9, fr9⟩ := R9
    obtain ⟨r10, fr10⟩ := R10
    obtain ⟨r11, fr11⟩ := R11
    obtain ⟨x0, fx0⟩ := X0
    obtain ⟨x1, fx1⟩ := X1
    obtain ⟨x2, fx2⟩ := X2
    obtain ⟨x3, fx3⟩ := X3
    obtain ⟨x4, fx4⟩ := X4
    obtain ⟨x5, fx5⟩ := X5
    obtain ⟨x6, fx6⟩ := X6
    obtain ⟨x7, fx7⟩ := X7
    obtain ⟨x8, fx8⟩ := X8
    obtain ⟨x9, fx9⟩ := X9
    obtain ⟨x10, fx10⟩ := X10
    obtain ⟨x11, fx11⟩ := X11
    clear OE S6 OU
    have HPM : Hid (pmsg s = (⟨n1, n2, n3, n4, n5, 0, 0, 0, ((n6 : Int) != 0), [], [], []⟩, t6)) := by show _ = _; rw [HP.out]; rw [if_neg hk1, if_pos hk2, ← HN6.out.1, ← HN6.out.2, hb]
    clear HP
    go_wp2
    rw [HPM.out]
    refine bodyPost_ret (v := .agg #[.int .i64 2, .int .i64 (n2 : Nat), .int .i64 (n3 : Nat), .int .i64 (n4 : Nat), .int .i64 (n5 : Nat), .int .i64 0, .int .i64 0, .int .i64 0, .bool ((n6 : Int) != 0), .slice none 0 0, .slice none 0 0, .slice none 0 0]) (by rw [results_cell1 rfl]; go_simp) rfl ⟨⟨none, 0, none, 0, none, 0⟩, by rw [← hz]; rfl, MGot.none_ _ _ _ _ rfl rfl rfl, HF.out.1, HF.out.2⟩
  by_cases hk3 : n1 = 3
  · have hn1 : ((n1 : Int) == 1) = false := by rw [beq_eq_false_iff_ne]; omega
    have hn2 : ((n1 : Int) == 2) = false := by rw [beq_eq_false_iff_ne]; omega
    have hn3 : ((n1 : Int) == 3) = true := by rw [hk3]; rfl
    have hz : ((n1 : Nat) : Int) = 3 := by rw [hk3]; rfl
    simp only [hz] at S5 HO5 R0 R1 R2 R3 R4 R5 R6 R7 R8 R9 R10 R11 X0 X1 X2 X3 X4 X5 X6 X7 X8 X9 X10 X11
    have C6 := Lib.hid (dcount_any g B t5 _ S5)
    go_wp2_with fail
    rw [← HU.out]
    refine C6.out.mono ?_
    rintro e w6 ⟨rfl, S6, O6⟩
    obtain ⟨n6, hn6⟩ : ∃ x, x = (rcount t5).1 := ⟨_, rfl⟩
    obtain ⟨t6, ht6⟩ : ∃ x, x = (rcount t5).2 := ⟨_, rfl⟩
    have HL6 : Hid (t6.1.length ≤ 140737488351232) := by show _ ≤ _; rw [ht6]; exact Nat.le_trans (rcount_len _) HL5.out
    rw [← ht6] at S6
    have hlt6 : n6 < 72057594037927936 := by rw [hn6]; exact rcount_lt _
    rw [← hn6]
    have HN6 := Lib.hid (And.intro hn6 ht6)
    have HO6 := Lib.hid (HO5.out.trans O6)
    replace R0 := R0.only O6 hrg
    replace R1 := R1.only O6 hrg
    replace R2 := R2.only O6 hrg
    replace R3 := R3.only O6 hrg
    replace R4 := R4.only O6 hrg
    replace R5 := R5.only O6 hrg
    replace R6 := R6.only O6 hrg
    replace R7 := R7.only O6 hrg
    replace R8 := R8.only O6 hrg
    replace R9 := R9.only O6 hrg
    replace R10 := R10.only O6 hrg
    replace R11 := R11.only O6 hrg
    replace X0 := X0.only O6 hug
    replace X1 := X1.only O6 hug
    replace X2 := X2.only O6 hug
    replace X3 := X3.only O6 hug
    replace X4 := X4.only O6 hug
    replace X5 := X5.only O6 hug
    replace X6 := X6.only O6 hug
    replace X7 := X7.only O6 hug
    replace X8 := X8.only O6 hug
    replace X9 := X9.only O6 hug
    replace X10 := X10.only O6 hug
    replace X11 := X11.only O6 hug
    clear hn6 ht6 O6 C6 S5
    have C7 := Lib.hid (dcount_any g B t6 _ S6)
    go_wp2_with fail
    refine C7.out.mono ?_
    rintro e w7 ⟨rfl, S7, O7⟩
    obtain ⟨n7, hn7⟩ : ∃ x, x = (rcount t6).1 := ⟨_, rfl⟩
    obtain ⟨t7, ht7⟩ : ∃ x, x = (rcount t6).2 := ⟨_, rfl⟩
    have HL7 : Hid (t7.1.length ≤ 140737488351232) := by show _ ≤ _; rw [ht7]; exact Nat.le_trans (rcount_len _) HL6.out
    rw [← ht7] at S7
    have hlt7 : n7 < 72057594037927936 := by rw [hn7]; exact rcount_lt _
    rw [← hn7]
    have HN7 := Lib.hid (And.intro hn7 ht7)
    have HO7 := Lib.hid (HO6.out.trans O7)
    replace R0 := R0.only O7 hrg
    replace R1 := R1.only O7 hrg
    replace R2 := R2.only O7 hrg
    replace R3 := R3.only O7 hrg
    replace R4 := R4.only O7 hrg
    replace R5 := R5.only O7 hrg
    replace R6 := R6.only O7 hrg
    replace R7 := R7.only O7 hrg
    replace R8 := R8.only O7 hrg
    replace R9 := R9.only O7 hrg
    replace R10 := R10.only O7 hrg
    replace R11 := R11.only O7 hrg
    replace X0 := X0.only O7 hug
    replace X1 := X1.only O7 hug
    replace X2 := X2.only O7 hug
    replace X3 := X3.only O7 hug
    replace X4 := X4.only O7 hug
    replace X5 := X5.only O7 hug
    replace X6 := X6.only O7 hug
    replace X7 := X7.only O7 hug
    replace X8 := X8.only O7 hug
    replace X9 := X9.only O7 hug
    replace X10 := X10.only O7 hug
    replace X11 := X11.only O7 hug
    clear hn7 ht7 O7 C7 S6
    have C8 := Lib.hid (dcount_any g B t7 _ S7)
    go_wp2_with fail
    refine C8.out.mono ?_
    rintro e w8 ⟨rfl, S8, O8⟩
    obtain ⟨n8, hn8⟩ : ∃ x, x = (rcount t7).1 := ⟨_, rfl⟩
    obtain ⟨t8, ht8⟩ : ∃ x, x = (rcount t7).2 := ⟨_, rfl⟩
    have HL8 : Hid (t8.1.length ≤ 140737488351232) := by show _ ≤ _; rw [ht8]; exact Nat.le_trans (rcount_len _) HL7.out
    rw [← ht8] at S8
    have hlt8 : n8 < 72057594037927936 := by rw [hn8]; exact rcount_lt _
    rw [← hn8]
    have HN8 := Lib.hid (And.intro hn8 ht8)
    have HO8 := Lib.hid (HO7.out.trans O8)
    replace R0 := R0.only O8 hrg
    replace R1 := R1.only O8 hrg
    replace R2 := R2.only O8 hrg
    replace R3 := R3.only O8 hrg
    replace R4 := R4.only O8 hrg
    replace R5 := R5.only O8 hrg
    replace R6 := R6.only O8 hrg
    replace R7 := R7.only O8 hrg
    replace R8 := R8.only O8 hrg
    replace R9 := R9.only O8 hrg
    replace R10 := R10.only O8 hrg
    replace R11 := R11.only O8 hrg
    replace X0 := X0.only O8 hug
    replace X1 := X1.only O8 hug
    replace X2 := X2.only O8 hug
    replace X3 := X3.only O8 hug
    replace X4 := X4.only O8 hug
    replace X5 := X5.only O8 hug
    replace X6 := X6.only O8 hug
    replace X7 := X7.only O8 hug
    replace X8 := X8.only O8 hug
    replace X9 := X9.only O8 hug
    replace X10 := X10.only O8 hug
    replace X11 := X11.only O8 hug
    clear hn8 ht8 O8 C8 S7
    have x5 := X5.1
    have fx5 := X5.2
    have x6 := X6.1
    have fx6 := X6.2
    have x7 := X7.1
    have fx7 := X7.2
    have OU := ((((Only.refl u w8).set1 5 (.int .i64 (n6 : Nat))).set1 6 (.int .i64 (n7 : Nat))).set1 7 (.int .i64 (n8 : Nat)))
    replace S8 := S8.far OU (by omega) (by have := HB.out; have := huw.out; omega)
    replace HO8 := Lib.hid (HO8.out.after OU huw.out)
    replace R0 := R0.only OU hru
    replace R1 := R1.only OU hru
    replace R2 := R2.only OU hru
    replace R3 := R3.only OU hru
    replace R4 := R4.only OU hru
    replace R5 := R5.only OU hru
    replace R6 := R6.only OU hru
    replace R7 := R7.only OU hru
    replace R8 := R8.only OU hru
    replace R9 := R9.only OU hru
    replace R10 := R10.only OU hru
    replace R11 := R11.only OU hru
    replace X0 := (((X0.far (p := ⟨u, 5, none⟩) (by simp) (.int .i64 (n6 : Nat))).far (p := ⟨u, 6, none⟩) (by simp) (.int .i64 (n7 : Nat))).far (p := ⟨u, 7, none⟩) (by simp) (.int .i64 (n8 : Nat)))
    replace X1 := (((X1.far (p := ⟨u, 5, none⟩) (by simp) (.int .i64 (n6 : Nat))).far (p := ⟨u, 6, none⟩) (by simp) (.int .i64 (n7 : Nat))).far (p := ⟨u, 7, none⟩) (by simp) (.int .i64 (n8 : Nat)))
    replace X2 := (((X2.far (p := ⟨u, 5, none⟩) (by simp) (.int .i64 (n6 : Nat))).far (p := ⟨u, 6, none⟩) (by simp) (.int .i64 (n7 : Nat))).far (p := ⟨u, 7, none⟩) (by simp) (.int .i64 (n8 : Nat)))
    replace X3 := (((X3.far (p := ⟨u, 5, none⟩) (by simp) (.int .i64 (n6 : Nat))).far (p := ⟨u, 6, none⟩) (by simp) (.int .i64 (n7 : Nat))).far (p := ⟨u, 7, none⟩) (by simp) (.int .i64 (n8 : Nat)))
    replace X4 := (((X4.far (p := ⟨u, 5, none⟩) (by simp) (.int .i64 (n6 : Nat))).far (p := ⟨u, 6, none⟩) (by simp) (.int .i64 (n7 : Nat))).far (p := ⟨u, 7, none⟩) (by simp) (.int .i64 (n8 : Nat)))
    replace X5 := (((X5.set (.int .i64 (n6 : Nat))).far (p := ⟨u, 6, none⟩) (by simp) (.int .i64 (n7 : Nat))).far (p := ⟨u, 7, none⟩) (by simp) (.int .i64 (n8 : Nat)))
    replace X6 := (((X6.far (p := ⟨u, 5, none⟩) (by simp) (.int .i64 (n6 : Nat))).set (.int .i64 (n7 : Nat))).far (p := ⟨u, 7, none⟩) (by simp) (.int .i64 (n8 : Nat)))
    replace X7 := (((X7.far (p := ⟨u, 5, none⟩) (by simp) (.int .i64 (n6 : Nat))).far (p := ⟨u, 6, none⟩) (by simp) (.int .i64 (n7 : Nat))).set (.int .i64 (n8 : Nat)))
    replace X8 := (((X8.far (p := ⟨u, 5, none⟩) (by simp) (.int .i64 (n6 : Nat))).far (p := ⟨u, 6, none⟩) (by simp) (.int .i64 (n7 : Nat))).far (p := ⟨u, 7, none⟩) (by simp) (.int .i64 (n8 : Nat)))
    replace X9 := (((X9.far (p := ⟨u, 5, none⟩) (by simp) (.int .i64 (n6 : Nat))).far (p := ⟨u, 6, none⟩) (by simp) (.int .i64 (n7 : Nat))).far (p := ⟨u, 7, none⟩) (by simp) (.int .i64 (n8 : Nat)))
    replace X10 := (((X10.far (p := ⟨u, 5, none⟩) (by simp) (.int .i64 (n6 : Nat))).far (p := ⟨u, 6, none⟩) (by simp) (.int .i64 (n7 : Nat))).far (p := ⟨u, 7, none⟩) (by simp) (.int .i64 (n8 : Nat)))
    replace X11 := (((X11.far (p := ⟨u, 5, none⟩) (by simp) (.int .i64 (n6 : Nat))).far (p := ⟨u, 6, none⟩) (by simp) (.int .i64 (n7 : Nat))).far (p := ⟨u, 7, none⟩) (by simp) (.int .i64 (n8 : Nat)))
    clear OU
    have HLr := Lib.hid R0.lt
    have HLu := Lib.hid X0.lt
    have HLw := Lib.hid HO8.out.size
    have C9 := Lib.hid (dentries_any g B n6 t8 _ S8 (Nat.le_trans HL8.out (by decide)) (by omega) (by omega))
    have y5 := X5.1
    have gy5 := X5.2
    go_wp2_with fail
    refine C9.out.mono ?_
    rintro e w9 ⟨A9, c9, es, rfl, HES, G9, S9, O9⟩
    clear y5 gy5
    obtain ⟨t9, ht9⟩ : ∃ x, x = (rentries n6 t8).2 := ⟨_, rfl⟩
    rw [← ht9] at S9
    have HN9 := Lib.hid (And.intro HES ht9)
    have HG9 := Lib.hid G9
    have HO9 := Lib.hid (HO8.out.trans O9)
    replace R0 := R0.only O9 hrg
    replace R1 := R1.only O9 hrg
    replace R2 := R2.only O9 hrg
    replace R3 := R3.only O9 hrg
    replace R4 := R4.only O9 hrg
    replace R5 := R5.only O9 hrg
    replace R6 := R6.only O9 hrg
    replace R7 := R7.only O9 hrg
    replace R8 := R8.only O9 hrg
    replace R9 := R9.only O9 hrg
    replace R10 := R10.only O9 hrg
    replace R11 := R11.only O9 hrg
    replace X0 := X0.only O9 hug
    replace X1 := X1.only O9 hug
    replace X2 := X2.only O9 hug
    replace X3 := X3.only O9 hug
    replace X4 := X4.only O9 hug
    replace X5 := X5.only O9 hug
    replace X6 := X6.only O9 hug
    replace X7 := X7.only O9 hug
    replace X8 := X8.only O9 hug
    replace X9 := X9.only O9 hug
    replace X10 := X10.only O9 hug
    replace X11 := X11.only O9 hug
    clear ht9 HES G9 O9 C9 S8 HO8
    have OU := ((Only.refl u (w9)).set1 9 (.slice A9 es.length c9))
    replace S9 := S9.far OU (by omega) (by have := HB.out; have := huw.out; omega)
    replace HO9 := Lib.hid (HO9.out.after OU huw.out)
    have OE := (((((((((((((Only.refl r (((w9).setCell ⟨u, 9, none⟩ (.slice A9 es.length c9)))).set1 0 (.int .i64 3)).set1 1 (.int .i64 (n2 : Nat))).set1 2 (.int .i64 (n3 : Nat))).set1 3 (.int .i64 (n4 : Nat))).set1 4 (.int .i64 (n5 : Nat))).set1 5 (.int .i64 (n6 : Nat))).set1 6 (.int .i64 (n7 : Nat))).set1 7 (.int .i64 (n8 : Nat))).set1 8 (.bool false)).set1 9 (.slice A9 es.length c9)).set1 10 (.slice none 0 0)).set1 11 (.slice none 0 0))
    have HF := Lib.hid (And.intro (S9.far OE hgr (by have := HB.out; have := hrw.out; omega)) (HO9.out.after OE hrw.out))
    have HGF := Lib.hid (((HG9.out.off OU HLu.out).off OE HLr.out).low HLw.out)
    obtain ⟨r0, fr0⟩ := R0
    obtain ⟨r1, fr1⟩ := R1
    obtain ⟨r2, fr2⟩ := R2
    obtain ⟨r3, fr3⟩ := R3
    obtain ⟨r4, fr4⟩ := R4
    obtain ⟨r5, fr5⟩ := R5
    obtain ⟨r6, fr6⟩ := R6
    obtain ⟨r7, fr7⟩ := R7
    obtain ⟨r8, fr8⟩ := R8
    obtain ⟨r9, fr9⟩ := R9
    obtain ⟨r10, fr10⟩ := R10
    obtain ⟨r11, fr11⟩ := R11
    obtain ⟨x0, fx0⟩ := X0
    obtain ⟨x1, fx1⟩ := X1
    obtain ⟨x2, fx2⟩ := X2
    obtain ⟨x3, fx3⟩ := X3
    obtain ⟨x4, fx4⟩ := X4
    obtain ⟨x5, fx5⟩ := X5
    obtain ⟨x6, fx6⟩ := X6
    obtain ⟨x7, fx7⟩ := X7
    obtain ⟨x8, fx8⟩ := X8
    obtain ⟨x9, fx9⟩ := X9
    obtain ⟨x10, fx10⟩ := X10
    obtain ⟨x11, fx11⟩ := X11
    clear OE S9 OU
    have HPM : Hid (pmsg s = (⟨n1, n2, n3, n4, n5, n6, n7, n8, false, es.map (·.1), [], []⟩, t9)) := by show _ = _; rw [HP.out]; rw [if_neg hk1, if_neg hk2, if_pos hk3, ← HN6.out.1, ← HN6.out.2, ← HN7.out.1, ← HN7.out.2, ← HN8.out.1, ← HN8.out.2, ← HN9.out.1, ← HN9.out.2]
    clear HP
    go_wp2
    rw [HPM.out]
    refine bodyPost_ret (v := .agg #[.int .i64 3, .int .i64 (n2 : Nat), .int .i64 (n3 : Nat), .int .i64 (n4 : Nat), .int .i64 (n5 : Nat), .int .i64 (n6 : Nat), .int .i64 (n7 : Nat), .int .i64 (n8 : Nat), .bool false, .slice A9 es.length c9, .slice none 0 0, .slice none 0 0]) (by rw [results_cell1 rfl]; go_simp) rfl ⟨⟨A9, c9, none, 0, none, 0⟩, by rw [← hz]; simp only [msgV, msgC, List.length_map, List.length_nil]; try rfl, ⟨⟨es, rfl, HGF.out, fun e he q o h1 h2 => ((HGF.out.rd e he).2 q o h1 h2).2⟩, World.ownsRow_nil _ _ _ _, RdN.nil_ _ _ _, fun _ _ _ h => absurd rfl h⟩, HF.out.1, HF.out.2⟩
  by_cases hk4 : n1 = 4
  · have hn1 : ((n1 : Int) == 1) = false := by rw [beq_eq_false_iff_ne]; omega
    have hn2 : ((n1 : Int) == 2) = false := by rw [beq_eq_false_iff_ne]; omega
    have hn3 : ((n1 : Int) == 3) = false := by rw [beq_eq_false_iff_ne]; omega
    have hn4 : ((n1 : Int) == 4) = true := by rw [hk4]; rfl
    have hz : ((n1 : Nat) : Int) = 4 := by rw [hk4]; rfl
    simp only [hz] at S5 HO5 R0 R1 R2 R3 R4 R5 R6 R7 R8 R9 R10 R11 X0 X1 X2 X3 X4 X5 X6 X7 X8 X9 X10 X11
    have C6 := Lib.hid (dbyte_any g B t5 _ S5)
    go_wp2_with fail
    rw [← HU.out]
    refine C6.out.mono ?_
    rintro e w6 ⟨rfl, S6, O6⟩
    obtain ⟨n6, hn6⟩ : ∃ x, x = (rbyte t5).1 := ⟨_, rfl⟩
    obtain ⟨t6, ht6⟩ : ∃ x, x = (rbyte t5).2 := ⟨_, rfl⟩
    have HL6 : Hid (t6.1.length ≤ 140737488351232) := by show _ ≤ _; rw [ht6]; exact Nat.le_trans (rbyte_len _) HL5.out
    rw [← ht6] at S6
    rw [← hn6]
    have HN6 := Lib.hid (And.intro hn6 ht6)
    have HO6 := Lib.hid (HO5.out.trans O6)
    replace R0 := R0.only O6 hrg
    replace R1 := R1.only O6 hrg
    replace R2 := R2.only O6 hrg
    replace R3 := R3.only O6 hrg
    replace R4 := R4.only O6 hrg
    replace R5 := R5.only O6 hrg
    replace R6 := R6.only O6 hrg
    replace R7 := R7.only O6 hrg
    replace R8 := R8.only O6 hrg
    replace R9 := R9.only O6 hrg
    replace R10 := R10.only O6 hrg
    replace R11 := R11.only O6 hrg
    replace X0 := X0.only O6 hug
    replace X1 := X1.only O6 hug
    replace X2 := X2.only O6 hug
    replace X3 := X3.only O6 hug
    replace X4 := X4.only O6 hug
    replace X5 := X5.only O6 hug
    replace X6 := X6.only O6 hug
    replace X7 := X7.only O6 hug
    replace X8 := X8.only O6 hug
    replace X9 := X9.only O6 hug
    replace X10 := X10.only O6 hug
    replace X11 := X11.only O6 hug
    clear hn6 ht6 O6 C6 S5
    have hb : (n6 != 0) = ((n6 : Int) != 0) := by rw [Bool.eq_iff_iff]; simp
    have x8 := X8.1
    have fx8 := X8.2
    have OU := ((Only.refl u w6).set1 8 (.bool ((n6 : Int) != 0)))
    replace S6 := S6.far OU (by omega) (by have := HB.out; have := huw.out; omega)
    replace HO6 := Lib.hid (HO6.out.after OU huw.out)
    replace R0 := R0.only OU hru
    replace R1 := R1.only OU hru
    replace R2 := R2.only OU hru
    replace R3 := R3.only OU hru
    replace R4 := R4.only OU hru
    replace R5 := R5.only OU hru
    replace R6 := R6.only OU hru
    replace R7 := R7.only OU hru
    replace R8 := R8.only OU hru
    replace R9 := R9.only OU hru
    replace R10 := R10.only OU hru
    replace R11 := R11.only OU hru
    replace X0 := (X0.far (p := ⟨u, 8, none⟩) (by simp) (.bool ((n6 : Int) != 0)))
    replace X1 := (X1.far (p := ⟨u, 8, none⟩) (by simp) (.bool ((n6 : Int) != 0)))
    replace X2 := (X2.far (p := ⟨u, 8, none⟩) (by simp) (.bool ((n6 : Int) != 0)))
    replace X3 := (X3.far (p := ⟨u, 8, none⟩) (by simp) (.bool ((n6 : Int) != 0)))
    replace X4 := (X4.far (p := ⟨u, 8, none⟩) (by simp) (.bool ((n6 : Int) != 0)))
    replace X5 := (X5.far (p := ⟨u, 8, none⟩) (by simp) (.bool ((n6 : Int) != 0)))
    replace X6 := (X6.far (p := ⟨u, 8, none⟩) (by simp) (.bool ((n6 : Int) != 0)))
    replace X7 := (X7.far (p := ⟨u, 8, none⟩) (by simp) (.bool ((n6 : Int) != 0)))
    replace X8 := (X8.set (.bool ((n6 : Int) != 0)))
    replace X9 := (X9.far (p := ⟨u, 8, none⟩) (by simp) (.bool ((n6 : Int) != 0)))
    replace X10 := (X10.far (p := ⟨u, 8, none⟩) (by simp) (.bool ((n6 : Int) != 0)))
    replace X11 := (X11.far (p := ⟨u, 8, none⟩) (by simp) (.bool ((n6 : Int) != 0)))
    clear OU
    have C7 := Lib.hid (dcount_any g B t6 _ S6)
    go_wp2_with fail
    refine C7.out.mono ?_
    rintro e w7 ⟨rfl, S7, O7⟩
    obtain ⟨n7, hn7⟩ : ∃ x, x = (rcount t6).1 := ⟨_, rfl⟩
    obtain ⟨t7, ht7⟩ : ∃ x, x = (rcount t6).2 := ⟨_, rfl⟩
    have HL7 : Hid (t7.1.length ≤ 140737488351232) := by show _ ≤ _; rw [ht7]; exact Nat.le_trans (rcount_len _) HL6.out
    rw [← ht7] at S7
    have hlt7 : n7 < 72057594037927936 := by rw [hn7]; exact rcount_lt _
    rw [← hn7]
    have HN7 := Lib.hid (And.intro hn7 ht7)
    have HO7 := Lib.hid (HO6.out.trans O7)
    replace R0 := R0.only O7 hrg
    replace R1 := R1.only O7 hrg
    replace R2 := R2.only O7 hrg
    replace R3 := R3.only O7 hrg
    replace R4 := R4.only O7 hrg
    replace R5 := R5.only O7 hrg
    replace R6 := R6.only O7 hrg
    replace R7 := R7.only O7 hrg
    replace R8 := R8.only O7 hrg
    replace R9 := R9.only O7 hrg
    replace R10 := R10.only O7 hrg
    replace R11 := R11.only O7 hrg
    replace X0 := X0.only O7 hug
    replace X1 := X1.only O7 hug
    replace X2 := X2.only O7 hug
    replace X3 := X3.only O7 hug
    replace X4 := X4.only O7 hug
    replace X5 := X5.only O7 hug
    replace X6 := X6.only O7 hug
    replace X7 := X7.only O7 hug
    replace X8 := X8.only O7 hug
    replace X9 := X9.only O7 hug
    replace X10 := X10.only O7 hug
    replace X11 := X11.only O7 hug
    clear hn7 ht7 O7 C7 S6
    have OU := ((Only.refl u (w7)).set1 5 (.int .i64 (n7 : Nat)))
    replace S7 := S7.far OU (by omega) (by have := HB.out; have := huw.out; omega)
    replace HO7 := Lib.hid (HO7.out.after OU huw.out)
    have OE := (((((((((((((Only.refl r (((w7).setCell ⟨u, 5, none⟩ (.int .i64 (n7 : Nat))))).set1 0 (.int .i64 4)).set1 1 (.int .i64 (n2 : Nat))).set1 2 (.int .i64 (n3 : Nat))).set1 3 (.int .i64 (n4 : Nat))).set1 4 (.int .i64 (n5 : Nat))).set1 5 (.int .i64 (n7 : Nat))).set1 6 (.int .i64 0)).set1 7 (.int .i64 0)).set1 8 (.bool ((n6 : Int) != 0))).set1 9 (.slice none 0 0)).set1 10 (.slice none 0 0)).set1 11 (.slice none 0 0))
    have HF := Lib.hid (And.intro (S7.far OE hgr (by have := HB.out; have := hrw.out; omega)) (HO7.out.after OE hrw.out))
    obtain ⟨r0, fr0⟩ := R0
    obtain ⟨r1, fr1⟩ := R1
    obtain ⟨r2, fr2⟩ := R2
    obtain ⟨r3, fr3⟩ := R3
    obtain ⟨r4, fr4⟩ := R4
    obtain ⟨r5, fr5⟩ := R5
    obtain ⟨r6, fr6⟩ := R6
    obtain ⟨r7, fr7⟩ := R7
    obtain ⟨r8, fr8⟩ := R8
    obtain ⟨r9, fr9⟩ := R9
    obtain ⟨r10, fr10⟩ := R10
    obtain ⟨r11, fr11⟩ := R11
    obtain ⟨x0, fx0⟩ := X0
    obtain ⟨x1, fx1⟩ := X1
    obtain ⟨x2, fx2⟩ := X2
    obtain ⟨x3, fx3⟩ := X3
    obtain ⟨x4, fx4⟩ := X4
    obtain ⟨x5, fx5⟩ := X5
    obtain ⟨x6, fx6⟩ := X6
    obtain ⟨x7, fx7⟩ := X7
    obtain ⟨x8, fx8⟩ := X8
    obtain ⟨x9, fx9⟩ := X9
    obtain ⟨x10, fx10⟩ := X10
    obtain ⟨x11, fx11⟩ := X11
    clear OE S7 OU
    have HPM : Hid (pmsg s = (⟨n1, n2, n3, n4, n5, n7, 0, 0, ((n6 : Int) != 0), [], [], []⟩, t7)) := by show _ = _; rw [HP.out]; rw [if_neg hk1, if_neg hk2, if_neg hk3, if_pos hk4, ← HN6.out.1, ← HN6.out.2, ← HN7.out.1, ← HN7.out.2, hb]
    clear HP
    go_wp2
    rw [HPM.out]
    refine bodyPost_ret (v := .agg #[.int .i64 4, .int .i64 (n2 : Nat), .int .i64 (n3 : Nat), .int .i64 (n4 : Nat), .int .i64 (n5 : Nat), .int .i64 (n7 : Nat), .int .i64 0, .int .i64 0, .bool ((n6 : Int) != 0), .slice none 0 0, .slice none 0 0, .slice none 0 0]) (by rw [results_cell1 rfl]; go_simp) rfl ⟨⟨none, 0, none, 0, none, 0⟩, by rw [← hz]; rfl, MGot.none_ _ _ _ _ rfl rfl rfl, HF.out.1, HF.out.2⟩
  by_cases hk5 : n1 = 5
  · have hn1 : ((n1 : Int) == 1) = false := by rw [beq_eq_false_iff_ne]; omega
    have hn2 : ((n1 : Int) == 2) = false := by rw [beq_eq_false_iff_ne]; omega
    have hn3 : ((n1 : Int) == 3) = false := by rw [beq_eq_false_iff_ne]; omega
    have hn4 : ((n1 : Int) == 4) = false := by rw [beq_eq_false_iff_ne]; omega
    have hn5 : ((n1 : Int) == 5) = true := by rw [hk5]; rfl
    have hz : ((n1 : Nat) : Int) = 5 := by rw [hk5]; rfl
    simp only [hz] at S5 HO5 R0 R1 R2 R3 R4 R5 R6 R7 R8 R9 R10 R11 X0 X1 X2 X3 X4 X5 X6 X7 X8 X9 X10 X11
    have C6 := Lib.hid (dcount_any g B t5 _ S5)
    go_wp2_with fail
    rw [← HU.out]
    refine C6.out.mono ?_
    rintro e w6 ⟨rfl, S6, O6⟩
    obtain ⟨n6, hn6⟩ : ∃ x, x = (rcount t5).1 := ⟨_, rfl⟩
    obtain ⟨t6, ht6⟩ : ∃ x, x = (rcount t5).2 := ⟨_, rfl⟩
    have HL6 : Hid (t6.1.length ≤ 140737488351232) := by show _ ≤ _; rw [ht6]; exact Nat.le_trans (rcount_len _) HL5.out
    rw [← ht6] at S6
    have hlt6 : n6 < 72057594037927936 := by rw [hn6]; exact rcount_lt _
    rw [← hn6]
    have HN6 := Lib.hid (And.intro hn6 ht6)
    have HO6 := Lib.hid (HO5.out.trans O6)
    replace R0 := R0.only O6 hrg
    replace R1 := R1.only O6 hrg
    replace R2 := R2.only O6 hrg
    replace R3 := R3.only O6 hrg
    replace R4 := R4.only O6 hrg
    replace R5 := R5.only O6 hrg
    replace R6 := R6.only O6 hrg
    replace R7 := R7.only O6 hrg
    replace R8 := R8.only O6 hrg
    replace R9 := R9.only O6 hrg
    replace R10 := R10.only O6 hrg
    replace R11 := R11.only O6 hrg
    replace X0 := X0.only O6 hug
    replace X1 := X1.only O6 hug
    replace X2 := X2.only O6 hug
    replace X3 := X3.only O6 hug
    replace X4 := X4.only O6 hug
    replace X5 := X5.only O6 hug
    replace X6 := X6.only O6 hug
    replace X7 := X7.only O6 hug
    replace X8 := X8.only O6 hug
    replace X9 := X9.only O6 hug
    replace X10 := X10.only O6 hug
    replace X11 := X11.only O6 hug
    clear hn6 ht6 O6 C6 S5
    have C7 := Lib.hid (dcount_any g B t6 _ S6)
    go_wp2_with fail
    refine C7.out.mono ?_
    rintro e w7 ⟨rfl, S7, O7⟩
    obtain ⟨n7, hn7⟩ : ∃ x, x = (rcount t6).1 := ⟨_, rfl⟩
    obtain ⟨t7, ht7⟩ : ∃ x, x = (rcount t6).2 := ⟨_, rfl⟩
    have HL7 : Hid (t7.1.length ≤ 140737488351232) := by show _ ≤ _; rw [ht7]; exact Nat.le_trans (rcount_len _) HL6.out
    rw [← ht7] at S7
    have hlt7 : n7 < 72057594037927936 := by rw [hn7]; exact rcount_lt _
    rw [← hn7]
    have HN7 := Lib.hid (And.intro hn7 ht7)
    have HO7 := Lib.hid (HO6.out.trans O7)
    replace R0 := R0.only O7 hrg
    replace R1 := R1.only O7 hrg
    replace R2 := R2.only O7 hrg
    replace R3 := R3.only O7 hrg
    replace R4 := R4.only O7 hrg
    replace R5 := R5.only O7 hrg
    replace R6 := R6.only O7 hrg
    replace R7 := R7.only O7 hrg
    replace R8 := R8.only O7 hrg
    replace R9 := R9.only O7 hrg
    replace R10 := R10.only O7 hrg
    replace R11 := R11.only O7 hrg
    replace X0 := X0.only O7 hug
    replace X1 := X1.only O7 hug
    replace X2 := X2.only O7 hug
    replace X3 := X3.only O7 hug
    replace X4 := X4.only O7 hug
    replace X5 := X5.only O7 hug
    replace X6 := X6.only O7 hug
    replace X7 := X7.only O7 hug
    replace X8 := X8.only O7 hug
    replace X9 := X9.only O7 hug
    replace X10 := X10.only O7 hug
    replace X11 := X11.only O7 hug
    clear hn7 ht7 O7 C7 S6
    have x5 := X5.1
    have fx5 := X5.2
    have x6 := X6.1
    have fx6 := X6.2
    have OU := (((Only.refl u w7).set1 5 (.int .i64 (n6 : Nat))).set1 6 (.int .i64 (n7 : Nat)))
    replace S7 := S7.far OU (by omega) (by have := HB.out; have := huw.out; omega)
    replace HO7 := Lib.hid (HO7.out.after OU huw.out)
    replace R0 := R0.only OU hru
    replace R1 := R1.only OU hru
    replace R2 := R2.only OU hru
    replace R3 := R3.only OU hru
    replace R4 := R4.only OU hru
    replace R5 := R5.only OU hru
    replace R6 := R6.only OU hru
    replace R7 := R7.only OU hru
    replace R8 := R8.only OU hru
    replace R9 := R9.only OU hru
    replace R10 := R10.only OU hru
    replace R11 := R11.only OU hru
    replace X0 := ((X0.far (p := ⟨u, 5, none⟩) (by simp) (.int .i64 (n6 : Nat))).far (p := ⟨u, 6, none⟩) (by simp) (.int .i64 (n7 : Nat)))
    replace X1 := ((X1.far (p := ⟨u, 5, none⟩) (by simp) (.int .i64 (n6 : Nat))).far (p := ⟨u, 6, none⟩) (by simp) (.int .i64 (n7 : Nat)))
    replace X2 := ((X2.far (p := ⟨u, 5, none⟩) (by simp) (.int .i64 (n6 : Nat))).far (p := ⟨u, 6, none⟩) (by simp) (.int .i64 (n7 : Nat)))
    replace X3 := ((X3.far (p := ⟨u, 5, none⟩) (by simp) (.int .i64 (n6 : Nat))).far (p := ⟨u, 6, none⟩) (by simp) (.int .i64 (n7 : Nat)))
    replace X4 := ((X4.far (p := ⟨u, 5, none⟩) (by simp) (.int .i64 (n6 : Nat))).far (p := ⟨u, 6, none⟩) (by simp) (.int .i64 (n7 : Nat)))
    replace X5 := ((X5.set (.int .i64 (n6 : Nat))).far (p := ⟨u, 6, none⟩) (by simp) (.int .i64 (n7 : Nat)))
    replace X6 := ((X6.far (p := ⟨u, 5, none⟩) (by simp) (.int .i64 (n6 : Nat))).set (.int .i64 (n7 : Nat)))
    replace X7 := ((X7.far (p := ⟨u, 5, none⟩) (by simp) (.int .i64 (n6 : Nat))).far (p := ⟨u, 6, none⟩) (by simp) (.int .i64 (n7 : Nat)))
    replace X8 := ((X8.far (p := ⟨u, 5, none⟩) (by simp) (.int .i64 (n6 : Nat))).far (p := ⟨u, 6, none⟩) (by simp) (.int .i64 (n7 : Nat)))
    replace X9 := ((X9.far (p := ⟨u, 5, none⟩) (by simp) (.int .i64 (n6 : Nat))).far (p := ⟨u, 6, none⟩) (by simp) (.int .i64 (n7 : Nat)))
    replace X10 := ((X10.far (p := ⟨u, 5, none⟩) (by simp) (.int .i64 (n6 : Nat))).far (p := ⟨u, 6, none⟩) (by simp) (.int .i64 (n7 : Nat)))
    replace X11 := ((X11.far (p := ⟨u, 5, none⟩) (by simp) (.int .i64 (n6 : Nat))).far (p := ⟨u, 6, none⟩) (by simp) (.int .i64 (n7 : Nat)))
    clear OU
    have C8 := Lib.hid (dbytes_any g B t7 _ S7 (Nat.le_trans HL7.out (by decide)))
    go_wp2_with fail
    refine C8.out.mono ?_
    rintro e w8 ⟨A8, c8, rfl, N8, S8, O8, fr8⟩
    clear fr8
    obtain ⟨m8, hm8⟩ : ∃ x, x = (rbytes t7).1 := ⟨_, rfl⟩
    obtain ⟨t8, ht8⟩ : ∃ x, x = (rbytes t7).2 := ⟨_, rfl⟩
    have HL8 : Hid (t8.1.length ≤ 140737488351232) := by show _ ≤ _; rw [ht8]; exact Nat.le_trans (rbytes_len _) HL7.out
    have HM8 : Hid (m8.length ≤ 1048576) := by
      have h := HMB.out
      rw [HP.out, if_neg hk1, if_neg hk2, if_neg hk3, if_neg hk4, if_pos hk5, ← HN6.out.2, ← HN7.out.2, ← hm8] at h
      show _ ≤ _
      simp only [intsOf_len] at h
      exact h
    rw [← ht8] at S8
    rw [← hm8] at N8
    rw [← hm8]
    have HN8 := Lib.hid (And.intro hm8 ht8)
    have HO8 := Lib.hid (HO7.out.trans O8)
    have C9 := Lib.hid (numbers_any m8 A8 m8.length c8 w8 rfl N8.rd HM8.out)
    replace R0 := R0.only O8 hrg
    replace R1 := R1.only O8 hrg
    replace R2 := R2.only O8 hrg
    replace R3 := R3.only O8 hrg
    replace R4 := R4.only O8 hrg
    replace R5 := R5.only O8 hrg
    replace R6 := R6.only O8 hrg
    replace R7 := R7.only O8 hrg
    replace R8 := R8.only O8 hrg
    replace R9 := R9.only O8 hrg
    replace R10 := R10.only O8 hrg
    replace R11 := R11.only O8 hrg
    replace X0 := X0.only O8 hug
    replace X1 := X1.only O8 hug
    replace X2 := X2.only O8 hug
    replace X3 := X3.only O8 hug
    replace X4 := X4.only O8 hug
    replace X5 := X5.only O8 hug
    replace X6 := X6.only O8 hug
    replace X7 := X7.only O8 hug
    replace X8 := X8.only O8 hug
    replace X9 := X9.only O8 hug
    replace X10 := X10.only O8 hug
    replace X11 := X11.only O8 hug
    clear hm8 ht8 N8 O8 C8 S7 HO7
    have HLr := Lib.hid R0.lt
    have HLu := Lib.hid X0.lt
    have HLw := Lib.hid HO8.out.size
    have HLg := Lib.hid (S8.bad.lt)
    go_wp2_with fail
    refine C9.out.mono ?_
    rintro e w9 ⟨A9, c9, rfl, I9, b9⟩
    replace S8 := S8.below b9
    have HO9 := Lib.hid (HO8.out.trans (Only.of_below b9))
    replace R0 := R0.keep b9
    replace R1 := R1.keep b9
    replace R2 := R2.keep b9
    replace R3 := R3.keep b9
    replace R4 := R4.keep b9
    replace R5 := R5.keep b9
    replace R6 := R6.keep b9
    replace R7 := R7.keep b9
    replace R8 := R8.keep b9
    replace R9 := R9.keep b9
    replace R10 := R10.keep b9
    replace R11 := R11.keep b9
    replace X0 := X0.keep b9
    replace X1 := X1.keep b9
    replace X2 := X2.keep b9
    replace X3 := X3.keep b9
    replace X4 := X4.keep b9
    replace X5 := X5.keep b9
    replace X6 := X6.keep b9
    replace X7 := X7.keep b9
    replace X8 := X8.keep b9
    replace X9 := X9.keep b9
    replace X10 := X10.keep b9
    replace X11 := X11.keep b9
    clear b9 C9 HO8
    obtain ⟨S9, hS9⟩ : ∃ x : RdrAt w9 g B t8, True := ⟨S8, trivial⟩
    clear hS9 S8
    have HI9 := Lib.hid I9
    clear I9
    have x10 := X10.1
    have fx10 := X10.2
    have OU := ((Only.refl u w9).set1 10 (.slice A9 m8.length c9))
    replace S9 := S9.far OU (by omega) (by have := HB.out; have := huw.out; omega)
    replace HO9 := Lib.hid (HO9.out.after OU huw.out)
    replace R0 := R0.only OU hru
    replace R1 := R1.only OU hru
    replace R2 := R2.only OU hru
    replace R3 := R3.only OU hru
    replace R4 := R4.only OU hru
    replace R5 := R5.only OU hru
    replace R6 := R6.only OU hru
    replace R7 := R7.only OU hru
    replace R8 := R8.only OU hru
    replace R9 := R9.only OU hru
    replace R10 := R10.only OU hru
    replace R11 := R11.only OU hru
    replace X0 := (X0.far (p := ⟨u, 10, none⟩) (by simp) (.slice A9 m8.length c9))
    replace X1 := (X1.far (p := ⟨u, 10, none⟩) (by simp) (.slice A9 m8.length c9))
    replace X2 := (X2.far (p := ⟨u, 10, none⟩) (by simp) (.slice A9 m8.length c9))
    replace X3 := (X3.far (p := ⟨u, 10, none⟩) (by simp) (.slice A9 m8.length c9))
    replace X4 := (X4.far (p := ⟨u, 10, none⟩) (by simp) (.slice A9 m8.length c9))
    replace X5 := (X5.far (p := ⟨u, 10, none⟩) (by simp) (.slice A9 m8.length c9))
    replace X6 := (X6.far (p := ⟨u, 10, none⟩) (by simp) (.slice A9 m8.length c9))
    replace X7 := (X7.far (p := ⟨u, 10, none⟩) (by simp) (.slice A9 m8.length c9))
    replace X8 := (X8.far (p := ⟨u, 10, none⟩) (by simp) (.slice A9 m8.length c9))
    replace X9 := (X9.far (p := ⟨u, 10, none⟩) (by simp) (.slice A9 m8.length c9))
    replace X10 := (X10.set (.slice A9 m8.length c9))
    replace X11 := (X11.far (p := ⟨u, 10, none⟩) (by simp) (.slice A9 m8.length c9))
    replace HI9 := Lib.hid (HI9.out.off OU HLu.out)
    clear OU
    have HLrt := Lib.hid R0.lt
    have HLut := Lib.hid X0.lt
    have HLwt := Lib.hid HO9.out.size
    have C10 := Lib.hid (dbytes_any g B t8 _ S9 (Nat.le_trans HL8.out (by decide)))
    go_wp2_with fail
    refine C10.out.mono ?_
    rintro e w10 ⟨A10, c10, rfl, N10, S10, O10, fr10⟩
    obtain ⟨d10, hd10⟩ : ∃ x, x = (rbytes t8).1 := ⟨_, rfl⟩
    obtain ⟨t10, ht10⟩ : ∃ x, x = (rbytes t8).2 := ⟨_, rfl⟩
    rw [← ht10] at S10
    rw [← hd10] at N10 fr10
    rw [← hd10]
    have HN10 := Lib.hid (And.intro hd10 ht10)
    have HD10 := Lib.hid (And.intro N10 fr10)
    have HO10 := Lib.hid (HO9.out.trans O10)
    replace HI9 := Lib.hid (HI9.out.off O10 HLg.out)
    replace R0 := R0.only O10 hrg
    replace R1 := R1.only O10 hrg
    replace R2 := R2.only O10 hrg
    replace R3 := R3.only O10 hrg
    replace R4 := R4.only O10 hrg
    replace R5 := R5.only O10 hrg
    replace R6 := R6.only O10 hrg
    replace R7 := R7.only O10 hrg
    replace R8 := R8.only O10 hrg
    replace R9 := R9.only O10 hrg
    replace R10 := R10.only O10 hrg
    replace R11 := R11.only O10 hrg
    replace X0 := X0.only O10 hug
    replace X1 := X1.only O10 hug
    replace X2 := X2.only O10 hug
    replace X3 := X3.only O10 hug
    replace X4 := X4.only O10 hug
    replace X5 := X5.only O10 hug
    replace X6 := X6.only O10 hug
    replace X7 := X7.only O10 hug
    replace X8 := X8.only O10 hug
    replace X9 := X9.only O10 hug
    replace X10 := X10.only O10 hug
    replace X11 := X11.only O10 hug
    clear hd10 ht10 N10 fr10 O10 C10 S9 HO9
    have OU := ((Only.refl u (w10)).set1 11 (.slice A10 d10.length c10))
    replace S10 := S10.far OU (by omega) (by have := HB.out; have := huw.out; omega)
    replace HO10 := Lib.hid (HO10.out.after OU huw.out)
    have OE := (((((((((((((Only.refl r (((w10).setCell ⟨u, 11, none⟩ (.slice A10 d10.length c10)))).set1 0 (.int .i64 5)).set1 1 (.int .i64 (n2 : Nat))).set1 2 (.int .i64 (n3 : Nat))).set1 3 (.int .i64 (n4 : Nat))).set1 4 (.int .i64 (n5 : Nat))).set1 5 (.int .i64 (n6 : Nat))).set1 6 (.int .i64 (n7 : Nat))).set1 7 (.int .i64 0)).set1 8 (.bool false)).set1 9 (.slice none 0 0)).set1 10 (.slice A9 m8.length c9)).set1 11 (.slice A10 d10.length c10))
    have HF := Lib.hid (And.intro (S10.far OE hgr (by have := HB.out; have := hrw.out; omega)) (HO10.out.after OE hrw.out))
    have HIF := Lib.hid (((HI9.out.off OU HLu.out).off OE HLr.out).low HLw.out)
    have HDF := Lib.hid ((HD10.out.1.off HD10.out.2 OU HLut.out).off HD10.out.2 OE HLrt.out)
    have HDL : Hid (∀ q o, A10 = some ⟨q, o, none⟩ → d10 ≠ [] → w.heap.size ≤ q) := fun q o h1 h2 => Nat.le_trans HLwt.out (HD10.out.2 q o h1 h2)
    obtain ⟨r0, fr0⟩ := R0
    obtain ⟨r1, fr1⟩ := R1
    obtain ⟨r2, fr2⟩ := R2
    obtain ⟨r3, fr3⟩ := R3
    obtain ⟨r4, fr4⟩ := R4
    obtain ⟨r5, fr5⟩ := R5
    obtain ⟨r6, fr6⟩ := R6
    obtain ⟨r7, fr7⟩ := R7
    obtain ⟨r8, fr8⟩ := R8
    obtain ⟨r9, fr9⟩ := R9
    obtain ⟨r10, fr10⟩ := R10
    obtain ⟨r11, fr11⟩ := R11
    obtain ⟨x0, fx0⟩ := X0
    obtain ⟨x1, fx1⟩ := X1
    obtain ⟨x2, fx2⟩ := X2
    obtain ⟨x3, fx3⟩ := X3
    obtain ⟨x4, fx4⟩ := X4
    obtain ⟨x5, fx5⟩ := X5
    obtain ⟨x6, fx6⟩ := X6
    obtain ⟨x7, fx7⟩ := X7
    obtain ⟨x8, fx8⟩ := X8
    obtain ⟨x9, fx9⟩ := X9
    obtain ⟨x10, fx10⟩ := X10
    obtain ⟨x11, fx11⟩ := X11
    clear OE S10 OU
    have HPM : Hid (pmsg s = (⟨n1, n2, n3, n4, n5, n6, n7, 0, false, [], intsOf m8, d10⟩, t10)) := by show _ = _; rw [HP.out]; rw [if_neg hk1, if_neg hk2, if_neg hk3, if_neg hk4, if_pos hk5, ← HN6.out.1, ← HN6.out.2, ← HN7.out.1, ← HN7.out.2, ← HN8.out.1, ← HN8.out.2, ← HN10.out.1, ← HN10.out.2]
    clear HP
    go_wp2
    rw [HPM.out]
    refine bodyPost_ret (v := .agg #[.int .i64 5, .int .i64 (n2 : Nat), .int .i64 (n3 : Nat), .int .i64 (n4 : Nat), .int .i64 (n5 : Nat), .int .i64 (n6 : Nat), .int .i64 (n7 : Nat), .int .i64 0, .bool false, .slice none 0 0, .slice A9 m8.length c9, .slice A10 d10.length c10]) (by rw [results_cell1 rfl]; go_simp) rfl ⟨⟨none, 0, A9, c9, A10, c10⟩, by rw [← hz]; simp only [msgV, msgC, List.length_nil, intsOf_len]; try rfl, ⟨⟨[], rfl, ⟨World.ownsRow_nil _ _ _ _, (fun e h => nomatch h), (fun h => nomatch h)⟩, (fun e h => nomatch h)⟩, by simp only [intsOf_len]; exact HIF.out, HDF.out, HDL.out⟩, HF.out.1, HF.out.2⟩
  have hn1 : ((n1 : Int) == 1) = false := by rw [beq_eq_false_iff_ne]; omega
  have hn2 : ((n1 : Int) == 2) = false := by rw [beq_eq_false_iff_ne]; omega
  have hn3 : ((n1 : Int) == 3) = false := by rw [beq_eq_false_iff_ne]; omega
  have hn4 : ((n1 : Int) == 4) = false := by rw [beq_eq_false_iff_ne]; omega
  have hn5 : ((n1 : Int) == 5) = false := by rw [beq_eq_false_iff_ne]; omega
  have OE := (((((((((((((Only.refl r (w5.alloc (.cells #[.int .i64 (n1 : Nat), .int .i64 (n2 : Nat), .int .i64 (n3 : Nat), .int .i64 (n4 : Nat), .int .i64 (n5 : Nat), .int .i64 0, .int .i64 0, .int .i64 0, .bool false, .slice none 0 0, .slice none 0 0, .slice none 0 0] 51))).set1 0 (.int .i64 (n1 : Nat))).set1 1 (.int .i64 (n2 : Nat))).set1 2 (.int .i64 (n3 : Nat))).set1 3 (.int .i64 (n4 : Nat))).set1 4 (.int .i64 (n5 : Nat))).set1 5 (.int .i64 0)).set1 6 (.int .i64 0)).set1 7 (.int .i64 0)).set1 8 (.bool false)).set1 9 (.slice none 0 0)).set1 10 (.slice none 0 0)).set1 11 (.slice none 0 0))
  have HF := Lib.hid (And.intro (S5.far OE hgr (by have := HB.out; have := hrw.out; omega)) (HO5.out.after OE hrw.out))
  obtain ⟨r0, fr0⟩ := R0
  obtain ⟨r1, fr1⟩ := R1
  obtain ⟨r2, fr2⟩ := R2
  obtain ⟨r3, fr3⟩ := R3
  obtain ⟨r4, fr4⟩ := R4
  obtain ⟨r5, fr5⟩ := R5
  obtain ⟨r6, fr6⟩ := R6
  obtain ⟨r7, fr7⟩ := R7
  obtain ⟨r8, fr8⟩ := R8
  obtain ⟨r9, fr9⟩ := R9
  obtain ⟨r10, fr10⟩ := R10
  obtain ⟨r11, fr11⟩ := R11
  obtain ⟨x0, fx0⟩ := X0
  obtain ⟨x1, fx1⟩ := X1
  obtain ⟨x2, fx2⟩ := X2
  obtain ⟨x3, fx3⟩ := X3
  obtain ⟨x4, fx4⟩ := X4
  obtain ⟨x5, fx5⟩ := X5
  obtain ⟨x6, fx6⟩ := X6
  obtain ⟨x7, fx7⟩ := X7
  obtain ⟨x8, fx8⟩ := X8
  obtain ⟨x9, fx9⟩ := X9
  obtain ⟨x10, fx10⟩ := X10
  obtain ⟨x11, fx11⟩ := X11
  clear OE S5 
  have HPM : Hid (pmsg s = (⟨n1, n2, n3, n4, n5, 0, 0, 0, false, [], [], []⟩, t5)) := by show _ = _; rw [HP.out]; rw [if_neg hk1, if_neg hk2, if_neg hk3, if_neg hk4, if_neg hk5]
  clear HP
  go_wp2
  rw [HPM.out]
  refine bodyPost_ret (v := .agg #[.int .i64 (n1 : Nat), .int .i64 (n2 : Nat), .int .i64 (n3 : Nat), .int .i64 (n4 : Nat), .int .i64 (n5 : Nat), .int .i64 0, .int .i64 0, .int .i64 0, .bool false, .slice none 0 0, .slice none 0 0, .slice none 0 0]) (by rw [results_cell1 rfl]; go_simp) rfl ⟨⟨none, 0, none, 0, none, 0⟩, rfl, MGot.none_ _ _ _ _ rfl rfl rfl, HF.out.1, HF.out.2⟩
end Go.Proofs.Ytekgmgiokmbliaa
