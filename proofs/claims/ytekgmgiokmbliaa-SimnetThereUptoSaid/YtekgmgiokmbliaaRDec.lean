/-
  The reference's Decode.
-/
import Derived.Test.YtekgmgiokmbliaaXText
import Derived.Test.YtekgmgiokmbliaaREnc
import Derived.Test.YtekgmgiokmbliaaKeep
import Derived.Deep.CutBlock
set_option linter.unusedVariables false
namespace Go.Proofs.Ytekgmgiokmbliaa
open Go.RowKit

theorem XRdr.far {w w' : World} {g B r : Nat} {s : RS} (h : XRdr w g B s) (k : Only r w w') (hr : g ≠ r) (hB : B ≤ r) : XRdr w' g B s := by
  obtain ⟨A, L, c, p, h0, h1, h2, h3, h4, h5, h6⟩ := h.at_
  refine ⟨⟨A, L, c, p, h0.only k hr, h1.only k hr, h2, h3, h4, h5, ?_⟩, h.bad.only k hr, h.hB⟩
  rcases h6 with h6 | ⟨q, o, e, hq, hcell⟩
  · exact .inl h6
  · exact .inr ⟨q, o, e, hq, fun i hi => cell_only (hcell i hi) k (show q ≠ r by omega)⟩
theorem XRdr.grown {w w' : World} {g B : Nat} {s : RS} {row : Option Nat} (h : XRdr w g B s) (hg : w.grownBy w' row) (hr : row ≠ some g) (hB : ∀ r, row = some r → B ≤ r) : XRdr w' g B s := by
  obtain ⟨A, L, c, p, h0, h1, h2, h3, h4, h5, hrd⟩ := h.at_
  have hne : some g ≠ row := fun e => hr e.symm
  refine ⟨⟨A, L, c, p, h0.grown hg hne, h1.grown hg hne, h2, h3, h4, h5, ?_⟩, h.bad.grown hg hne, h.hB⟩
  rcases hrd with h6 | ⟨q, o, e, hq, hcell⟩
  · exact .inl h6
  · exact .inr ⟨q, o, e, hq, fun i hi => (hg.cell_far ⟨q, o + i, none⟩ (by show q < _; have := h0.lt; have := h.hB; omega) (fun x => by have := hB q x.symm; omega)).trans (hcell i hi)⟩
theorem RdN.grown {w w' : World} {g : Nat} {A : Option Addr} {l : List UInt8} {row : Option Nat} (h : RdN w g A l) (hg : w.grownBy w' row) (hr : ∀ q o, A = some ⟨q, o, none⟩ → l ≠ [] → row ≠ some q) : RdN w' g A l := by
  refine ⟨?_, h.ne⟩
  rcases h.rd with h0 | ⟨q, o, e, hq, hc⟩
  · exact .inl h0
  · by_cases h0 : l = []
    · exact .inl h0
    · exact .inr ⟨q, o, e, Nat.lt_of_lt_of_le hq hg.size, fun i hi => (hg.cell_far _ hq (fun x => hr q o e h0 x.symm)).trans (hc i hi)⟩
/-- append(v, x) at a step of a drawn region, x a number in a block of its own -/
theorem step_app_int {ops : Array Oper} {o : Oper} {a : Act} {K : Act → World → Prop} {Q : Exit → Act → World → Prop} {E : Prop} (w : World) (base : Nat) (v : Value) (n : Nat) (G : List Int) (y : Int) (q : Nat) (hgd : o.guard = none) (s x : Operand)
    (ho : o.op = .call { callee := .builtin .append, args := #[s, x], argTypes := #[43, 43] })
    (hs : a.eval s = v) (hx : a.eval x = .slice (some ⟨q, 0, none⟩) 1 1) (hown : OwnI w base v G) (hc : w.cell? ⟨q, 0, none⟩ = some (.int .i64 y)) (hn : n = G.length) (hlen : n ≤ 1048576) (hbase : base ≤ w.heap.size)
    (h : ∀ gq cap w', OwnI w' base (.slice (some ⟨gq, 0, none⟩) (n + 1) cap) (G ++ [y]) → w.grownBy w' v.ownBlock → (v.ownBlock = some gq ∨ gq = w.heap.size) → K (a.put o.dst (.slice (some ⟨gq, 0, none⟩) (n + 1) cap)) w') : if Region.wanted o (yielded ops a.tmps) = true then Oper.wp Try.prog o a w K Q else E := by
  subst hn
  obtain ⟨i0, hi0, hz0, hz1, hz2⟩ := info_parts infoI
  have hown' : w.ownsRow base 3 1 v G.length (G.map iv) := hown
  refine step_append_lies w hgd s x 43 ho base 3 i0 _ 1 8 Try.underlying43 hi0 hz0 hz1 hz2 rfl (by decide) v G.length (G.map iv) hs hown' ⟨q, 0, none⟩ 1 1 [iv y] hx rfl ?_ ?_ (by decide) (by unfold maxLen; omega) (by omega) hbase w.heap.size rfl ?_
  · intro j u hu
    have hj : j = 0 := by
      rcases Nat.eq_zero_or_pos j with h | h
      · exact h
      · rw [List.getElem?_eq_none (by simp; omega)] at hu; cases hu
    subst hj
    rw [add_at]
    simp at hu
    rw [← hu]
    exact hc
  · intro u hu
    rw [List.mem_singleton.1 hu]; rfl
  · intro gq cap w' h1 h2 h3 _
    refine h gq cap w' ?_ h2 h3
    unfold OwnI
    rw [List.map_append, List.length_append]
    exact h1
/-- the message has been read -/
structure RFin (w w' : World) (b : List UInt8) (r g p B : Nat) (m : Msg) (a : At) (t : RS) : Prop where
  xm : xmsg (b, false) = (m, t)
  S : XRdr w' g B t
  X : Box w' p (msgC m a).toList
  R : Box w' r [.int .i64 0, .int .i64 0, .int .i64 0, .int .i64 0, .int .i64 0, .int .i64 0, .int .i64 0, .int .i64 0, .bool false, .slice none 0 0, .slice none 0 0, .slice none 0 0]
  M : MGot w' g (p + 1) m a
  sm : Small m
  HB : Below w.heap.size w w'

set_option maxHeartbeats 12800000 in
set_option maxRecDepth 100000 in
theorem rdecode_any (b : List UInt8) (A : Option Addr) (c : Nat) (w : World) (h : Rd w w.heap.size A b) (hl : b.length ≤ 1048576) (hc : b.length ≤ c) :
    Calls Try.prog 28 #[.slice A b.length c] w fun e w' => ((∃ m a, decB b = some m ∧ e = .returned (.tuple #[msgV m a, .int .i64 0]) ∧ MRd w' w'.heap.size m a) ∨ (decB b = none ∧ e = .returned (.tuple #[.agg #[.int .i64 0, .int .i64 0, .int .i64 0, .int .i64 0, .int .i64 0, .int .i64 0, .int .i64 0, .int .i64 0, .bool false, .slice none 0 0, .slice none 0 0, .slice none 0 0], .int .i64 92]))) ∧ Below w.heap.size w w' := by
  have hbA := below1' w (.cells #[.int .i64 0, .int .i64 0, .int .i64 0, .int .i64 0, .int .i64 0, .int .i64 0, .int .i64 0, .int .i64 0, .bool false, .slice none 0 0, .slice none 0 0, .slice none 0 0] 51)
  have hbB := below1' (w.alloc (.cells #[.int .i64 0, .int .i64 0, .int .i64 0, .int .i64 0, .int .i64 0, .int .i64 0, .int .i64 0, .int .i64 0, .bool false, .slice none 0 0, .slice none 0 0, .slice none 0 0] 51)) (.cells #[.slice A b.length c, .int .i64 0, .bool false] 83)
  have hbC := below1' ((w.alloc (.cells #[.int .i64 0, .int .i64 0, .int .i64 0, .int .i64 0, .int .i64 0, .int .i64 0, .int .i64 0, .int .i64 0, .bool false, .slice none 0 0, .slice none 0 0, .slice none 0 0] 51)).alloc (.cells #[.slice A b.length c, .int .i64 0, .bool false] 83)) (.cells #[.int .i64 0, .int .i64 0, .int .i64 0, .int .i64 0, .int .i64 0, .int .i64 0, .int .i64 0, .int .i64 0, .bool false, .slice none 0 0, .slice none 0 0, .slice none 0 0] 51)
  have hsA : (w.alloc (.cells #[.int .i64 0, .int .i64 0, .int .i64 0, .int .i64 0, .int .i64 0, .int .i64 0, .int .i64 0, .int .i64 0, .bool false, .slice none 0 0, .slice none 0 0, .slice none 0 0] 51)).heap.size = w.heap.size + 1 := by simp
  have hsB : ((w.alloc (.cells #[.int .i64 0, .int .i64 0, .int .i64 0, .int .i64 0, .int .i64 0, .int .i64 0, .int .i64 0, .int .i64 0, .bool false, .slice none 0 0, .slice none 0 0, .slice none 0 0] 51)).alloc (.cells #[.slice A b.length c, .int .i64 0, .bool false] 83)).heap.size = w.heap.size + 1 + 1 := by simp
  have hsC : (((w.alloc (.cells #[.int .i64 0, .int .i64 0, .int .i64 0, .int .i64 0, .int .i64 0, .int .i64 0, .int .i64 0, .int .i64 0, .bool false, .slice none 0 0, .slice none 0 0, .slice none 0 0] 51)).alloc (.cells #[.slice A b.length c, .int .i64 0, .bool false] 83)).alloc (.cells #[.int .i64 0, .int .i64 0, .int .i64 0, .int .i64 0, .int .i64 0, .int .i64 0, .int .i64 0, .int .i64 0, .bool false, .slice none 0 0, .slice none 0 0, .slice none 0 0] 51)).heap.size = w.heap.size + 1 + 1 + 1 := by simp
  have HR0 := Lib.hid (((Box.new w #[.int .i64 0, .int .i64 0, .int .i64 0, .int .i64 0, .int .i64 0, .int .i64 0, .int .i64 0, .int .i64 0, .bool false, .slice none 0 0, .slice none 0 0, .slice none 0 0] 51 [.int .i64 0, .int .i64 0, .int .i64 0, .int .i64 0, .int .i64 0, .int .i64 0, .int .i64 0, .int .i64 0, .bool false, .slice none 0 0, .slice none 0 0, .slice none 0 0] rfl).keep hbB).keep hbC)
  have HX0 := Box.new ((w.alloc (.cells #[.int .i64 0, .int .i64 0, .int .i64 0, .int .i64 0, .int .i64 0, .int .i64 0, .int .i64 0, .int .i64 0, .bool false, .slice none 0 0, .slice none 0 0, .slice none 0 0] 51)).alloc (.cells #[.slice A b.length c, .int .i64 0, .bool false] 83)) #[.int .i64 0, .int .i64 0, .int .i64 0, .int .i64 0, .int .i64 0, .int .i64 0, .int .i64 0, .int .i64 0, .bool false, .slice none 0 0, .slice none 0 0, .slice none 0 0] 51 [.int .i64 0, .int .i64 0, .int .i64 0, .int .i64 0, .int .i64 0, .int .i64 0, .int .i64 0, .int .i64 0, .bool false, .slice none 0 0, .slice none 0 0, .slice none 0 0] rfl
  rw [hsB] at HX0
  have HB0 := Lib.hid ((hbA.trans (hbB.mono hbA.size)).trans (hbC.mono (hbA.trans (hbB.mono hbA.size)).size))
  have S0 : XRdr (((w.alloc (.cells #[.int .i64 0, .int .i64 0, .int .i64 0, .int .i64 0, .int .i64 0, .int .i64 0, .int .i64 0, .int .i64 0, .bool false, .slice none 0 0, .slice none 0 0, .slice none 0 0] 51)).alloc (.cells #[.slice A b.length c, .int .i64 0, .bool false] 83)).alloc (.cells #[.int .i64 0, .int .i64 0, .int .i64 0, .int .i64 0, .int .i64 0, .int .i64 0, .int .i64 0, .int .i64 0, .bool false, .slice none 0 0, .slice none 0 0, .slice none 0 0] 51)) (w.heap.size + 1) (w.heap.size + 1) (b, false) := by
    have S : XRdr ((w.alloc (.cells #[.int .i64 0, .int .i64 0, .int .i64 0, .int .i64 0, .int .i64 0, .int .i64 0, .int .i64 0, .int .i64 0, .bool false, .slice none 0 0, .slice none 0 0, .slice none 0 0] 51)).alloc (.cells #[.slice A b.length c, .int .i64 0, .bool false] 83)) (w.alloc (.cells #[.int .i64 0, .int .i64 0, .int .i64 0, .int .i64 0, .int .i64 0, .int .i64 0, .int .i64 0, .int .i64 0, .bool false, .slice none 0 0, .slice none 0 0, .slice none 0 0] 51)).heap.size (w.alloc (.cells #[.int .i64 0, .int .i64 0, .int .i64 0, .int .i64 0, .int .i64 0, .int .i64 0, .int .i64 0, .int .i64 0, .bool false, .slice none 0 0, .slice none 0 0, .slice none 0 0] 51)).heap.size (b, false) :=
      ⟨⟨A, b, c, 0, Cell.new _ _ _ 0 _ rfl, Cell.new _ _ _ 1 _ rfl, Nat.zero_le _, rfl, hl, hc, ((h.below hbA).more (by simp)).below hbB⟩, Cell.new _ _ _ 2 _ rfl, Nat.le_refl _⟩
    rw [hsA] at S
    exact S.below hbC
  have HRD := Lib.hid h
  have C1 := Lib.hid (xbyte_any (w.heap.size + 1) _ (b, false) _ S0)
  have HSC := Lib.hid hsC
  clear h hbA hbB hbC hsA hsB hsC
  go_enter Try.func28, Try.ntmps28
  go_wp2_with fail
  obtain ⟨p, hp⟩ : ∃ p, p = w.heap.size + 1 + 1 := ⟨_, rfl⟩
  obtain ⟨g, hg⟩ : ∃ g, g = w.heap.size + 1 := ⟨_, rfl⟩
  obtain ⟨r, hr⟩ : ∃ r, r = w.heap.size := ⟨_, rfl⟩
  rw [← hp, ← hg, ← hr]
  rw [← hg] at C1
  rw [← hp] at HX0
  rw [← hr] at HR0
  have hpg : p ≠ g := by omega
  have hgp : g ≠ p := by omega
  have hrg : r ≠ g := by omega
  have hrp : r ≠ p := by omega
  have hpr : p ≠ r := by omega
  have hgr : g ≠ r := by omega
  have hgep : g ≤ p := by omega
  have hwg : Hid (w.heap.size ≤ g) := by show _ ≤ _; omega
  have hwp : Hid (w.heap.size ≤ p) := by show _ ≤ _; omega
  have hwr : Hid (w.heap.size ≤ r) := by show _ ≤ _; omega
  have HPB : Hid (p + 1 = w.heap.size + 1 + 1 + 1) := by show _ = _; omega
  replace HX0 := Lib.hid HX0
  have HL0 : Hid (((b, false) : RS).1.length ≤ 1048576) := hl
  have HNR : Hid (r = w.heap.size ∧ g = w.heap.size + 1 ∧ p = w.heap.size + 1 + 1) := ⟨hr, hg, hp⟩
  clear hp hg hr S0
  refine C1.out.mono ?_
  rintro e w1 ⟨rfl, S1, O1⟩
  obtain ⟨n1, hn1⟩ : ∃ x, x = (xbyte (b, false)).1 := ⟨_, rfl⟩
  obtain ⟨t1, ht1⟩ : ∃ x, x = (xbyte (b, false)).2 := ⟨_, rfl⟩
  have HL1 : Hid (t1.1.length ≤ 1048576) := by show _ ≤ _; rw [ht1]; exact Nat.le_trans (xbyte_len _) HL0.out
  rw [← ht1] at S1
  rw [← hn1]
  have HN1 := Lib.hid (And.intro hn1 ht1)
  have HXa := HX0.out.only O1 hpg
  have HRa := HR0.out.only O1 hrg
  have HBa := HB0.out.trans (O1.below hwg.out HB0.out.size)
  obtain ⟨x1, fx1⟩ := HXa 0 _ rfl
  have OU := (Only.refl p w1).set1 0 (.int .i64 (n1 : Nat))
  have HX1 : Hid (Box (w1.setCell ⟨p, 0, none⟩ (.int .i64 (n1 : Nat))) p [.int .i64 (n1 : Nat), .int .i64 0, .int .i64 0, .int .i64 0, .int .i64 0, .int .i64 0, .int .i64 0, .int .i64 0, .bool false, .slice none 0 0, .slice none 0 0, .slice none 0 0]) := HXa.set 0 (.int .i64 (n1 : Nat))
  have HR1 := Lib.hid (HRa.only OU hrp)
  have HB1 := Lib.hid (HBa.trans (OU.below hwp.out HBa.size))
  replace S1 := S1.far OU hgp hgep
  clear hn1 ht1 O1 C1 HXa HRa HBa OU HX0 HR0 HB0 
  have C2 := Lib.hid (xbyte_any g g t1 _ S1)
  go_wp2_with fail
  refine C2.out.mono ?_
  rintro e w2 ⟨rfl, S2, O2⟩
  obtain ⟨n2, hn2⟩ : ∃ x, x = (xbyte t1).1 := ⟨_, rfl⟩
  obtain ⟨t2, ht2⟩ : ∃ x, x = (xbyte t1).2 := ⟨_, rfl⟩
  have HL2 : Hid (t2.1.length ≤ 1048576) := by show _ ≤ _; rw [ht2]; exact Nat.le_trans (xbyte_len _) HL1.out
  rw [← ht2] at S2
  rw [← hn2]
  have HN2 := Lib.hid (And.intro hn2 ht2)
  have HXa := HX1.out.only O2 hpg
  have HRa := HR1.out.only O2 hrg
  have HBa := HB1.out.trans (O2.below hwg.out HB1.out.size)
  obtain ⟨x2, fx2⟩ := HXa 1 _ rfl
  have OU := (Only.refl p w2).set1 1 (.int .i64 (n2 : Nat))
  have HX2 : Hid (Box (w2.setCell ⟨p, 1, none⟩ (.int .i64 (n2 : Nat))) p [.int .i64 (n1 : Nat), .int .i64 (n2 : Nat), .int .i64 0, .int .i64 0, .int .i64 0, .int .i64 0, .int .i64 0, .int .i64 0, .bool false, .slice none 0 0, .slice none 0 0, .slice none 0 0]) := HXa.set 1 (.int .i64 (n2 : Nat))
  have HR2 := Lib.hid (HRa.only OU hrp)
  have HB2 := Lib.hid (HBa.trans (OU.below hwp.out HBa.size))
  replace S2 := S2.far OU hgp hgep
  clear hn2 ht2 O2 C2 HXa HRa HBa OU HX1 HR1 HB1 S1 x1 fx1
  have C3 := Lib.hid (xbyte_any g g t2 _ S2)
  go_wp2_with fail
  refine C3.out.mono ?_
  rintro e w3 ⟨rfl, S3, O3⟩
  obtain ⟨n3, hn3⟩ : ∃ x, x = (xbyte t2).1 := ⟨_, rfl⟩
  obtain ⟨t3, ht3⟩ : ∃ x, x = (xbyte t2).2 := ⟨_, rfl⟩
  have HL3 : Hid (t3.1.length ≤ 1048576) := by show _ ≤ _; rw [ht3]; exact Nat.le_trans (xbyte_len _) HL2.out
  rw [← ht3] at S3
  rw [← hn3]
  have HN3 := Lib.hid (And.intro hn3 ht3)
  have HXa := HX2.out.only O3 hpg
  have HRa := HR2.out.only O3 hrg
  have HBa := HB2.out.trans (O3.below hwg.out HB2.out.size)
  obtain ⟨x3, fx3⟩ := HXa 2 _ rfl
  have OU := (Only.refl p w3).set1 2 (.int .i64 (n3 : Nat))
  have HX3 : Hid (Box (w3.setCell ⟨p, 2, none⟩ (.int .i64 (n3 : Nat))) p [.int .i64 (n1 : Nat), .int .i64 (n2 : Nat), .int .i64 (n3 : Nat), .int .i64 0, .int .i64 0, .int .i64 0, .int .i64 0, .int .i64 0, .bool false, .slice none 0 0, .slice none 0 0, .slice none 0 0]) := HXa.set 2 (.int .i64 (n3 : Nat))
  have HR3 := Lib.hid (HRa.only OU hrp)
  have HB3 := Lib.hid (HBa.trans (OU.below hwp.out HBa.size))
  replace S3 := S3.far OU hgp hgep
  clear hn3 ht3 O3 C3 HXa HRa HBa OU HX2 HR2 HB2 S2 x2 fx2
  have C4 := Lib.hid (xbyte_any g g t3 _ S3)
  go_wp2_with fail
  refine C4.out.mono ?_
  rintro e w4 ⟨rfl, S4, O4⟩
  obtain ⟨n4, hn4⟩ : ∃ x, x = (xbyte t3).1 := ⟨_, rfl⟩
  obtain ⟨t4, ht4⟩ : ∃ x, x = (xbyte t3).2 := ⟨_, rfl⟩
  have HL4 : Hid (t4.1.length ≤ 1048576) := by show _ ≤ _; rw [ht4]; exact Nat.le_trans (xbyte_len _) HL3.out
  rw [← ht4] at S4
  rw [← hn4]
  have HN4 := Lib.hid (And.intro hn4 ht4)
  have HXa := HX3.out.only O4 hpg
  have HRa := HR3.out.only O4 hrg
  have HBa := HB3.out.trans (O4.below hwg.out HB3.out.size)
  obtain ⟨x4, fx4⟩ := HXa 3 _ rfl
  have OU := (Only.refl p w4).set1 3 (.int .i64 (n4 : Nat))
  have HX4 : Hid (Box (w4.setCell ⟨p, 3, none⟩ (.int .i64 (n4 : Nat))) p [.int .i64 (n1 : Nat), .int .i64 (n2 : Nat), .int .i64 (n3 : Nat), .int .i64 (n4 : Nat), .int .i64 0, .int .i64 0, .int .i64 0, .int .i64 0, .bool false, .slice none 0 0, .slice none 0 0, .slice none 0 0]) := HXa.set 3 (.int .i64 (n4 : Nat))
  have HR4 := Lib.hid (HRa.only OU hrp)
  have HB4 := Lib.hid (HBa.trans (OU.below hwp.out HBa.size))
  replace S4 := S4.far OU hgp hgep
  clear hn4 ht4 O4 C4 HXa HRa HBa OU HX3 HR3 HB3 S3 x3 fx3
  have C5 := Lib.hid (xcount_any g g t4 _ S4)
  go_wp2_with fail
  refine C5.out.mono ?_
  rintro e w5 ⟨rfl, S5, O5⟩
  obtain ⟨n5, hn5⟩ : ∃ x, x = (xcount t4).1 := ⟨_, rfl⟩
  obtain ⟨t5, ht5⟩ : ∃ x, x = (xcount t4).2 := ⟨_, rfl⟩
  have HL5 : Hid (t5.1.length ≤ 1048576) := by show _ ≤ _; rw [ht5]; exact Nat.le_trans (xcount_len _) HL4.out
  rw [← ht5] at S5
  have hlt5 : n5 < 72057594037927936 := by rw [hn5]; exact xcount_lt _
  rw [← hn5]
  have HN5 := Lib.hid (And.intro hn5 ht5)
  have HXa := HX4.out.only O5 hpg
  have HRa := HR4.out.only O5 hrg
  have HBa := HB4.out.trans (O5.below hwg.out HB4.out.size)
  obtain ⟨x5, fx5⟩ := HXa 4 _ rfl
  have OU := (Only.refl p w5).set1 4 (.int .i64 (n5 : Nat))
  have HX5 : Hid (Box (w5.setCell ⟨p, 4, none⟩ (.int .i64 (n5 : Nat))) p [.int .i64 (n1 : Nat), .int .i64 (n2 : Nat), .int .i64 (n3 : Nat), .int .i64 (n4 : Nat), .int .i64 (n5 : Nat), .int .i64 0, .int .i64 0, .int .i64 0, .bool false, .slice none 0 0, .slice none 0 0, .slice none 0 0]) := HXa.set 4 (.int .i64 (n5 : Nat))
  have HR5 := Lib.hid (HRa.only OU hrp)
  have HB5 := Lib.hid (HBa.trans (OU.below hwp.out HBa.size))
  replace S5 := S5.far OU hgp hgep
  clear hn5 ht5 O5 C5 HXa HRa HBa OU HX4 HR4 HB4 S4 x4 fx4
  have y0 := (HX5.out 0 _ rfl).1
  go_upto_block 0 with fail
  have HP : Hid (xmsg (b, false) = if n1 = 1 then (⟨n1, n2, n3, n4, n5, (xcount t5).1, (xcount (xcount t5).2).1, 0, false, [], [], []⟩, (xcount (xcount t5).2).2)
      else if n1 = 2 then (⟨n1, n2, n3, n4, n5, 0, 0, 0, ((xbyte t5).1 : Int) == 1, [], [], []⟩, (xbyte t5).2)
      else if n1 = 3 then (⟨n1, n2, n3, n4, n5, (xcount t5).1, (xcount (xcount t5).2).1, (xcount (xcount (xcount t5).2).2).1, false, (xentries (xcount t5).1 (xcount (xcount (xcount (xcount t5).2).2).2).1 (xcount (xcount (xcount (xcount t5).2).2).2).2).1, [], []⟩, (xentries (xcount t5).1 (xcount (xcount (xcount (xcount t5).2).2).2).1 (xcount (xcount (xcount (xcount t5).2).2).2).2).2)
      else if n1 = 4 then (⟨n1, n2, n3, n4, n5, (xcount (xbyte t5).2).1, 0, 0, ((xbyte t5).1 : Int) == 1, [], [], []⟩, (xcount (xbyte t5).2).2)
      else if n1 = 5 then (⟨n1, n2, n3, n4, n5, (xcount t5).1, (xcount (xcount t5).2).1, 0, false, [], intsOf (xtext (xcount (xcount t5).2).2).1, (xtext (xtext (xcount (xcount t5).2).2).2).1⟩, (xtext (xtext (xcount (xcount t5).2).2).2).2)
      else (⟨n1, n2, n3, n4, n5, 0, 0, 0, false, [], [], []⟩, t5)) := by
    show _ = _
    rw [HN5.out.1, HN5.out.2, HN4.out.1, HN4.out.2, HN3.out.1, HN3.out.2, HN2.out.1, HN2.out.2, HN1.out.1, HN1.out.2]
    rfl
  clear HN1 HN2 HN3 HN4 HN5 HL1 HL2 HL3 HL4 HL0
  go_cut [] from 6 (fun wx => ∃ m a t, Hid (RFin w wx b r g p g m a t))
  case first =>
    by_cases hk1 : n1 = 1
    · have hn1 : ((n1 : Int) == 1) = true := by rw [hk1]; rfl
      have C6 := Lib.hid (xcount_any g g t5 _ S5)
      go_wp2_with fail
      refine C6.out.mono ?_
      rintro e w6 ⟨rfl, S6, O6⟩
      obtain ⟨n6, hn6⟩ : ∃ x, x = (xcount t5).1 := ⟨_, rfl⟩
      obtain ⟨t6, ht6⟩ : ∃ x, x = (xcount t5).2 := ⟨_, rfl⟩
      have HL6 : Hid (t6.1.length ≤ 1048576) := by show _ ≤ _; rw [ht6]; exact Nat.le_trans (xcount_len _) HL5.out
      rw [← ht6] at S6
      have hlt6 : n6 < 72057594037927936 := by rw [hn6]; exact xcount_lt _
      rw [← hn6]
      have HN6 := Lib.hid (And.intro hn6 ht6)
      have HXa := HX5.out.only O6 hpg
      have HRa := HR5.out.only O6 hrg
      have HBa := HB5.out.trans (O6.below hwg.out HB5.out.size)
      obtain ⟨x6, fx6⟩ := HXa 5 _ rfl
      have OU := (Only.refl p w6).set1 5 (.int .i64 (n6 : Nat))
      have HX6 : Hid (Box (w6.setCell ⟨p, 5, none⟩ (.int .i64 (n6 : Nat))) p [.int .i64 (n1 : Nat), .int .i64 (n2 : Nat), .int .i64 (n3 : Nat), .int .i64 (n4 : Nat), .int .i64 (n5 : Nat), .int .i64 (n6 : Nat), .int .i64 0, .int .i64 0, .bool false, .slice none 0 0, .slice none 0 0, .slice none 0 0]) := HXa.set 5 (.int .i64 (n6 : Nat))
      have HR6 := Lib.hid (HRa.only OU hrp)
      have HB6 := Lib.hid (HBa.trans (OU.below hwp.out HBa.size))
      replace S6 := S6.far OU hgp hgep
      clear hn6 ht6 O6 C6 HXa HRa HBa OU HX5 HR5 HB5 S5 x5 fx5
      have C7 := Lib.hid (xcount_any g g t6 _ S6)
      go_wp2_with fail
      refine C7.out.mono ?_
      rintro e w7 ⟨rfl, S7, O7⟩
      obtain ⟨n7, hn7⟩ : ∃ x, x = (xcount t6).1 := ⟨_, rfl⟩
      obtain ⟨t7, ht7⟩ : ∃ x, x = (xcount t6).2 := ⟨_, rfl⟩
      have HL7 : Hid (t7.1.length ≤ 1048576) := by show _ ≤ _; rw [ht7]; exact Nat.le_trans (xcount_len _) HL6.out
      rw [← ht7] at S7
      have hlt7 : n7 < 72057594037927936 := by rw [hn7]; exact xcount_lt _
      rw [← hn7]
      have HN7 := Lib.hid (And.intro hn7 ht7)
      have HXa := HX6.out.only O7 hpg
      have HRa := HR6.out.only O7 hrg
      have HBa := HB6.out.trans (O7.below hwg.out HB6.out.size)
      obtain ⟨x7, fx7⟩ := HXa 6 _ rfl
      have OU := (Only.refl p w7).set1 6 (.int .i64 (n7 : Nat))
      have HX7 : Hid (Box (w7.setCell ⟨p, 6, none⟩ (.int .i64 (n7 : Nat))) p [.int .i64 (n1 : Nat), .int .i64 (n2 : Nat), .int .i64 (n3 : Nat), .int .i64 (n4 : Nat), .int .i64 (n5 : Nat), .int .i64 (n6 : Nat), .int .i64 (n7 : Nat), .int .i64 0, .bool false, .slice none 0 0, .slice none 0 0, .slice none 0 0]) := HXa.set 6 (.int .i64 (n7 : Nat))
      have HR7 := Lib.hid (HRa.only OU hrp)
      have HB7 := Lib.hid (HBa.trans (OU.below hwp.out HBa.size))
      replace S7 := S7.far OU hgp hgep
      clear hn7 ht7 O7 C7 HXa HRa HBa OU HX6 HR6 HB6 S6 x6 fx6
      have HPM : Hid (xmsg (b, false) = (⟨n1, n2, n3, n4, n5, n6, n7, 0, false, [], [], []⟩, t7)) := by show _ = _; rw [HP.out, if_pos hk1, ← HN6.out.1, ← HN6.out.2, ← HN7.out.1, ← HN7.out.2]
      have HE := Lib.hid (RFin.mk (w := w) (p := p) (g := g) (r := r) (a := ⟨none, 0, none, 0, none, 0⟩) HPM.out S7 HX7.out HR7.out (MGot.none_ _ _ _ _ rfl rfl rfl) ⟨Nat.zero_le _, (fun e h => nomatch h), Nat.zero_le _, Nat.zero_le _⟩ HB7.out)
      clear S7 HX7 HR7 HB7 HP HPM
      go_wp2_with fail
      go_meet
      exact ⟨_, _, _, HE⟩
    by_cases hk2 : n1 = 2
    · have hn1 : ((n1 : Int) == 1) = false := by rw [beq_eq_false_iff_ne]; omega
      have hn2 : ((n1 : Int) == 2) = true := by rw [hk2]; rfl
      have C6 := Lib.hid (xbyte_any g g t5 _ S5)
      go_wp2_with fail
      refine C6.out.mono ?_
      rintro e w6 ⟨rfl, S6, O6⟩
      obtain ⟨n6, hn6⟩ : ∃ x, x = (xbyte t5).1 := ⟨_, rfl⟩
      obtain ⟨t6, ht6⟩ : ∃ x, x = (xbyte t5).2 := ⟨_, rfl⟩
      have HL6 : Hid (t6.1.length ≤ 1048576) := by show _ ≤ _; rw [ht6]; exact Nat.le_trans (xbyte_len _) HL5.out
      rw [← ht6] at S6
      rw [← hn6]
      have HN6 := Lib.hid (And.intro hn6 ht6)
      have HXa := HX5.out.only O6 hpg
      have HRa := HR5.out.only O6 hrg
      have HBa := HB5.out.trans (O6.below hwg.out HB5.out.size)
      obtain ⟨x6, fx6⟩ := HXa 8 _ rfl
      have OU := (Only.refl p w6).set1 8 (.bool ((n6 : Int) == 1))
      have HX6 : Hid (Box (w6.setCell ⟨p, 8, none⟩ (.bool ((n6 : Int) == 1))) p [.int .i64 (n1 : Nat), .int .i64 (n2 : Nat), .int .i64 (n3 : Nat), .int .i64 (n4 : Nat), .int .i64 (n5 : Nat), .int .i64 0, .int .i64 0, .int .i64 0, .bool ((n6 : Int) == 1), .slice none 0 0, .slice none 0 0, .slice none 0 0]) := HXa.set 8 (.bool ((n6 : Int) == 1))
      have HR6 := Lib.hid (HRa.only OU hrp)
      have HB6 := Lib.hid (HBa.trans (OU.below hwp.out HBa.size))
      replace S6 := S6.far OU hgp hgep
      clear hn6 ht6 O6 C6 HXa HRa HBa OU HX5 HR5 HB5 S5 x5 fx5
      have HPM : Hid (xmsg (b, false) = (⟨n1, n2, n3, n4, n5, 0, 0, 0, (n6 : Int) == 1, [], [], []⟩, t6)) := by show _ = _; rw [HP.out, if_neg hk1, if_pos hk2, ← HN6.out.1, ← HN6.out.2]
      have HE := Lib.hid (RFin.mk (w := w) (p := p) (g := g) (r := r) (a := ⟨none, 0, none, 0, none, 0⟩) HPM.out S6 HX6.out HR6.out (MGot.none_ _ _ _ _ rfl rfl rfl) ⟨Nat.zero_le _, (fun e h => nomatch h), Nat.zero_le _, Nat.zero_le _⟩ HB6.out)
      clear S6 HX6 HR6 HB6 HP HPM
      go_wp2_with fail
      go_meet
      exact ⟨_, _, _, HE⟩
    by_cases hk3 : n1 = 3
    · have hn1 : ((n1 : Int) == 1) = false := by rw [beq_eq_false_iff_ne]; omega
      have hn2 : ((n1 : Int) == 2) = false := by rw [beq_eq_false_iff_ne]; omega
      have hn3 : ((n1 : Int) == 3) = true := by rw [hk3]; rfl
      have C6 := Lib.hid (xcount_any g g t5 _ S5)
      go_wp2_with fail
      refine C6.out.mono ?_
      rintro e w6 ⟨rfl, S6, O6⟩
      obtain ⟨n6, hn6⟩ : ∃ x, x = (xcount t5).1 := ⟨_, rfl⟩
      obtain ⟨t6, ht6⟩ : ∃ x, x = (xcount t5).2 := ⟨_, rfl⟩
      have HL6 : Hid (t6.1.length ≤ 1048576) := by show _ ≤ _; rw [ht6]; exact Nat.le_trans (xcount_len _) HL5.out
      rw [← ht6] at S6
      have hlt6 : n6 < 72057594037927936 := by rw [hn6]; exact xcount_lt _
      rw [← hn6]
      have HN6 := Lib.hid (And.intro hn6 ht6)
      have HXa := HX5.out.only O6 hpg
      have HRa := HR5.out.only O6 hrg
      have HBa := HB5.out.trans (O6.below hwg.out HB5.out.size)
      obtain ⟨x6, fx6⟩ := HXa 5 _ rfl
      have OU := (Only.refl p w6).set1 5 (.int .i64 (n6 : Nat))
      have HX6 : Hid (Box (w6.setCell ⟨p, 5, none⟩ (.int .i64 (n6 : Nat))) p [.int .i64 (n1 : Nat), .int .i64 (n2 : Nat), .int .i64 (n3 : Nat), .int .i64 (n4 : Nat), .int .i64 (n5 : Nat), .int .i64 (n6 : Nat), .int .i64 0, .int .i64 0, .bool false, .slice none 0 0, .slice none 0 0, .slice none 0 0]) := HXa.set 5 (.int .i64 (n6 : Nat))
      have HR6 := Lib.hid (HRa.only OU hrp)
      have HB6 := Lib.hid (HBa.trans (OU.below hwp.out HBa.size))
      replace S6 := S6.far OU hgp hgep
      clear hn6 ht6 O6 C6 HXa HRa HBa OU HX5 HR5 HB5 S5 x5 fx5
      have C7 := Lib.hid (xcount_any g g t6 _ S6)
      go_wp2_with fail
      refine C7.out.mono ?_
      rintro e w7 ⟨rfl, S7, O7⟩
      obtain ⟨n7, hn7⟩ : ∃ x, x = (xcount t6).1 := ⟨_, rfl⟩
      obtain ⟨t7, ht7⟩ : ∃ x, x = (xcount t6).2 := ⟨_, rfl⟩
      have HL7 : Hid (t7.1.length ≤ 1048576) := by show _ ≤ _; rw [ht7]; exact Nat.le_trans (xcount_len _) HL6.out
      rw [← ht7] at S7
      have hlt7 : n7 < 72057594037927936 := by rw [hn7]; exact xcount_lt _
      rw [← hn7]
      have HN7 := Lib.hid (And.intro hn7 ht7)
      have HXa := HX6.out.only O7 hpg
      have HRa := HR6.out.only O7 hrg
      have HBa := HB6.out.trans (O7.below hwg.out HB6.out.size)
      obtain ⟨x7, fx7⟩ := HXa 6 _ rfl
      have OU := (Only.refl p w7).set1 6 (.int .i64 (n7 : Nat))
      have HX7 : Hid (Box (w7.setCell ⟨p, 6, none⟩ (.int .i64 (n7 : Nat))) p [.int .i64 (n1 : Nat), .int .i64 (n2 : Nat), .int .i64 (n3 : Nat), .int .i64 (n4 : Nat), .int .i64 (n5 : Nat), .int .i64 (n6 : Nat), .int .i64 (n7 : Nat), .int .i64 0, .bool false, .slice none 0 0, .slice none 0 0, .slice none 0 0]) := HXa.set 6 (.int .i64 (n7 : Nat))
      have HR7 := Lib.hid (HRa.only OU hrp)
      have HB7 := Lib.hid (HBa.trans (OU.below hwp.out HBa.size))
      replace S7 := S7.far OU hgp hgep
      clear hn7 ht7 O7 C7 HXa HRa HBa OU HX6 HR6 HB6 S6 x6 fx6
      have C8 := Lib.hid (xcount_any g g t7 _ S7)
      go_wp2_with fail
      refine C8.out.mono ?_
      rintro e w8 ⟨rfl, S8, O8⟩
      obtain ⟨n8, hn8⟩ : ∃ x, x = (xcount t7).1 := ⟨_, rfl⟩
      obtain ⟨t8, ht8⟩ : ∃ x, x = (xcount t7).2 := ⟨_, rfl⟩
      have HL8 : Hid (t8.1.length ≤ 1048576) := by show _ ≤ _; rw [ht8]; exact Nat.le_trans (xcount_len _) HL7.out
      rw [← ht8] at S8
      have hlt8 : n8 < 72057594037927936 := by rw [hn8]; exact xcount_lt _
      rw [← hn8]
      have HN8 := Lib.hid (And.intro hn8 ht8)
      have HXa := HX7.out.only O8 hpg
      have HRa := HR7.out.only O8 hrg
      have HBa := HB7.out.trans (O8.below hwg.out HB7.out.size)
      obtain ⟨x8, fx8⟩ := HXa 7 _ rfl
      have OU := (Only.refl p w8).set1 7 (.int .i64 (n8 : Nat))
      have HX8 : Hid (Box (w8.setCell ⟨p, 7, none⟩ (.int .i64 (n8 : Nat))) p [.int .i64 (n1 : Nat), .int .i64 (n2 : Nat), .int .i64 (n3 : Nat), .int .i64 (n4 : Nat), .int .i64 (n5 : Nat), .int .i64 (n6 : Nat), .int .i64 (n7 : Nat), .int .i64 (n8 : Nat), .bool false, .slice none 0 0, .slice none 0 0, .slice none 0 0]) := HXa.set 7 (.int .i64 (n8 : Nat))
      have HR8 := Lib.hid (HRa.only OU hrp)
      have HB8 := Lib.hid (HBa.trans (OU.below hwp.out HBa.size))
      replace S8 := S8.far OU hgp hgep
      clear hn8 ht8 O8 C8 HXa HRa HBa OU HX7 HR7 HB7 S7 x7 fx7
      have C9 := Lib.hid (xcount_any g g t8 _ S8)
      go_wp2_with fail
      refine C9.out.mono ?_
      rintro e w9 ⟨rfl, S9, O9⟩
      obtain ⟨n9, hn9⟩ : ∃ x, x = (xcount t8).1 := ⟨_, rfl⟩
      obtain ⟨t9, ht9⟩ : ∃ x, x = (xcount t8).2 := ⟨_, rfl⟩
      have HL9 : Hid (t9.1.length ≤ 1048576) := by show _ ≤ _; rw [ht9]; exact Nat.le_trans (xcount_len _) HL8.out
      rw [← ht9] at S9
      have hlt9 : n9 < 72057594037927936 := by rw [hn9]; exact xcount_lt _
      rw [← hn9]
      have HN9 := Lib.hid (And.intro hn9 ht9)
      have HXa := HX8.out.only O9 hpg
      have HRa := HR8.out.only O9 hrg
      have HBa := HB8.out.trans (O9.below hwg.out HB8.out.size)
      have HX9 := Lib.hid HXa
      have HR9 := Lib.hid HRa
      have HB9 := Lib.hid HBa
      clear hn9 ht9 O9 C9 HXa HRa HBa HX8 HR8 HB8 S8
      have S0' : Hid (∃ (es : List EV) (s' : RS), Got w9 (p + 1) g (.slice none 0 0) es ∧ es.length = 0 ∧ XRdr w9 g g s' ∧ Box w9 p [.int .i64 (n1 : Nat), .int .i64 (n2 : Nat), .int .i64 (n3 : Nat), .int .i64 (n4 : Nat), .int .i64 (n5 : Nat), .int .i64 (n6 : Nat), .int .i64 (n7 : Nat), .int .i64 (n8 : Nat), .bool false, .slice none 0 0, .slice none 0 0, .slice none 0 0] ∧ Box w9 r [.int .i64 0, .int .i64 0, .int .i64 0, .int .i64 0, .int .i64 0, .int .i64 0, .int .i64 0, .int .i64 0, .bool false, .slice none 0 0, .slice none 0 0, .slice none 0 0] ∧ Below w.heap.size w w9 ∧ xentries n6 n9 t9 = xeF n6 (min n9 65 - 0) 0 (es.map (·.1)) s' ∧ s'.1.length ≤ 1048576) :=
        ⟨[], t9, ⟨World.ownsRow_nil _ _ _ _, (fun e h => nomatch h), (fun h => nomatch h)⟩, rfl, S9, HX9.out, HR9.out, HB9.out, rfl, HL9.out⟩
      clear S9 HX9 HR9 HB9
      go_wp2_with fail
      clear x8 fx8
      go_loopw [8] (fun s8 wr => ∃ (k : Nat) (eA : Option Addr) (eD : Nat), s8 = .int .i64 k ∧ k ≤ 65 ∧ Hid (∃ (es : List EV) (s' : RS), Got wr (p + 1) g (.slice eA k eD) es ∧ es.length = k ∧ XRdr wr g g s' ∧ Box wr p [.int .i64 (n1 : Nat), .int .i64 (n2 : Nat), .int .i64 (n3 : Nat), .int .i64 (n4 : Nat), .int .i64 (n5 : Nat), .int .i64 (n6 : Nat), .int .i64 (n7 : Nat), .int .i64 (n8 : Nat), .bool false, .slice eA k eD, .slice none 0 0, .slice none 0 0] ∧ Box wr r [.int .i64 0, .int .i64 0, .int .i64 0, .int .i64 0, .int .i64 0, .int .i64 0, .int .i64 0, .int .i64 0, .bool false, .slice none 0 0, .slice none 0 0, .slice none 0 0] ∧ Below w.heap.size w wr ∧ xentries n6 n9 t9 = xeF n6 (min n9 65 - k) k (es.map (·.1)) s' ∧ s'.1.length ≤ 1048576)) (fun s8 _ => 65 - (intOf s8).toNat)
      case atStart => exact ⟨0, none, 0, rfl, by omega, S0'⟩
      case round =>
        clear S0'
        obtain ⟨k, eA, eD, rfl, hk, HI⟩ := hrel
        obtain ⟨es, ⟨l', b'⟩, hG, hes, hS, hX, hR, hB, hE, hsl⟩ := HI.out
        have Q := hS.bad
        obtain ⟨q2, fq2⟩ := Q
        simp only at q2 hsl
        by_cases h1 : k < n9
        rotate_left
        · have h1' : decide ((k : Int) < (n9 : Int)) = false := by simp; omega
          have HEn : Hid (xentries n6 n9 t9 = (es.map (·.1), (l', b'))) := by
            show _ = _
            rw [hE]
            rw [show min n9 65 - k = 0 by omega]; rfl
          have hSM : Hid (Small ⟨n1, n2, n3, n4, n5, n6, n7, n8, false, es.map (·.1), [], []⟩) := by
            have h9 := xentries_small n6 n9 t9 HL9.out
            rw [HEn.out] at h9
            exact ⟨h9.1, h9.2, Nat.zero_le _, Nat.zero_le _⟩
          have HPM : Hid (xmsg (b, false) = (⟨n1, n2, n3, n4, n5, n6, n7, n8, false, es.map (·.1), [], []⟩, (l', b'))) := by show _ = _; rw [HP.out, if_neg hk1, if_neg hk2, if_pos hk3, ← HN6.out.1, ← HN6.out.2, ← HN7.out.1, ← HN7.out.2, ← HN8.out.1, ← HN8.out.2, ← HN9.out.1, ← HN9.out.2, HEn.out]
          have HE := Lib.hid (RFin.mk (w := w) (p := p) (g := g) (r := r) (a := ⟨eA, eD, none, 0, none, 0⟩) HPM.out hS (by simp only [msgC, List.length_map, hes, List.length_nil]; exact hX) hR ⟨⟨es, rfl, hes ▸ hG, fun e he q o h1 h2 => ((hG.rd e he).2 q o h1 h2).2⟩, World.ownsRow_nil _ _ _ _, RdN.nil_ _ _ _, fun _ _ _ h => absurd rfl h⟩ hSM.out hB)
          clear hS hX hR hG hB hE HI HP HPM
          go_wp2_with fail
          go_meet
          exact ⟨_, _, _, HE⟩
        by_cases h2 : k ≤ 64
        rotate_left
        · have h1' : (k : Int) < (n9 : Int) := by omega
          have h2' : decide ((k : Int) ≤ 64) = false := by simp; omega
          have HEn : Hid (xentries n6 n9 t9 = (es.map (·.1), (l', b'))) := by
            show _ = _
            rw [hE]
            rw [show min n9 65 - k = 0 by omega]; rfl
          have hSM : Hid (Small ⟨n1, n2, n3, n4, n5, n6, n7, n8, false, es.map (·.1), [], []⟩) := by
            have h9 := xentries_small n6 n9 t9 HL9.out
            rw [HEn.out] at h9
            exact ⟨h9.1, h9.2, Nat.zero_le _, Nat.zero_le _⟩
          have HPM : Hid (xmsg (b, false) = (⟨n1, n2, n3, n4, n5, n6, n7, n8, false, es.map (·.1), [], []⟩, (l', b'))) := by show _ = _; rw [HP.out, if_neg hk1, if_neg hk2, if_pos hk3, ← HN6.out.1, ← HN6.out.2, ← HN7.out.1, ← HN7.out.2, ← HN8.out.1, ← HN8.out.2, ← HN9.out.1, ← HN9.out.2, HEn.out]
          have HE := Lib.hid (RFin.mk (w := w) (p := p) (g := g) (r := r) (a := ⟨eA, eD, none, 0, none, 0⟩) HPM.out hS (by simp only [msgC, List.length_map, hes, List.length_nil]; exact hX) hR ⟨⟨es, rfl, hes ▸ hG, fun e he q o h1 h2 => ((hG.rd e he).2 q o h1 h2).2⟩, World.ownsRow_nil _ _ _ _, RdN.nil_ _ _ _, fun _ _ _ h => absurd rfl h⟩ hSM.out hB)
          clear hS hX hR hG hB hE HI HP HPM
          go_wp2_with fail
          go_meet
          exact ⟨_, _, _, HE⟩
        cases b' with
        | true =>
          have h1' : (k : Int) < (n9 : Int) := by omega
          have h2' : (k : Int) ≤ 64 := by omega
          have HEn : Hid (xentries n6 n9 t9 = (es.map (·.1), (l', true))) := by
            show _ = _
            rw [hE]
            rcases min n9 65 - k with _ | f
            · rfl
            · rw [xeF, if_pos rfl]
          have hSM : Hid (Small ⟨n1, n2, n3, n4, n5, n6, n7, n8, false, es.map (·.1), [], []⟩) := by
            have h9 := xentries_small n6 n9 t9 HL9.out
            rw [HEn.out] at h9
            exact ⟨h9.1, h9.2, Nat.zero_le _, Nat.zero_le _⟩
          have HPM : Hid (xmsg (b, false) = (⟨n1, n2, n3, n4, n5, n6, n7, n8, false, es.map (·.1), [], []⟩, (l', true))) := by show _ = _; rw [HP.out, if_neg hk1, if_neg hk2, if_pos hk3, ← HN6.out.1, ← HN6.out.2, ← HN7.out.1, ← HN7.out.2, ← HN8.out.1, ← HN8.out.2, ← HN9.out.1, ← HN9.out.2, HEn.out]
          have HE := Lib.hid (RFin.mk (w := w) (p := p) (g := g) (r := r) (a := ⟨eA, eD, none, 0, none, 0⟩) HPM.out hS (by simp only [msgC, List.length_map, hes, List.length_nil]; exact hX) hR ⟨⟨es, rfl, hes ▸ hG, fun e he q o h1 h2 => ((hG.rd e he).2 q o h1 h2).2⟩, World.ownsRow_nil _ _ _ _, RdN.nil_ _ _ _, fun _ _ _ h => absurd rfl h⟩ hSM.out hB)
          clear hS hX hR hG hB hE HI HP HPM
          go_wp2_with fail
          go_meet
          exact ⟨_, _, _, HE⟩
        | false =>
          have hw1 : IntKind.i64.wrap ((n6 : Int) + 1) = (n6 : Int) + 1 := IntWalk.i64_in _ (by omega)
          have hw2 : IntKind.i64.wrap ((n6 : Int) + 1 + (k : Int)) = (n6 : Int) + 1 + (k : Int) := IntWalk.i64_in _ (by omega)
          have y5 := (hX 5 (.int .i64 (n6 : Nat)) rfl).1
          have hpw := (hX 5 (.int .i64 (n6 : Nat)) rfl).lt
          have hba := below1' wr (.cells #[.int .i64 ((n6 : Int) + 1 + (k : Int)), .int .i64 0, .int .i64 0, .slice none 0 0] 74)
          obtain ⟨wu, hwu⟩ : ∃ x, x = wr.alloc (.cells #[.int .i64 ((n6 : Int) + 1 + (k : Int)), .int .i64 0, .int .i64 0, .slice none 0 0] 74) := ⟨_, rfl⟩
          have E0 := Box.new wr #[.int .i64 ((n6 : Int) + 1 + (k : Int)), .int .i64 0, .int .i64 0, .slice none 0 0] 74 [.int .i64 ((n6 : Int) + 1 + (k : Int)), .int .i64 0, .int .i64 0, .slice none 0 0] rfl
          obtain ⟨u, hu⟩ : ∃ u, u = wr.heap.size := ⟨_, rfl⟩
          rw [← hwu, ← hu] at E0
          rw [← hwu] at hba
          have hgu : g ≠ u := by omega
          have hug : u ≠ g := by omega
          have hpu : p ≠ u := by omega
          have hleu : g ≤ u := by omega
          have HUl : Hid (wr.heap.size ≤ u) := by show _ ≤ _; omega
          have HO0 := Lib.hid (Only.of_below (g := g) hba)
          have S0 := hS.below hba
          have K1 := Lib.hid (xcount_any g g (l', false) wu S0)
          have HS3 := Lib.hid (And.intro hG (And.intro hX (And.intro hR hB)))
          have HES := Lib.hid hes
          have HEQ := Lib.hid hE
          have HLS := Lib.hid hsl
          have HU := Lib.hid hu
          have hrow : Hid (∀ q, (Value.slice eA k eD).ownBlock = some q → p + 1 ≤ q ∧ q < wr.heap.size) := fun q hq => World.ownsRow.lt hG.own q hq
          have hk65 : k ≤ 64 := h2
          clear hba hS hG hX hR hB hE hes hsl HI hk
          go_wp2_with fail
          rw [← hwu, ← hu]
          clear hwu hu y5
          refine K1.out.mono ?_
          rintro e w1 ⟨rfl, S1, O1⟩
          obtain ⟨tN, htN⟩ : ∃ x, x = (xcount (l', false)).1 := ⟨_, rfl⟩
          obtain ⟨s1, hs1⟩ : ∃ x, x = (xcount (l', false)).2 := ⟨_, rfl⟩
          have HL1 : Hid (s1.1.length ≤ 1048576) := by show _ ≤ _; rw [hs1]; exact Nat.le_trans (xcount_len _) HLS.out
          rw [← hs1] at S1
          rw [← htN]
          have HT1 := Lib.hid (And.intro htN hs1)
          have E1 := E0.only O1 hug
          obtain ⟨z1, fz1⟩ := E1 1 (.int .i64 0) rfl
          have OU := (Only.refl u w1).set1 1 (.int .i64 (tN : Nat))
          have HO1 := Lib.hid ((HO0.out.trans O1).after OU HUl.out)
          have E1' : Box (w1.setCell ⟨u, 1, none⟩ (.int .i64 (tN : Nat))) u [.int .i64 ((n6 : Int) + 1 + (k : Int)), .int .i64 (tN : Nat), .int .i64 0, .slice none 0 0] := E1.set 1 (.int .i64 (tN : Nat))
          have K2 := Lib.hid (xbyte_any g g s1 _ (S1.far OU hgu hleu))
          clear htN hs1 S1 O1 OU E1 E0 S0 HO0 K1
          go_wp2_with fail
          clear z1 fz1
          refine K2.out.mono ?_
          rintro e w2 ⟨rfl, S2, O2⟩
          obtain ⟨yN, hyN⟩ : ∃ x, x = (xbyte s1).1 := ⟨_, rfl⟩
          obtain ⟨s2, hs2⟩ : ∃ x, x = (xbyte s1).2 := ⟨_, rfl⟩
          have HL2 : Hid (s2.1.length ≤ 1048576) := by show _ ≤ _; rw [hs2]; exact Nat.le_trans (xbyte_len _) HL1.out
          rw [← hs2] at S2
          rw [← hyN]
          have HT2 := Lib.hid (And.intro hyN hs2)
          have E2 := E1'.only O2 hug
          obtain ⟨z2, fz2⟩ := E2 2 (.int .i64 0) rfl
          have OU := (Only.refl u w2).set1 2 (.int .i64 (yN : Nat))
          have HO2 := Lib.hid ((HO1.out.trans O2).after OU HUl.out)
          have E2' : Box (w2.setCell ⟨u, 2, none⟩ (.int .i64 (yN : Nat))) u [.int .i64 ((n6 : Int) + 1 + (k : Int)), .int .i64 (tN : Nat), .int .i64 (yN : Nat), .slice none 0 0] := E2.set 2 (.int .i64 (yN : Nat))
          have HuW := Lib.hid (E2' 2 _ rfl).lt
          have K3 := Lib.hid (xtext_any g g s2 _ (S2.far OU hgu hleu))
          clear hyN hs2 S2 O2 OU E2 E1' HO1 K2
          go_wp2_with fail
          clear z2 fz2
          refine K3.out.mono ?_
          rintro e w3 ⟨dA, dc, rfl, N3, S3, O3, fr3⟩
          obtain ⟨dl, hdl⟩ : ∃ x, x = (xtext s2).1 := ⟨_, rfl⟩
          obtain ⟨s3, hs3⟩ : ∃ x, x = (xtext s2).2 := ⟨_, rfl⟩
          have HL3 : Hid (s3.1.length ≤ 1048576) := by show _ ≤ _; rw [hs3]; exact Nat.le_trans (xtext_len _) HL2.out
          rw [← hs3] at S3
          rw [← hdl] at N3 fr3
          rw [← hdl]
          have HT3 := Lib.hid (And.intro hdl hs3)
          have E3 := E2'.only O3 hug
          obtain ⟨z3, fz3⟩ := E3 3 (.slice none 0 0) rfl
          have OU := (Only.refl u w3).set1 3 (.slice dA dl.length dc)
          have HO3 := Lib.hid ((HO2.out.trans O3).after OU HUl.out)
          have E3' : Box (w3.setCell ⟨u, 3, none⟩ (.slice dA dl.length dc)) u [.int .i64 ((n6 : Int) + 1 + (k : Int)), .int .i64 (tN : Nat), .int .i64 (yN : Nat), .slice dA dl.length dc] := E3.set 3 (.slice dA dl.length dc)
          have HN3 := Lib.hid (N3.off fr3 OU HuW.out)
          have HS3' := Lib.hid (S3.far OU hgu hleu)
          have HFR := Lib.hid fr3
          obtain ⟨wv, hwv⟩ : ∃ x, x = w3.setCell ⟨u, 3, none⟩ (.slice dA dl.length dc) := ⟨_, rfl⟩
          rw [← hwv] at HO3 E3' HN3 HS3'
          have v0 := (E3' 0 _ rfl).1
          have v1 := (E3' 1 _ rfl).1
          have v2 := (E3' 2 _ rfl).1
          have v3 := (E3' 3 _ rfl).1
          obtain ⟨G0, X0, R0, B0⟩ := HS3.out
          have HG3 := Lib.hid (G0.only HO3.out)
          have X3 := X0.only HO3.out hpg
          have R3 := Lib.hid (R0.only HO3.out hrg)
          have B3 := Lib.hid (B0.trans (HO3.out.below hwg.out B0.size))
          have y9 := (X3 9 (.slice eA k eD) rfl).1
          have HX3 := Lib.hid X3
          have hev : Hid (∀ q o, dA = some ⟨q, o, none⟩ → dl ≠ [] → (Value.slice eA k eD).ownBlock ≠ some q ∧ p + 1 ≤ q) := fun q o h1 h2 => by
            have h3 := HFR.out q o h1 h2
            have h4 := HuW.out
            have h5 := HUl.out
            exact ⟨fun h => by have := (hrow.out q h).2; omega, by omega⟩
          have hk3 : Hid (k < 1000) := by show _ < _; omega
          have hg5 : Hid (g < wv.heap.size) := HS3'.out.bad.lt
          have hb5 : Hid (p + 1 ≤ wv.heap.size) := (X3 9 (.slice eA k eD) rfl).lt
          clear hdl hs3 N3 S3 O3 OU E3 E2' HO2 K3 fr3 X3 G0 X0 R0 B0
          go_upto_region 27 with fail
          rw [← hwv]
          clear hwv z3 fz3
          go_wp2_with (at_builtin; refine app_entry wv (p + 1) g (.slice eA k eD) k es (⟨(n6 : Int) + 1 + k, tN, yN, dl⟩, dA, dc) rfl (.tmp 96) (.tmp 98) rfl rfl wv.heap.size rfl rfl HG3.out HN3.out hev.out HES.out.symm hk3.out hb5.out hg5.out ?_)
          intro gq cap w6 G6 g6
          have hpr6 : some p ≠ (Value.slice eA k eD).ownBlock := fun h => by have := (hrow.out p h.symm).1; omega
          have hrr6 : some r ≠ (Value.slice eA k eD).ownBlock := fun h => by have := (hrow.out r h.symm).1; have := HNR.out; omega
          have hgr6 : (Value.slice eA k eD).ownBlock ≠ some g := fun h => by have := (hrow.out g h).1; omega
          have X6 := HX3.out.grown g6 hpr6
          have R6 := R3.out.grown g6 hrr6
          have S6 := HS3'.out.grown g6 hgr6 (fun q hq => by have := (hrow.out q hq).1; omega)
          have B6 := ((Only.of_below (g := g) B3.out).grown g6 (fun q hq => by have := (hrow.out q hq).1; have := hwp.out; omega)).below hwg.out (Nat.le_refl _)
          have OU := (Only.refl p w6).set1 9 (.slice (some ⟨gq, 0, none⟩) (k + 1) cap)
          obtain ⟨y9, fy9⟩ := X6 9 (.slice eA k eD) rfl
          have HF : Hid (∃ (es : List EV) (s' : RS), Got (w6.setCell ⟨p, 9, none⟩ (.slice (some ⟨gq, 0, none⟩) (k + 1) cap)) (p + 1) g (.slice (some ⟨gq, 0, none⟩) (k + 1) cap) es ∧ es.length = k + 1 ∧ XRdr (w6.setCell ⟨p, 9, none⟩ (.slice (some ⟨gq, 0, none⟩) (k + 1) cap)) g g s' ∧ Box (w6.setCell ⟨p, 9, none⟩ (.slice (some ⟨gq, 0, none⟩) (k + 1) cap)) p [.int .i64 (n1 : Nat), .int .i64 (n2 : Nat), .int .i64 (n3 : Nat), .int .i64 (n4 : Nat), .int .i64 (n5 : Nat), .int .i64 (n6 : Nat), .int .i64 (n7 : Nat), .int .i64 (n8 : Nat), .bool false, .slice (some ⟨gq, 0, none⟩) (k + 1) cap, .slice none 0 0, .slice none 0 0] ∧ Box (w6.setCell ⟨p, 9, none⟩ (.slice (some ⟨gq, 0, none⟩) (k + 1) cap)) r [.int .i64 0, .int .i64 0, .int .i64 0, .int .i64 0, .int .i64 0, .int .i64 0, .int .i64 0, .int .i64 0, .bool false, .slice none 0 0, .slice none 0 0, .slice none 0 0] ∧ Below w.heap.size w (w6.setCell ⟨p, 9, none⟩ (.slice (some ⟨gq, 0, none⟩) (k + 1) cap)) ∧ xentries n6 n9 t9 = xeF n6 (min n9 65 - (k + 1)) (k + 1) (es.map (·.1)) s' ∧ s'.1.length ≤ 1048576) := by
            refine ⟨_, s3, G6.off OU (Nat.lt_succ_self p), by rw [List.length_append, HES.out]; rfl, S6.far OU hgp hgep, X6.set 9 _, R6.only OU hrp, B6.trans (OU.below hwp.out B6.size), ?_, HL3.out⟩
            rw [HEQ.out, show min n9 65 - k = (min n9 65 - (k + 1)) + 1 by omega, xeF, if_neg (fun h => nomatch h), List.map_append, List.map_cons, List.map_nil, HT3.out.1, HT3.out.2, HT2.out.1, HT2.out.2, HT1.out.1, HT1.out.2]
          clear G6 g6 HG3 HN3 hev X6 R6 S6 B6 OU HX3 R3 B3 HS3' v0 v1 v2 v3 E3' HO3
          go_wp2
          go_roundw
          case rel => exact ⟨k + 1, some ⟨gq, 0, none⟩, cap, by go_num, by omega, HF⟩
          case measure => simp [intOf]; omega
    by_cases hk4 : n1 = 4
    · have hn1 : ((n1 : Int) == 1) = false := by rw [beq_eq_false_iff_ne]; omega
      have hn2 : ((n1 : Int) == 2) = false := by rw [beq_eq_false_iff_ne]; omega
      have hn3 : ((n1 : Int) == 3) = false := by rw [beq_eq_false_iff_ne]; omega
      have hn4 : ((n1 : Int) == 4) = true := by rw [hk4]; rfl
      have C6 := Lib.hid (xbyte_any g g t5 _ S5)
      go_wp2_with fail
      refine C6.out.mono ?_
      rintro e w6 ⟨rfl, S6, O6⟩
      obtain ⟨n6, hn6⟩ : ∃ x, x = (xbyte t5).1 := ⟨_, rfl⟩
      obtain ⟨t6, ht6⟩ : ∃ x, x = (xbyte t5).2 := ⟨_, rfl⟩
      have HL6 : Hid (t6.1.length ≤ 1048576) := by show _ ≤ _; rw [ht6]; exact Nat.le_trans (xbyte_len _) HL5.out
      rw [← ht6] at S6
      rw [← hn6]
      have HN6 := Lib.hid (And.intro hn6 ht6)
      have HXa := HX5.out.only O6 hpg
      have HRa := HR5.out.only O6 hrg
      have HBa := HB5.out.trans (O6.below hwg.out HB5.out.size)
      obtain ⟨x6, fx6⟩ := HXa 8 _ rfl
      have OU := (Only.refl p w6).set1 8 (.bool ((n6 : Int) == 1))
      have HX6 : Hid (Box (w6.setCell ⟨p, 8, none⟩ (.bool ((n6 : Int) == 1))) p [.int .i64 (n1 : Nat), .int .i64 (n2 : Nat), .int .i64 (n3 : Nat), .int .i64 (n4 : Nat), .int .i64 (n5 : Nat), .int .i64 0, .int .i64 0, .int .i64 0, .bool ((n6 : Int) == 1), .slice none 0 0, .slice none 0 0, .slice none 0 0]) := HXa.set 8 (.bool ((n6 : Int) == 1))
      have HR6 := Lib.hid (HRa.only OU hrp)
      have HB6 := Lib.hid (HBa.trans (OU.below hwp.out HBa.size))
      replace S6 := S6.far OU hgp hgep
      clear hn6 ht6 O6 C6 HXa HRa HBa OU HX5 HR5 HB5 S5 x5 fx5
      have C7 := Lib.hid (xcount_any g g t6 _ S6)
      go_wp2_with fail
      refine C7.out.mono ?_
      rintro e w7 ⟨rfl, S7, O7⟩
      obtain ⟨n7, hn7⟩ : ∃ x, x = (xcount t6).1 := ⟨_, rfl⟩
      obtain ⟨t7, ht7⟩ : ∃ x, x = (xcount t6).2 := ⟨_, rfl⟩
      have HL7 : Hid (t7.1.length ≤ 1048576) := by show _ ≤ _; rw [ht7]; exact Nat.le_trans (xcount_len _) HL6.out
      rw [← ht7] at S7
      have hlt7 : n7 < 72057594037927936 := by rw [hn7]; exact xcount_lt _
      rw [← hn7]
      have HN7 := Lib.hid (And.intro hn7 ht7)
      have HXa := HX6.out.only O7 hpg
      have HRa := HR6.out.only O7 hrg
      have HBa := HB6.out.trans (O7.below hwg.out HB6.out.size)
      obtain ⟨x7, fx7⟩ := HXa 5 _ rfl
      have OU := (Only.refl p w7).set1 5 (.int .i64 (n7 : Nat))
      have HX7 : Hid (Box (w7.setCell ⟨p, 5, none⟩ (.int .i64 (n7 : Nat))) p [.int .i64 (n1 : Nat), .int .i64 (n2 : Nat), .int .i64 (n3 : Nat), .int .i64 (n4 : Nat), .int .i64 (n5 : Nat), .int .i64 (n7 : Nat), .int .i64 0, .int .i64 0, .bool ((n6 : Int) == 1), .slice none 0 0, .slice none 0 0, .slice none 0 0]) := HXa.set 5 (.int .i64 (n7 : Nat))
      have HR7 := Lib.hid (HRa.only OU hrp)
      have HB7 := Lib.hid (HBa.trans (OU.below hwp.out HBa.size))
      replace S7 := S7.far OU hgp hgep
      clear hn7 ht7 O7 C7 HXa HRa HBa OU HX6 HR6 HB6 S6 x6 fx6
      have HPM : Hid (xmsg (b, false) = (⟨n1, n2, n3, n4, n5, n7, 0, 0, (n6 : Int) == 1, [], [], []⟩, t7)) := by show _ = _; rw [HP.out, if_neg hk1, if_neg hk2, if_neg hk3, if_pos hk4, ← HN6.out.1, ← HN6.out.2, ← HN7.out.1, ← HN7.out.2]
      have HE := Lib.hid (RFin.mk (w := w) (p := p) (g := g) (r := r) (a := ⟨none, 0, none, 0, none, 0⟩) HPM.out S7 HX7.out HR7.out (MGot.none_ _ _ _ _ rfl rfl rfl) ⟨Nat.zero_le _, (fun e h => nomatch h), Nat.zero_le _, Nat.zero_le _⟩ HB7.out)
      clear S7 HX7 HR7 HB7 HP HPM
      go_wp2_with fail
      go_meet
      exact ⟨_, _, _, HE⟩
    by_cases hk5 : n1 = 5
    · have hn1 : ((n1 : Int) == 1) = false := by rw [beq_eq_false_iff_ne]; omega
      have hn2 : ((n1 : Int) == 2) = false := by rw [beq_eq_false_iff_ne]; omega
      have hn3 : ((n1 : Int) == 3) = false := by rw [beq_eq_false_iff_ne]; omega
      have hn4 : ((n1 : Int) == 4) = false := by rw [beq_eq_false_iff_ne]; omega
      have hn5 : ((n1 : Int) == 5) = true := by rw [hk5]; rfl
      have C6 := Lib.hid (xcount_any g g t5 _ S5)
      go_wp2_with fail
      refine C6.out.mono ?_
      rintro e w6 ⟨rfl, S6, O6⟩
      obtain ⟨n6, hn6⟩ : ∃ x, x = (xcount t5).1 := ⟨_, rfl⟩
      obtain ⟨t6, ht6⟩ : ∃ x, x = (xcount t5).2 := ⟨_, rfl⟩
      have HL6 : Hid (t6.1.length ≤ 1048576) := by show _ ≤ _; rw [ht6]; exact Nat.le_trans (xcount_len _) HL5.out
      rw [← ht6] at S6
      have hlt6 : n6 < 72057594037927936 := by rw [hn6]; exact xcount_lt _
      rw [← hn6]
      have HN6 := Lib.hid (And.intro hn6 ht6)
      have HXa := HX5.out.only O6 hpg
      have HRa := HR5.out.only O6 hrg
      have HBa := HB5.out.trans (O6.below hwg.out HB5.out.size)
      obtain ⟨x6, fx6⟩ := HXa 5 _ rfl
      have OU := (Only.refl p w6).set1 5 (.int .i64 (n6 : Nat))
      have HX6 : Hid (Box (w6.setCell ⟨p, 5, none⟩ (.int .i64 (n6 : Nat))) p [.int .i64 (n1 : Nat), .int .i64 (n2 : Nat), .int .i64 (n3 : Nat), .int .i64 (n4 : Nat), .int .i64 (n5 : Nat), .int .i64 (n6 : Nat), .int .i64 0, .int .i64 0, .bool false, .slice none 0 0, .slice none 0 0, .slice none 0 0]) := HXa.set 5 (.int .i64 (n6 : Nat))
      have HR6 := Lib.hid (HRa.only OU hrp)
      have HB6 := Lib.hid (HBa.trans (OU.below hwp.out HBa.size))
      replace S6 := S6.far OU hgp hgep
      clear hn6 ht6 O6 C6 HXa HRa HBa OU HX5 HR5 HB5 S5 x5 fx5
      have C7 := Lib.hid (xcount_any g g t6 _ S6)
      go_wp2_with fail
      refine C7.out.mono ?_
      rintro e w7 ⟨rfl, S7, O7⟩
      obtain ⟨n7, hn7⟩ : ∃ x, x = (xcount t6).1 := ⟨_, rfl⟩
      obtain ⟨t7, ht7⟩ : ∃ x, x = (xcount t6).2 := ⟨_, rfl⟩
      have HL7 : Hid (t7.1.length ≤ 1048576) := by show _ ≤ _; rw [ht7]; exact Nat.le_trans (xcount_len _) HL6.out
      rw [← ht7] at S7
      have hlt7 : n7 < 72057594037927936 := by rw [hn7]; exact xcount_lt _
      rw [← hn7]
      have HN7 := Lib.hid (And.intro hn7 ht7)
      have HXa := HX6.out.only O7 hpg
      have HRa := HR6.out.only O7 hrg
      have HBa := HB6.out.trans (O7.below hwg.out HB6.out.size)
      obtain ⟨x7, fx7⟩ := HXa 6 _ rfl
      have OU := (Only.refl p w7).set1 6 (.int .i64 (n7 : Nat))
      have HX7 : Hid (Box (w7.setCell ⟨p, 6, none⟩ (.int .i64 (n7 : Nat))) p [.int .i64 (n1 : Nat), .int .i64 (n2 : Nat), .int .i64 (n3 : Nat), .int .i64 (n4 : Nat), .int .i64 (n5 : Nat), .int .i64 (n6 : Nat), .int .i64 (n7 : Nat), .int .i64 0, .bool false, .slice none 0 0, .slice none 0 0, .slice none 0 0]) := HXa.set 6 (.int .i64 (n7 : Nat))
      have HR7 := Lib.hid (HRa.only OU hrp)
      have HB7 := Lib.hid (HBa.trans (OU.below hwp.out HBa.size))
      replace S7 := S7.far OU hgp hgep
      clear hn7 ht7 O7 C7 HXa HRa HBa OU HX6 HR6 HB6 S6 x6 fx6
      have C8 := Lib.hid (xtext_any g g t7 _ S7)
      go_wp2_with fail
      refine C8.out.mono ?_
      rintro e w8 ⟨A8, c8, rfl, N8, S8, O8, fr8⟩
      obtain ⟨m8, hm8⟩ : ∃ x, x = (xtext t7).1 := ⟨_, rfl⟩
      obtain ⟨t8, ht8⟩ : ∃ x, x = (xtext t7).2 := ⟨_, rfl⟩
      have HL8 : Hid (t8.1.length ≤ 1048576) := by show _ ≤ _; rw [ht8]; exact Nat.le_trans (xtext_len _) HL7.out
      have HM8 : Hid (m8.length ≤ 1048576) := by show _ ≤ _; rw [hm8]; exact Nat.le_trans (xtext_le _) HL7.out
      rw [← ht8] at S8
      rw [← hm8] at N8 fr8
      rw [← hm8]
      have HN8 := Lib.hid (And.intro hm8 ht8)
      have HXa := HX7.out.only O8 hpg
      have HRa := HR7.out.only O8 hrg
      have HBa := HB7.out.trans (O8.below hwg.out HB7.out.size)
      have HX8 := Lib.hid HXa
      have HR8 := Lib.hid HRa
      have HB8 := Lib.hid HBa
      have hpw8 := (HX7.out 0 _ rfl).lt
      have S0' : Hid (OwnI w8 (p + 1) (.slice none 0 0) (intsOf (m8.take 0)) ∧ Box w8 p [.int .i64 (n1 : Nat), .int .i64 (n2 : Nat), .int .i64 (n3 : Nat), .int .i64 (n4 : Nat), .int .i64 (n5 : Nat), .int .i64 (n6 : Nat), .int .i64 (n7 : Nat), .int .i64 0, .bool false, .slice none 0 0, .slice none 0 0, .slice none 0 0] ∧ Box w8 r [.int .i64 0, .int .i64 0, .int .i64 0, .int .i64 0, .int .i64 0, .int .i64 0, .int .i64 0, .int .i64 0, .bool false, .slice none 0 0, .slice none 0 0, .slice none 0 0] ∧ Below w.heap.size w w8 ∧ XRdr w8 g g t8 ∧ RdN w8 g A8 m8 ∧ ∀ q o, A8 = some ⟨q, o, none⟩ → m8 ≠ [] → p < q ∧ (.slice none 0 0 : Value).ownBlock ≠ some q) :=
        ⟨World.ownsRow_nil _ _ _ _, HXa, HRa, HBa, S8, N8, fun q o h1 h2 => ⟨Nat.lt_of_lt_of_le hpw8 (fr8 q o h1 h2), fun h => nomatch h⟩⟩
      obtain ⟨nm, hnm⟩ : ∃ x, x = m8.length := ⟨_, rfl⟩
      rw [← hnm]
      have HNM := Lib.hid hnm
      have hnm1 : nm ≤ 1048576 := by have := HM8.out; omega
      clear hm8 ht8 O8 C8 HXa HRa HBa HX7 HR7 HB7 S7 S8 N8 fr8 HX8 HR8 HB8 hpw8 hnm
      go_wp2_with fail
      clear x7 fx7
      go_loopw [12] (fun s12 wr => ∃ (k : Nat) (mA : Option Addr) (md : Nat), s12 = .int .i64 k ∧ k ≤ nm ∧ Hid (OwnI wr (p + 1) (.slice mA k md) (intsOf (m8.take k)) ∧ Box wr p [.int .i64 (n1 : Nat), .int .i64 (n2 : Nat), .int .i64 (n3 : Nat), .int .i64 (n4 : Nat), .int .i64 (n5 : Nat), .int .i64 (n6 : Nat), .int .i64 (n7 : Nat), .int .i64 0, .bool false, .slice none 0 0, .slice mA k md, .slice none 0 0] ∧ Box wr r [.int .i64 0, .int .i64 0, .int .i64 0, .int .i64 0, .int .i64 0, .int .i64 0, .int .i64 0, .int .i64 0, .bool false, .slice none 0 0, .slice none 0 0, .slice none 0 0] ∧ Below w.heap.size w wr ∧ XRdr wr g g t8 ∧ RdN wr g A8 m8 ∧ ∀ q o, A8 = some ⟨q, o, none⟩ → m8 ≠ [] → p < q ∧ (.slice mA k md : Value).ownBlock ≠ some q)) (fun s12 _ => nm - (intOf s12).toNat)
      case atStart => exact ⟨0, none, 0, rfl, by omega, S0'⟩
      case round =>
        clear S0'
        obtain ⟨k, mA, md, rfl, hk, HI⟩ := hrel
        by_cases hlt : k < nm
        · skip
          have hkl : k < m8.length := by have := HNM.out; omega
          obtain ⟨hI, hX, hR, hB, hS, hN, hq8⟩ := HI.out
          rcases hN.rd with h0 | ⟨q, o, hqA, hq, hc⟩
          · rw [h0] at hkl; simp at hkl
          have hne8 : m8 ≠ [] := fun h => by rw [h] at hkl; simp at hkl
          rw [hqA]
          have d0 := hc k hkl
          have HSn := Lib.hid (intsOf_snoc hkl)
          obtain ⟨y, hy⟩ : ∃ y, y = m8[k] := ⟨_, rfl⟩
          replace HSn := HSn.out
          rw [← hy] at d0 HSn
          replace HSn := Lib.hid HSn
          replace d0 : wr.cell? ⟨q, o + k, none⟩ = some (.int .u8 (y.toNat : Int)) := d0
          have ylt : ((y.toNat : Nat) : Int) < 256 := by have := y.toNat_lt; omega
          have hwr' : IntKind.i64.wrap ((y.toNat : Nat) : Int) = ((y.toNat : Nat) : Int) := IntWalk.i64_in _ (by omega)
          have hba := below1' wr (.cells #[.int .i64 (y.toNat : Int)] 3)
          have d0' := (hba.cell (p := ⟨q, o + k, none⟩) hq).trans d0
          have y10 := (hX 10 (.slice mA k md) rfl).1
          have hpw := (hX 10 (.slice mA k md) rfl).lt
          have y10' := (hba.cell (p := ⟨p, 10, none⟩) hpw).trans y10
          have hkk : Hid (k = (intsOf (m8.take k)).length) := by show k = _; rw [intsOf_len, List.length_take]; omega
          have hk3 : Hid (k ≤ 1048576) := by have := HM8.out; show _ ≤ _; omega
          have HBe : Hid (Below wr.heap.size wr (wr.alloc (.cells #[.int .i64 (y.toNat : Int)] 3)).drew) := below_drew hba
          have HIe : Hid (OwnI (wr.alloc (.cells #[.int .i64 (y.toNat : Int)] 3)).drew (p + 1) (.slice mA k md) (intsOf (m8.take k))) := World.ownsRow.drew (World.ownsRow.alloc hI _)
          have hce : Hid ((wr.alloc (.cells #[.int .i64 (y.toNat : Int)] 3)).drew.cell? ⟨wr.heap.size, 0, none⟩ = some (.int .i64 (y.toNat : Int))) := (Cell.new wr #[.int .i64 (y.toNat : Int)] 3 0 _ rfl).1
          have hbe : Hid (p + 1 ≤ (wr.alloc (.cells #[.int .i64 (y.toNat : Int)] 3)).drew.heap.size) := Nat.le_trans hpw HBe.out.size
          have HXe := Lib.hid (hX.keep HBe.out)
          have HRe := Lib.hid (hR.keep HBe.out)
          have HSe := Lib.hid (hS.below HBe.out)
          have HNe := Lib.hid (hN.keep HBe.out)
          have HBB := Lib.hid (hB.trans (HBe.out.mono hB.size))
          have hrow : Hid (∀ q, (Value.slice mA k md).ownBlock = some q → p + 1 ≤ q) := fun q hq => (hI.lt q hq).1
          have hq8' := Lib.hid hq8
          have hqA' := Lib.hid hqA
          have hqw := Lib.hid hq
          have hsz1 : Hid ((wr.alloc (.cells #[.int .i64 (y.toNat : Int)] 3)).drew.heap.size = wr.heap.size + 1) := by show (wr.alloc (.cells #[.int .i64 (y.toNat : Int)] 3)).heap.size = _; simp
          clear hI hX hR hB hS hN hq8 hc hy hba HI hk hkl hqA hq
          go_wp2_with fail
          go_region_law (refine step_app_int (wr.alloc (.cells #[.int .i64 (y.toNat : Int)] 3)).drew (p + 1) (.slice mA k md) k (intsOf (m8.take k)) (y.toNat : Int) wr.heap.size rfl (.tmp 128) (.tmp 134) rfl rfl rfl HIe.out hce.out hkk.out hk3.out hbe.out ?_; intro gq cap w6 O6 g6 l6; have X6 := HXe.out.grown g6 (fun h => by have := hrow.out p h.symm; omega); have x10 := (X6 10 (.slice mA k md) rfl).1; have fx10 := (X6 10 (.slice mA k md) rfl).2; have HG6 := Lib.hid (And.intro O6 (And.intro g6 l6)); have HX6 := Lib.hid X6; clear O6 g6 l6 X6)
          all_goals
            have R6 := HRe.out.grown HG6.out.2.1 (fun h => by have := hrow.out r h.symm; have := HNR.out; omega)
            have S6 := HSe.out.grown HG6.out.2.1 (fun h => by have := hrow.out g h; omega) (fun q hq => by have := hrow.out q hq; omega)
            have N6 := HNe.out.grown HG6.out.2.1 (fun q o h1 h2 => (hq8'.out q o h1 h2).2)
            have B6 := ((Only.of_below (g := g) HBB.out).grown HG6.out.2.1 (fun q hq => by have := hrow.out q hq; have := hwp.out; omega)).below hwg.out (Nat.le_refl _)
            have OU := (Only.refl p w6).set1 10 (.slice (some ⟨gq, 0, none⟩) (k + 1) cap)
            have HF : Hid (OwnI (w6.setCell ⟨p, 10, none⟩ (.slice (some ⟨gq, 0, none⟩) (k + 1) cap)) (p + 1) (.slice (some ⟨gq, 0, none⟩) (k + 1) cap) (intsOf (m8.take (k + 1))) ∧ Box (w6.setCell ⟨p, 10, none⟩ (.slice (some ⟨gq, 0, none⟩) (k + 1) cap)) p [.int .i64 (n1 : Nat), .int .i64 (n2 : Nat), .int .i64 (n3 : Nat), .int .i64 (n4 : Nat), .int .i64 (n5 : Nat), .int .i64 (n6 : Nat), .int .i64 (n7 : Nat), .int .i64 0, .bool false, .slice none 0 0, .slice (some ⟨gq, 0, none⟩) (k + 1) cap, .slice none 0 0] ∧ Box (w6.setCell ⟨p, 10, none⟩ (.slice (some ⟨gq, 0, none⟩) (k + 1) cap)) r [.int .i64 0, .int .i64 0, .int .i64 0, .int .i64 0, .int .i64 0, .int .i64 0, .int .i64 0, .int .i64 0, .bool false, .slice none 0 0, .slice none 0 0, .slice none 0 0] ∧ Below w.heap.size w (w6.setCell ⟨p, 10, none⟩ (.slice (some ⟨gq, 0, none⟩) (k + 1) cap)) ∧ XRdr (w6.setCell ⟨p, 10, none⟩ (.slice (some ⟨gq, 0, none⟩) (k + 1) cap)) g g t8 ∧ RdN (w6.setCell ⟨p, 10, none⟩ (.slice (some ⟨gq, 0, none⟩) (k + 1) cap)) g A8 m8 ∧ ∀ q o, A8 = some ⟨q, o, none⟩ → m8 ≠ [] → p < q ∧ (.slice (some ⟨gq, 0, none⟩) (k + 1) cap : Value).ownBlock ≠ some q) := by
              have hq9 : ∀ q o, A8 = some ⟨q, o, none⟩ → m8 ≠ [] → p < q ∧ (Value.slice (some ⟨gq, 0, none⟩) (k + 1) cap).ownBlock ≠ some q := fun q' o' h1 h2 => by
                have h3 := hq8'.out q' o' h1 h2
                refine ⟨h3.1, fun h4 => ?_⟩
                injection h4 with h4
                have h4 : gq = q' := h4
                rcases HG6.out.2.2 with h5 | h5
                · exact h3.2 (h4 ▸ h5)
                · have h6 := hqw.out
                  have h7 := hsz1.out
                  rw [hqA'.out] at h1
                  injection h1 with h1
                  injection h1 with h1
                  omega
              refine ⟨?_, HX6.out.set 10 _, R6.only OU hrp, B6.trans (OU.below hwp.out B6.size), S6.far OU hgp hgep, ?_, hq9⟩
              · have := OwnI.off HG6.out.1 OU (Nat.lt_succ_self p)
                rw [← HSn.out] at this
                exact this
              · exact N6.off (base := p + 1) (fun q o h1 h2 => (hq8'.out q o h1 h2).1) OU (Nat.lt_succ_self p)
            clear HG6 HX6 R6 S6 N6 B6 OU HXe HRe HSe HNe HBB HIe HBe hce hbe
            go_wp2
            go_roundw
            case rel =>
              rw [hqA'.out] at HF
              exact ⟨k + 1, some ⟨gq, 0, none⟩, cap, by go_num, by omega, HF⟩
            case measure => simp [intOf]; omega
        · have hkn : k = m8.length := by have := HNM.out; omega
          obtain ⟨hI, hX, hR, hB, hS, hN, hq8⟩ := HI.out
          rw [List.take_of_length_le (by omega)] at hI
          have hge : decide ((k : Int) < (nm : Int)) = false := by simp; omega
          have HX9 := Lib.hid hX
          have HR9 := Lib.hid hR
          have HB9 := Lib.hid hB
          have HI9 := Lib.hid hI
          have HL9 : Hid (t8.1.length ≤ 1048576) := HL8.out
          obtain ⟨t9, ht9⟩ : ∃ x, x = t8 := ⟨_, rfl⟩
          rw [← ht9] at hS HL9
          have S9 := hS
          have HT9 := Lib.hid ht9
          have HKN := Lib.hid hkn
          clear hI hX hR hB hS hN hq8 HI ht9 hkn
          have C10 := Lib.hid (xtext_any g g t9 _ S9)
          go_wp2_with fail
          refine C10.out.mono ?_
          rintro e w10 ⟨A10, c10, rfl, N10, S10, O10, fr10⟩
          obtain ⟨m10, hm10⟩ : ∃ x, x = (xtext t9).1 := ⟨_, rfl⟩
          obtain ⟨t10, ht10⟩ : ∃ x, x = (xtext t9).2 := ⟨_, rfl⟩
          have HL10 : Hid (t10.1.length ≤ 1048576) := by show _ ≤ _; rw [ht10]; exact Nat.le_trans (xtext_len _) HL9.out
          have HM10 : Hid (m10.length ≤ 1048576) := by show _ ≤ _; rw [hm10]; exact Nat.le_trans (xtext_le _) HL9.out
          rw [← ht10] at S10
          rw [← hm10] at N10 fr10
          rw [← hm10]
          have HN10 := Lib.hid (And.intro hm10 ht10)
          have HXa := HX9.out.only O10 hpg
          have HRa := HR9.out.only O10 hrg
          have HBa := HB9.out.trans (O10.below hwg.out HB9.out.size)
          obtain ⟨x10, fx10⟩ := HXa 11 (.slice none 0 0) rfl
          have hpw10 := (HX9.out 0 _ rfl).lt
          have OU := (Only.refl p w10).set1 11 (.slice A10 m10.length c10)
          have HX10 : Hid (Box (w10.setCell ⟨p, 11, none⟩ (.slice A10 m10.length c10)) p [.int .i64 (n1 : Nat), .int .i64 (n2 : Nat), .int .i64 (n3 : Nat), .int .i64 (n4 : Nat), .int .i64 (n5 : Nat), .int .i64 (n6 : Nat), .int .i64 (n7 : Nat), .int .i64 0, .bool false, .slice none 0 0, .slice mA k md, .slice A10 m10.length c10]) := HXa.set 11 (.slice A10 m10.length c10)
          have HR10 := Lib.hid (HRa.only OU hrp)
          have HB10 := Lib.hid (HBa.trans (OU.below hwp.out HBa.size))
          have HI10 := Lib.hid ((HI9.out.off O10 (by omega)).off OU (Nat.lt_succ_self p))
          have HD10 := Lib.hid (N10.off fr10 OU hpw10)
          have HDL : Hid (∀ q o, A10 = some ⟨q, o, none⟩ → m10 ≠ [] → p + 1 ≤ q) := fun q o h1 h2 => Nat.le_trans hpw10 (fr10 q o h1 h2)
          have S10' := S10.far OU hgp hgep
          have HPM : Hid (xmsg (b, false) = (⟨n1, n2, n3, n4, n5, n6, n7, 0, false, [], intsOf m8, m10⟩, t10)) := by show _ = _; rw [HP.out, if_neg hk1, if_neg hk2, if_neg hk3, if_neg hk4, if_pos hk5, ← HN6.out.1, ← HN6.out.2, ← HN7.out.1, ← HN7.out.2, ← HN8.out.1, ← HN8.out.2, ← HT9.out, ← HN10.out.1, ← HN10.out.2]
          have HE := Lib.hid (RFin.mk (w := w) (p := p) (g := g) (r := r) (a := ⟨none, 0, mA, md, A10, c10⟩) HPM.out S10' (by simp only [msgC, List.length_nil, intsOf_len, ← HKN.out]; exact HX10.out) HR10.out ⟨⟨[], rfl, ⟨World.ownsRow_nil _ _ _ _, (fun e h => nomatch h), (fun h => nomatch h)⟩, (fun e h => nomatch h)⟩, by simp only [intsOf_len, ← HKN.out]; exact HI10.out, HD10.out, HDL.out⟩ ⟨Nat.zero_le _, (fun e h => nomatch h), by simp only [intsOf_len]; exact HM8.out, HM10.out⟩ HB10.out)
          clear hm10 ht10 O10 C10 HXa HRa HBa OU HX10 HR10 HB10 HI10 HD10 HDL S10' S10 N10 fr10 HPM HP S9 HX9 HR9 HB9 HI9
          go_wp2_with fail
          go_meet
          exact ⟨_, _, _, HE⟩
    have hn1 : ((n1 : Int) == 1) = false := by rw [beq_eq_false_iff_ne]; omega
    have hn2 : ((n1 : Int) == 2) = false := by rw [beq_eq_false_iff_ne]; omega
    have hn3 : ((n1 : Int) == 3) = false := by rw [beq_eq_false_iff_ne]; omega
    have hn4 : ((n1 : Int) == 4) = false := by rw [beq_eq_false_iff_ne]; omega
    have hn5 : ((n1 : Int) == 5) = false := by rw [beq_eq_false_iff_ne]; omega
    have HPM : Hid (xmsg (b, false) = (⟨n1, n2, n3, n4, n5, 0, 0, 0, false, [], [], []⟩, t5)) := by show _ = _; rw [HP.out, if_neg hk1, if_neg hk2, if_neg hk3, if_neg hk4, if_neg hk5]
    have HE := Lib.hid (RFin.mk (w := w) (p := p) (g := g) (r := r) (a := ⟨none, 0, none, 0, none, 0⟩) HPM.out S5 HX5.out HR5.out (MGot.none_ _ _ _ _ rfl rfl rfl) ⟨Nat.zero_le _, (fun e h => nomatch h), Nat.zero_le _, Nat.zero_le _⟩ HB5.out)
    clear S5 HX5 HR5 HB5 HP HPM
    go_wp2_with fail
    go_meet
    exact ⟨_, _, _, HE⟩
  case rest =>
    obtain ⟨m, a, t, HF⟩ := hcut
    obtain ⟨t1, t2⟩ := t
    have MR := Lib.hid HF.out.M.rd
    obtain ⟨q2, fq2⟩ := HF.out.S.bad
    simp only at q2
    cases t2
    case true =>
      have HD : Hid (decB b = none) := xmsg_bad (by rw [HF.out.xm])
      have HBW := Lib.hid (HF.out.HB.trans ((((((((((((((Only.refl r wc).set1 0 (.int .i64 0)).set1 1 (.int .i64 0)).set1 2 (.int .i64 0)).set1 3 (.int .i64 0)).set1 4 (.int .i64 0)).set1 5 (.int .i64 0)).set1 6 (.int .i64 0)).set1 7 (.int .i64 0)).set1 8 (.bool false)).set1 9 (.slice none 0 0)).set1 10 (.slice none 0 0)).set1 11 (.slice none 0 0)).below hwr.out HF.out.HB.size))
      obtain ⟨r0, fr0⟩ := HF.out.R 0 (.int .i64 0) rfl
      obtain ⟨r1, fr1⟩ := HF.out.R 1 (.int .i64 0) rfl
      obtain ⟨r2, fr2⟩ := HF.out.R 2 (.int .i64 0) rfl
      obtain ⟨r3, fr3⟩ := HF.out.R 3 (.int .i64 0) rfl
      obtain ⟨r4, fr4⟩ := HF.out.R 4 (.int .i64 0) rfl
      obtain ⟨r5, fr5⟩ := HF.out.R 5 (.int .i64 0) rfl
      obtain ⟨r6, fr6⟩ := HF.out.R 6 (.int .i64 0) rfl
      obtain ⟨r7, fr7⟩ := HF.out.R 7 (.int .i64 0) rfl
      obtain ⟨r8, fr8⟩ := HF.out.R 8 (.bool false) rfl
      obtain ⟨r9, fr9⟩ := HF.out.R 9 (.slice none 0 0) rfl
      obtain ⟨r10, fr10⟩ := HF.out.R 10 (.slice none 0 0) rfl
      obtain ⟨r11, fr11⟩ := HF.out.R 11 (.slice none 0 0) rfl
      go_wp2
      refine bodyPost_ret (v := .tuple #[.agg #[.int .i64 0, .int .i64 0, .int .i64 0, .int .i64 0, .int .i64 0, .int .i64 0, .int .i64 0, .int .i64 0, .bool false, .slice none 0 0, .slice none 0 0, .slice none 0 0], .int .i64 92]) (by rw [results_cell_tmp rfl]; go_simp) rfl ⟨.inr ⟨HD.out, rfl⟩, HBW.out⟩
    case false =>
      by_cases hR : RightP m
      rotate_left
      · have HD : Hid (decB b = none) := xmsg_no (fun h => hR (by have := h.1; rw [HF.out.xm] at this; exact this))
        have C := Lib.hid (renc_bad m a _ MR.out HF.out.sm hR)
        obtain ⟨x0, fx0⟩ := HF.out.X 0 (.int .i64 m.kind) rfl
        obtain ⟨x1, fx1⟩ := HF.out.X 1 (.int .i64 m.group) rfl
        obtain ⟨x2, fx2⟩ := HF.out.X 2 (.int .i64 m.frm) rfl
        obtain ⟨x3, fx3⟩ := HF.out.X 3 (.int .i64 m.dst) rfl
        obtain ⟨x4, fx4⟩ := HF.out.X 4 (.int .i64 m.term) rfl
        obtain ⟨x5, fx5⟩ := HF.out.X 5 (.int .i64 m.index) rfl
        obtain ⟨x6, fx6⟩ := HF.out.X 6 (.int .i64 m.logTerm) rfl
        obtain ⟨x7, fx7⟩ := HF.out.X 7 (.int .i64 m.commit) rfl
        obtain ⟨x8, fx8⟩ := HF.out.X 8 (.bool m.ok) rfl
        obtain ⟨x9, fx9⟩ := HF.out.X 9 (.slice a.e m.entries.length a.ec) rfl
        obtain ⟨x10, fx10⟩ := HF.out.X 10 (.slice a.m m.members.length a.mc) rfl
        obtain ⟨x11, fx11⟩ := HF.out.X 11 (.slice a.d m.data.length a.dc) rfl
        go_wp2_with fail
        refine C.out.mono ?_
        rintro e w5 ⟨rfl, b5⟩
        have HB5 := Lib.hid (HF.out.HB.trans (b5.mono HF.out.HB.size))
        have HBW := Lib.hid (HB5.out.trans ((((((((((((((Only.refl r w5).set1 0 (.int .i64 0)).set1 1 (.int .i64 0)).set1 2 (.int .i64 0)).set1 3 (.int .i64 0)).set1 4 (.int .i64 0)).set1 5 (.int .i64 0)).set1 6 (.int .i64 0)).set1 7 (.int .i64 0)).set1 8 (.bool false)).set1 9 (.slice none 0 0)).set1 10 (.slice none 0 0)).set1 11 (.slice none 0 0)).below hwr.out HB5.out.size))
        have hR5 := Lib.hid (HF.out.R.keep b5)
        clear b5 C x0 fx0 x1 fx1 x2 fx2 x3 fx3 x4 fx4 x5 fx5 x6 fx6 x7 fx7 x8 fx8 x9 fx9 x10 fx10 x11 fx11 q2 fq2
        obtain ⟨r0, fr0⟩ := hR5.out 0 (.int .i64 0) rfl
        obtain ⟨r1, fr1⟩ := hR5.out 1 (.int .i64 0) rfl
        obtain ⟨r2, fr2⟩ := hR5.out 2 (.int .i64 0) rfl
        obtain ⟨r3, fr3⟩ := hR5.out 3 (.int .i64 0) rfl
        obtain ⟨r4, fr4⟩ := hR5.out 4 (.int .i64 0) rfl
        obtain ⟨r5, fr5⟩ := hR5.out 5 (.int .i64 0) rfl
        obtain ⟨r6, fr6⟩ := hR5.out 6 (.int .i64 0) rfl
        obtain ⟨r7, fr7⟩ := hR5.out 7 (.int .i64 0) rfl
        obtain ⟨r8, fr8⟩ := hR5.out 8 (.bool false) rfl
        obtain ⟨r9, fr9⟩ := hR5.out 9 (.slice none 0 0) rfl
        obtain ⟨r10, fr10⟩ := hR5.out 10 (.slice none 0 0) rfl
        obtain ⟨r11, fr11⟩ := hR5.out 11 (.slice none 0 0) rfl
        go_wp2
        refine bodyPost_ret (v := .tuple #[.agg #[.int .i64 0, .int .i64 0, .int .i64 0, .int .i64 0, .int .i64 0, .int .i64 0, .int .i64 0, .int .i64 0, .bool false, .slice none 0 0, .slice none 0 0, .slice none 0 0], .int .i64 92]) (by rw [results_cell_tmp rfl]; go_simp) rfl ⟨.inr ⟨HD.out, rfl⟩, HBW.out⟩
      · have C := Lib.hid (renc_ok m a _ MR.out HF.out.sm hR)
        have HR' := Lib.hid hR
        obtain ⟨x0, fx0⟩ := HF.out.X 0 (.int .i64 m.kind) rfl
        obtain ⟨x1, fx1⟩ := HF.out.X 1 (.int .i64 m.group) rfl
        obtain ⟨x2, fx2⟩ := HF.out.X 2 (.int .i64 m.frm) rfl
        obtain ⟨x3, fx3⟩ := HF.out.X 3 (.int .i64 m.dst) rfl
        obtain ⟨x4, fx4⟩ := HF.out.X 4 (.int .i64 m.term) rfl
        obtain ⟨x5, fx5⟩ := HF.out.X 5 (.int .i64 m.index) rfl
        obtain ⟨x6, fx6⟩ := HF.out.X 6 (.int .i64 m.logTerm) rfl
        obtain ⟨x7, fx7⟩ := HF.out.X 7 (.int .i64 m.commit) rfl
        obtain ⟨x8, fx8⟩ := HF.out.X 8 (.bool m.ok) rfl
        obtain ⟨x9, fx9⟩ := HF.out.X 9 (.slice a.e m.entries.length a.ec) rfl
        obtain ⟨x10, fx10⟩ := HF.out.X 10 (.slice a.m m.members.length a.mc) rfl
        obtain ⟨x11, fx11⟩ := HF.out.X 11 (.slice a.d m.data.length a.dc) rfl
        go_wp2_with fail
        refine C.out.mono ?_
        rintro e w5 ⟨v, rfl, o5, b5⟩
        obtain ⟨vA, vc, rfl, hrd⟩ := o5.rd
        have HB5 := Lib.hid (HF.out.HB.trans (b5.mono HF.out.HB.size))
        have hR5 := Lib.hid (HF.out.R.keep b5)
        have hX5 := Lib.hid (HF.out.X.keep b5)
        have hM5 := Lib.hid (HF.out.M.keep b5)
        have s1 := str_of hrd vc
        have s2 := str_of ((HRD.out.below HB5.out).more HB5.out.size) c
        obtain ⟨L, hL⟩ : ∃ L, L = encB m := ⟨_, rfl⟩
        rw [← hL] at s1
        rw [← hL]
        have HLm := Lib.hid hL
        clear b5 C x0 fx0 x1 fx1 x2 fx2 x3 fx3 x4 fx4 x5 fx5 x6 fx6 x7 fx7 x8 fx8 x9 fx9 x10 fx10 x11 fx11 q2 fq2 o5 hrd hL hR
        by_cases hE : L = b
        · subst hE
          have HD : Hid (decB L = some m) := decB_some.2 ⟨HR'.out, HLm.out.symm⟩
          have HBW := Lib.hid (HB5.out.trans ((((((((((((((Only.refl r w5).set1 0 (.int .i64 m.kind)).set1 1 (.int .i64 m.group)).set1 2 (.int .i64 m.frm)).set1 3 (.int .i64 m.dst)).set1 4 (.int .i64 m.term)).set1 5 (.int .i64 m.index)).set1 6 (.int .i64 m.logTerm)).set1 7 (.int .i64 m.commit)).set1 8 (.bool m.ok)).set1 9 (.slice a.e m.entries.length a.ec)).set1 10 (.slice a.m m.members.length a.mc)).set1 11 (.slice a.d m.data.length a.dc)).below hwr.out HB5.out.size))
          have HFIN := Lib.hid ((hM5.out.off (((((((((((((Only.refl r w5).set1 0 (.int .i64 m.kind)).set1 1 (.int .i64 m.group)).set1 2 (.int .i64 m.frm)).set1 3 (.int .i64 m.dst)).set1 4 (.int .i64 m.term)).set1 5 (.int .i64 m.index)).set1 6 (.int .i64 m.logTerm)).set1 7 (.int .i64 m.commit)).set1 8 (.bool m.ok)).set1 9 (.slice a.e m.entries.length a.ec)).set1 10 (.slice a.m m.members.length a.mc)).set1 11 (.slice a.d m.data.length a.dc)) (by have := HNR.out; omega)).rd)
          obtain ⟨r0, fr0⟩ := hR5.out 0 (.int .i64 0) rfl
          obtain ⟨r1, fr1⟩ := hR5.out 1 (.int .i64 0) rfl
          obtain ⟨r2, fr2⟩ := hR5.out 2 (.int .i64 0) rfl
          obtain ⟨r3, fr3⟩ := hR5.out 3 (.int .i64 0) rfl
          obtain ⟨r4, fr4⟩ := hR5.out 4 (.int .i64 0) rfl
          obtain ⟨r5, fr5⟩ := hR5.out 5 (.int .i64 0) rfl
          obtain ⟨r6, fr6⟩ := hR5.out 6 (.int .i64 0) rfl
          obtain ⟨r7, fr7⟩ := hR5.out 7 (.int .i64 0) rfl
          obtain ⟨r8, fr8⟩ := hR5.out 8 (.bool false) rfl
          obtain ⟨r9, fr9⟩ := hR5.out 9 (.slice none 0 0) rfl
          obtain ⟨r10, fr10⟩ := hR5.out 10 (.slice none 0 0) rfl
          obtain ⟨r11, fr11⟩ := hR5.out 11 (.slice none 0 0) rfl
          obtain ⟨x0, fx0⟩ := hX5.out 0 (.int .i64 m.kind) rfl
          obtain ⟨x1, fx1⟩ := hX5.out 1 (.int .i64 m.group) rfl
          obtain ⟨x2, fx2⟩ := hX5.out 2 (.int .i64 m.frm) rfl
          obtain ⟨x3, fx3⟩ := hX5.out 3 (.int .i64 m.dst) rfl
          obtain ⟨x4, fx4⟩ := hX5.out 4 (.int .i64 m.term) rfl
          obtain ⟨x5, fx5⟩ := hX5.out 5 (.int .i64 m.index) rfl
          obtain ⟨x6, fx6⟩ := hX5.out 6 (.int .i64 m.logTerm) rfl
          obtain ⟨x7, fx7⟩ := hX5.out 7 (.int .i64 m.commit) rfl
          obtain ⟨x8, fx8⟩ := hX5.out 8 (.bool m.ok) rfl
          obtain ⟨x9, fx9⟩ := hX5.out 9 (.slice a.e m.entries.length a.ec) rfl
          obtain ⟨x10, fx10⟩ := hX5.out 10 (.slice a.m m.members.length a.mc) rfl
          obtain ⟨x11, fx11⟩ := hX5.out 11 (.slice a.d m.data.length a.dc) rfl
          go_wp2
          refine bodyPost_ret (v := .tuple #[.agg #[.int .i64 m.kind, .int .i64 m.group, .int .i64 m.frm, .int .i64 m.dst, .int .i64 m.term, .int .i64 m.index, .int .i64 m.logTerm, .int .i64 m.commit, .bool m.ok, .slice a.e m.entries.length a.ec, .slice a.m m.members.length a.mc, .slice a.d m.data.length a.dc], .int .i64 0]) (by rw [results_cell_tmp rfl]; go_simp) rfl ⟨.inl ⟨m, a, HD.out, rfl, HFIN.out⟩, HBW.out⟩
        · have hLb : (L == b) = false := by rw [beq_eq_false_iff_ne]; exact hE
          have HD : Hid (decB b = none) := xmsg_no (fun h => hE (by have := h.2; rw [HF.out.xm] at this; rw [HLm.out]; exact this))
          have HBW := Lib.hid (HB5.out.trans ((((((((((((((Only.refl r w5).set1 0 (.int .i64 0)).set1 1 (.int .i64 0)).set1 2 (.int .i64 0)).set1 3 (.int .i64 0)).set1 4 (.int .i64 0)).set1 5 (.int .i64 0)).set1 6 (.int .i64 0)).set1 7 (.int .i64 0)).set1 8 (.bool false)).set1 9 (.slice none 0 0)).set1 10 (.slice none 0 0)).set1 11 (.slice none 0 0)).below hwr.out HB5.out.size))
          obtain ⟨r0, fr0⟩ := hR5.out 0 (.int .i64 0) rfl
          obtain ⟨r1, fr1⟩ := hR5.out 1 (.int .i64 0) rfl
          obtain ⟨r2, fr2⟩ := hR5.out 2 (.int .i64 0) rfl
          obtain ⟨r3, fr3⟩ := hR5.out 3 (.int .i64 0) rfl
          obtain ⟨r4, fr4⟩ := hR5.out 4 (.int .i64 0) rfl
          obtain ⟨r5, fr5⟩ := hR5.out 5 (.int .i64 0) rfl
          obtain ⟨r6, fr6⟩ := hR5.out 6 (.int .i64 0) rfl
          obtain ⟨r7, fr7⟩ := hR5.out 7 (.int .i64 0) rfl
          obtain ⟨r8, fr8⟩ := hR5.out 8 (.bool false) rfl
          obtain ⟨r9, fr9⟩ := hR5.out 9 (.slice none 0 0) rfl
          obtain ⟨r10, fr10⟩ := hR5.out 10 (.slice none 0 0) rfl
          obtain ⟨r11, fr11⟩ := hR5.out 11 (.slice none 0 0) rfl
          go_wp2
          refine bodyPost_ret (v := .tuple #[.agg #[.int .i64 0, .int .i64 0, .int .i64 0, .int .i64 0, .int .i64 0, .int .i64 0, .int .i64 0, .int .i64 0, .bool false, .slice none 0 0, .slice none 0 0, .slice none 0 0], .int .i64 92]) (by rw [results_cell_tmp rfl]; go_simp) rfl ⟨.inr ⟨HD.out, rfl⟩, HBW.out⟩
end Go.Proofs.Ytekgmgiokmbliaa
