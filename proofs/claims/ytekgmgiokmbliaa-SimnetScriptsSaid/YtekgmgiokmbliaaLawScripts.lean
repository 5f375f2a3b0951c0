/-
  The law of SimnetScripts.
-/
import Derived.Test.YtekgmgiokmbliaaJoint
import Derived.Test.YtekgmgiokmbliaaOpenSteps
import Derived.Test.YtekgmgiokmbliaaAwake
set_option linter.unusedVariables false
namespace Go.Proofs.Ytekgmgiokmbliaa
open Go.RowKit

def toC (C : List Cn) (x : Int) : List Int := (C.filter (fun e => e.2.2.1 == x)).map (·.1)
theorem toC_eq (P : List (Ev × List UInt8)) (x : Int) : toL (P.map (·.1)) (P.map (·.1)).length x = toC (P.map cn) x := by
  unfold toL toC
  rw [List.take_length, List.filter_map, List.filter_map, List.map_map, List.map_map]
  rfl
theorem toC_len (C : List Cn) (x : Int) : (toC C x).length ≤ C.length := by
  unfold toC
  rw [List.length_map]
  exact List.length_filter_le _ _
theorem to_line (M : Nat → Prop) (g base : Nat) (row : Option Nat) (last : Int) (C : List Cn) (x : Int) (w : World) (hL : Line w M g base row last C) (hG : GoodC C last) (hlen : C.length ≤ 1000) :
    Calls Try.prog 20 #[.pointer (some ⟨g, 0, none⟩), .int .i64 x] w fun e w' => ∃ A c, e = .returned (.slice A (toC C x).length c) ∧ OwnI w' w.heap.size (.slice A (toC C x).length c) (toC C x) ∧ Below w.heap.size w w' := by
  obtain ⟨fv, P, hN, rfl, rfl, hB, hMg, hMr, hM⟩ := hL
  rw [← toC_eq]
  exact to_any g base last fv _ x w hN (by simpa using hlen) (fine_of hG hB).slices
theorem rto_line (M : Nat → Prop) (g base : Nat) (row : Option Nat) (last : Int) (C : List Cn) (x : Int) (w : World) (hL : RLine w M g base row last C) (hlen : C.length ≤ 1000) :
    Calls Try.prog 21 #[.pointer (some ⟨g, 0, none⟩), .int .i64 x] w fun e w' => ∃ A c, e = .returned (.slice A (toC C x).length c) ∧ OwnI w' w.heap.size (.slice A (toC C x).length c) (toC C x) ∧ Below w.heap.size w w' := by
  obtain ⟨fv, P, hN, rfl, rfl, hB, hMg, hMr, hM⟩ := hL
  rw [← toC_eq]
  exact rto_any g base last fv _ x w hN (by simpa using hlen)
theorem OwnI.below {w w' : World} {base : Nat} {v : Value} {G : List Int} (h : OwnI w base v G) (hb : Below w.heap.size w w') : OwnI w' base v G := row_block h (fun b hv => hb.block b (h.lt b hv).2)

/-- what the law knows of its lines -/
structure PS (last : Int) (C : List Cn) (k : Nat) : Prop where
  l0 : 0 ≤ last
  lk : last ≤ k
  good : GoodC C last
  cl : C.length ≤ 1000
theorem PS.start : PS 0 [] 0 := ⟨by omega, by omega, ⟨List.Pairwise.nil, fun c h => by cases h⟩, by simp⟩
theorem PS.next {last : Int} {C : List Cn} {k : Nat} (h : PS last C k) : PS last C (k + 1) := ⟨h.l0, by have := h.lk; omega, h.good, h.cl⟩
theorem PS.sent {last : Int} {C : List Cn} {k : Nat} (h : PS last C k) {f t kd : Int} {l : List UInt8} (hok : okB f t kd l.length = true) (hC : C.length < 1000) : PS (last + 1) (C ++ [(last + 1, f, t, kd, l)]) (k + 1) :=
  ⟨by have := h.l0; omega, by have := h.lk; omega, h.good.snoc hok h.l0, by simp; omega⟩
theorem PS.gone {last : Int} {C : List Cn} {k : Nat} (h : PS last C k) (j : Nat) : PS last (C.eraseIdx j) (k + 1) := ⟨h.l0, by have := h.lk; omega, h.good.erase j, Nat.le_trans (List.eraseIdx_sublist C j).length_le h.cl⟩

set_option maxHeartbeats 6400000 in
set_option maxRecDepth 100000 in
theorem law_scripts (A : Option Addr) (n c : Nat) (f : Nat → St) (w : World) (hS : Steps w A n f) (hn : n ≤ 1152921504606846976) :
    Calls Try.prog 3 #[.slice A n c] w fun e w' => e = .returned (.bool true) ∧ Below w.heap.size w w' := by
  have HS := Lib.hid hS
  clear hS
  go_enter Try.func3, Try.ntmps3
  go_wp2_with fail
  refine (awake_any _).mono ?_
  rintro e w1 ⟨rfl, h1⟩
  go_wp2_with fail
  refine (new_any _).mono ?_
  rintro e w2 ⟨rfl, N2, h2⟩
  obtain ⟨g, hg⟩ : ∃ g, g = w1.heap.size := ⟨_, rfl⟩
  have hgw : w.heap.size ≤ g := by have := h1.size; omega
  have hb := h1.trans (h2.mono h1.size)
  rw [← hg] at N2
  rw [← hg]
  have hg2 := N2.c0.lt
  have hA := below1' w2 (.cells #[.slice none 0 0, .int .i64 0] 29)
  have C0 := Cell.new w2 #[.slice none 0 0, .int .i64 0] 29 0 _ rfl
  have C1 := Cell.new w2 #[.slice none 0 0, .int .i64 0] 29 1 _ rfl
  have hb3 := hb.trans (hA.mono hb.size)
  have N3 : Net (w2.alloc (.cells #[.slice none 0 0, .int .i64 0] 29)) g g 0 (.slice none 0 0) [] := N2.below hA
  have R3 : RNet (w2.alloc (.cells #[.slice none 0 0, .int .i64 0] 29)) w2.heap.size g 0 (.slice none 0 0) [] := ⟨C1, C0, World.ownsRow_nil _ _ _ _, by omega, fun h => by cases h⟩
  have hsz : (w2.alloc (.cells #[.slice none 0 0, .int .i64 0] 29)).heap.size = w2.heap.size + 1 := by simp
  have M0 : Hid (J (w2.alloc (.cells #[.slice none 0 0, .int .i64 0] 29)) g w2.heap.size g none none 0 [] 0 [] []) :=
    ⟨⟨fun b => b = g ∨ b = w2.heap.size, Line.new N3 (.inl rfl) (fun b h => by rw [hsz]; rcases h with h | h <;> omega), ⟨_, [], R3, rfl, rfl, fun p h => (by cases h), .inr rfl, fun r h => (by cases h), fun b h => by rw [hsz]; rcases h with h | h <;> omega⟩, fun p h => by cases h⟩, by omega, fun h => (by cases h), fun h => (by cases h), fun b h => by cases h⟩
  clear hg h1 h2 N2 hb hA C0 C1 N3 R3 hsz
  go_wp2_with fail
  obtain ⟨gr, hgr⟩ : ∃ gr, gr = w2.heap.size := ⟨_, rfl⟩
  obtain ⟨W3, hW3⟩ : ∃ W3, W3 = w2.alloc (.cells #[.slice none 0 0, .int .i64 0] 29) := ⟨_, rfl⟩
  rw [← hgr, ← hW3] at M0
  rw [← hW3] at hb3
  rw [← hgr, ← hW3]
  clear hgr hW3 hg2
  go_wp2
  go_loopw [6] (fun s6 wr => ∃ (k : Nat) (row rr : Option Nat) (last : Int) (C : List Cn), s6 = .int .i64 k ∧ k ≤ n ∧ Hid (J wr g gr g row rr last C last C []) ∧ Hid (PS last C k) ∧ Below w.heap.size w wr) (fun s6 _ => n - (intOf s6).toNat)
  case atStart => exact ⟨0, none, none, 0, [], rfl, by omega, M0, Lib.hid PS.start, hb3⟩
  case round =>
    clear hb3 M0
    obtain ⟨k, row, rr, last, C, rfl, hk, HJ, HP, hb⟩ := hrel
    by_cases hlt : k < n
    · rcases HS.out with h0 | ⟨gs, os, rfl, hst⟩
      · omega
      have st := hst k hlt
      clear hst
      have hgs : gs < w.heap.size := World.block_lt_of_cell? w _ st.c0
      obtain ⟨⟨what, id, i, fr, to, kd, sA, sc, l⟩, hfk⟩ : ∃ q, q = f k := ⟨_, rfl⟩
      rw [← hfk] at st
      clear hfk
      have c0 := (hb.cell (p := ⟨gs, os + k * 7, none⟩) hgs).trans st.c0
      have c1 := (hb.cell (p := ⟨gs, os + k * 7 + 1, none⟩) hgs).trans st.c1
      have c2 := (hb.cell (p := ⟨gs, os + k * 7 + 2, none⟩) hgs).trans st.c2
      have c3 := (hb.cell (p := ⟨gs, os + k * 7 + 3, none⟩) hgs).trans st.c3
      have c4 := (hb.cell (p := ⟨gs, os + k * 7 + 4, none⟩) hgs).trans st.c4
      have c5 := (hb.cell (p := ⟨gs, os + k * 7 + 5, none⟩) hgs).trans st.c5
      have c6 := (hb.cell (p := ⟨gs, os + k * 7 + 6, none⟩) hgs).trans st.c6
      simp only at c0 c1 c2 c3 c4 c5 c6
      have B0 := Lib.hid (Cell.new wr #[.int .i64 what, .int .i64 id, .int .i64 i, .int .i64 fr, .int .i64 to, .int .i64 kd, .slice sA l.length sc] 34 0 (.int .i64 what) rfl)
      have B1 := Lib.hid (Cell.new wr #[.int .i64 what, .int .i64 id, .int .i64 i, .int .i64 fr, .int .i64 to, .int .i64 kd, .slice sA l.length sc] 34 1 (.int .i64 id) rfl)
      have B2 := Lib.hid (Cell.new wr #[.int .i64 what, .int .i64 id, .int .i64 i, .int .i64 fr, .int .i64 to, .int .i64 kd, .slice sA l.length sc] 34 2 (.int .i64 i) rfl)
      have B3 := Lib.hid (Cell.new wr #[.int .i64 what, .int .i64 id, .int .i64 i, .int .i64 fr, .int .i64 to, .int .i64 kd, .slice sA l.length sc] 34 3 (.int .i64 fr) rfl)
      have B4 := Lib.hid (Cell.new wr #[.int .i64 what, .int .i64 id, .int .i64 i, .int .i64 fr, .int .i64 to, .int .i64 kd, .slice sA l.length sc] 34 4 (.int .i64 to) rfl)
      have B5 := Lib.hid (Cell.new wr #[.int .i64 what, .int .i64 id, .int .i64 i, .int .i64 fr, .int .i64 to, .int .i64 kd, .slice sA l.length sc] 34 5 (.int .i64 kd) rfl)
      have B6 := Lib.hid (Cell.new wr #[.int .i64 what, .int .i64 id, .int .i64 i, .int .i64 fr, .int .i64 to, .int .i64 kd, .slice sA l.length sc] 34 6 (.slice sA l.length sc) rfl)
      have HLT := Lib.hid HJ.out.lt
      have hV := below1' wr (.cells #[.int .i64 what, .int .i64 id, .int .i64 i, .int .i64 fr, .int .i64 to, .int .i64 kd, .slice sA l.length sc] 34)
      have HJV := Lib.hid (HJ.out.below hV)
      have hbV := Lib.hid (hb.trans (hV.mono hb.size))
      have HST := Lib.hid st
      have HLK : Hid (last < 4611686018427387904) := by have := HP.out.lk; show _ < _; omega
      have hxg : Hid (wr.heap.size ≠ g) := by have := HLT.out.2.1; show _ ≠ _; omega
      have hxr : Hid (some wr.heap.size ≠ row) := fun e => by have := (HLT.out.2.2.2.2.1 _ e.symm).2; omega
      have hxg2 : Hid (wr.heap.size ≠ gr) := by have := HLT.out.2.2.2.1; show _ ≠ _; omega
      have hxr2 : Hid (some wr.heap.size ≠ rr) := fun e => by have := (HLT.out.2.2.2.2.2 _ e.symm).2; omega
      clear hV st hb HJ
      by_cases hd0 : what = 0
      · subst hd0
        by_cases hok : okB fr to kd l.length = true
        · by_cases hfull : C.length < 1000
          · have SJ := Lib.hid (sendJ HJV.out i fr to kd sA l.length sc l hok rfl ((HST.out.rd.below hbV.out).more hgw) HST.out.nil hfull HP.out.l0 HLK.out)
            have HOK := Lib.hid hok
            have HF := Lib.hid hfull
            clear hok hfull
            go_wp2_with fail
            refine SJ.out.mono ?_
            rintro e w4 ⟨row', rfl, J4, T4⟩
            replace B2 := B2.out.two T4 hxg.out hxr.out
            replace B3 := B3.out.two T4 hxg.out hxr.out
            replace B4 := B4.out.two T4 hxg.out hxr.out
            replace B5 := B5.out.two T4 hxg.out hxr.out
            replace B6 := B6.out.two T4 hxg.out hxr.out
            have hb4 := hbV.out.trans ((HJV.out.belowL T4).mono hgw)
            have HJ4 := Lib.hid J4
            have S2 := Lib.hid (rsendJ J4 i fr to kd sA l.length sc l HOK.out rfl ((HST.out.rd.below hb4).more hgw) HF.out HP.out.l0 HLK.out)
            obtain ⟨bx, hbx⟩ : ∃ bx, bx = wr.heap.size := ⟨_, rfl⟩
            rw [← hbx] at B2 B3 B4 B5 B6
            rw [← hbx]
            clear hbx J4 T4 SJ HJV hbV B0 B1 c0 c1 c2 c3 c4 c5 c6 hxg hxr hxg2 hxr2
            obtain ⟨b2, _⟩ := B2
            obtain ⟨b3, _⟩ := B3
            obtain ⟨b4, _⟩ := B4
            obtain ⟨b5, _⟩ := B5
            obtain ⟨b6, _⟩ := B6
            go_wp2_with fail
            refine S2.out.mono ?_
            rintro e w5 ⟨rr', rfl, J5, T5⟩
            have hb5 := hb4.trans ((HJ4.out.belowR T5).mono hgw)
            have HJ5 := Lib.hid J5
            clear J5 T5 S2 HJ4 hb4 b2 b3 b4 b5 b6
            go_wp2
            go_roundw
            case rel => exact ⟨k + 1, row', rr', last + 1, _, by go_num, by omega, HJ5, HP.out.sent HOK.out HF.out, hb5⟩
            case measure => simp [intOf]; omega
          · have hfull' : 1000 ≤ C.length := by omega
            obtain ⟨M, hL, hR, _⟩ := HJV.out.lines
            have S1 := Lib.hid (send_line_full M g g row last C i fr to kd sA l.length sc _ hL hok hfull')
            clear hL hR
            go_wp2_with fail
            refine S1.out.mono ?_
            rintro e w4 ⟨rfl, h4⟩
            replace B2 := B2.out.keep h4
            replace B3 := B3.out.keep h4
            replace B4 := B4.out.keep h4
            replace B5 := B5.out.keep h4
            replace B6 := B6.out.keep h4
            have HJ4 := Lib.hid (HJV.out.below h4)
            have hb4 := hbV.out.trans (h4.mono hbV.out.size)
            obtain ⟨M, hL, hR, _⟩ := HJ4.out.lines
            have S2 := Lib.hid (rsend_line_full M gr g rr last C i fr to kd sA l.length sc _ hR hok hfull')
            obtain ⟨bx, hbx⟩ : ∃ bx, bx = wr.heap.size := ⟨_, rfl⟩
            rw [← hbx] at B2
            rw [← hbx] at B3
            rw [← hbx] at B4
            rw [← hbx] at B5
            rw [← hbx] at B6
            rw [← hbx]
            clear hbx hL hR h4 S1 HJV hbV B0 B1 c0 c1 c2 c3 c4 c5 c6
            obtain ⟨b2, _⟩ := B2
            obtain ⟨b3, _⟩ := B3
            obtain ⟨b4, _⟩ := B4
            obtain ⟨b5, _⟩ := B5
            obtain ⟨b6, _⟩ := B6
            go_wp2_with fail
            refine S2.out.mono ?_
            rintro e w5 ⟨rfl, h5⟩
            have HJ5 := Lib.hid (HJ4.out.below h5)
            have hb5 := hb4.trans (h5.mono hb4.size)
            clear h5 S2 HJ4 hb4 b2 b3 b4 b5 b6
            go_wp2
            go_roundw
            case rel => exact ⟨k + 1, row, rr, last, C, by go_num, by omega, HJ5, HP.out.next, hb5⟩
            case measure => simp [intOf]; omega
        · have hok : okB fr to kd l.length = false := by simpa using hok
          obtain ⟨M, hL, hR, _⟩ := HJV.out.lines
          have S1 := Lib.hid (send_bad M g g row last C i fr to kd sA l.length sc _ hL HST.out.len hok)
          clear hL hR
          go_wp2_with fail
          refine S1.out.mono ?_
          rintro e w4 ⟨rfl, h4⟩
          replace B2 := B2.out.keep h4
          replace B3 := B3.out.keep h4
          replace B4 := B4.out.keep h4
          replace B5 := B5.out.keep h4
          replace B6 := B6.out.keep h4
          have HJ4 := Lib.hid (HJV.out.below h4)
          have hb4 := hbV.out.trans (h4.mono hbV.out.size)
          obtain ⟨M, hL, hR, _⟩ := HJ4.out.lines
          have S2 := Lib.hid (rsend_bad gr i fr to kd sA l.length sc w4 HST.out.len hok)
          obtain ⟨bx, hbx⟩ : ∃ bx, bx = wr.heap.size := ⟨_, rfl⟩
          rw [← hbx] at B2
          rw [← hbx] at B3
          rw [← hbx] at B4
          rw [← hbx] at B5
          rw [← hbx] at B6
          rw [← hbx]
          clear hbx hL hR h4 S1 HJV hbV B0 B1 c0 c1 c2 c3 c4 c5 c6
          obtain ⟨b2, _⟩ := B2
          obtain ⟨b3, _⟩ := B3
          obtain ⟨b4, _⟩ := B4
          obtain ⟨b5, _⟩ := B5
          obtain ⟨b6, _⟩ := B6
          go_wp2_with fail
          refine S2.out.mono ?_
          rintro e w5 ⟨rfl, h5⟩
          have HJ5 := Lib.hid (HJ4.out.below h5)
          have hb5 := hb4.trans (h5.mono hb4.size)
          clear h5 S2 HJ4 hb4 b2 b3 b4 b5 b6
          go_wp2
          go_roundw
          case rel => exact ⟨k + 1, row, rr, last, C, by go_num, by omega, HJ5, HP.out.next, hb5⟩
          case measure => simp [intOf]; omega
      · by_cases hd1 : what = 1
        · subst hd1
          by_cases hin : ∃ c ∈ C, c.1 = id
          · have SJ := Lib.hid (deliverJ HJV.out id HP.out.good HLK.out HP.out.cl ⟨HST.out.lo, HST.out.hi⟩ hin)
            have HIN := Lib.hid hin
            clear hin
            go_wp2_with fail
            refine SJ.out.mono ?_
            rintro e w4 ⟨j, ⟨ci, cf, ct, ck, cl⟩, v, hj, hci, rfl, J4, T4⟩
            have hci : ci = id := hci
            subst hci
            have HCJ := Lib.hid hj
            obtain ⟨mA, mc, rfl, _⟩ := J4.body (v := v) (l := cl) (by simp)
            simp only [cnV]
            replace B1 := B1.out.two T4 hxg.out hxr.out
            have hb4 := hbV.out.trans ((HJV.out.belowL T4).mono hgw)
            have hV := below1' w4 (.cells #[.int .i64 ci, .int .i64 cf, .int .i64 ct, .int .i64 ck, .slice mA cl.length mc] 32)
            have V0 := Cell.new w4 #[.int .i64 ci, .int .i64 cf, .int .i64 ct, .int .i64 ck, .slice mA cl.length mc] 32 0 _ rfl
            have V1 := Cell.new w4 #[.int .i64 ci, .int .i64 cf, .int .i64 ct, .int .i64 ck, .slice mA cl.length mc] 32 1 _ rfl
            have V2 := Cell.new w4 #[.int .i64 ci, .int .i64 cf, .int .i64 ct, .int .i64 ck, .slice mA cl.length mc] 32 2 _ rfl
            have V3 := Cell.new w4 #[.int .i64 ci, .int .i64 cf, .int .i64 ct, .int .i64 ck, .slice mA cl.length mc] 32 3 _ rfl
            have V4 := Cell.new w4 #[.int .i64 ci, .int .i64 cf, .int .i64 ct, .int .i64 ck, .slice mA cl.length mc] 32 4 _ rfl
            replace B1 := B1.keep hV
            have HJ5 := Lib.hid (J4.below hV)
            have hvg : Hid (w4.heap.size ≠ gr) := by have := J4.lt.2.2.2.1; show _ ≠ _; omega
            have hvr : Hid (some w4.heap.size ≠ rr) := fun e => by have := (J4.lt.2.2.2.2.2 _ e.symm).2; omega
            have hb5 := hb4.trans (hV.mono hb4.size)
            have S2 := Lib.hid (rdeliverJ HJ5.out ci HP.out.good HP.out.cl HIN.out)
            obtain ⟨bx, hbx⟩ : ∃ bx, bx = wr.heap.size := ⟨_, rfl⟩
            rw [← hbx] at B1
            rw [← hbx]
            clear hbx J4 T4 SJ HJV hbV B0 B2 B3 B4 B5 B6 c0 c1 c2 c3 c4 c5 c6 hxg hxr hxg2 hxr2 hV hb4 hj
            obtain ⟨b1, _⟩ := B1
            go_wp2_with fail
            refine S2.out.mono ?_
            rintro e w6 ⟨j2, ⟨di, df, dt, dk, dl⟩, v2, rr', hj2, hdi, rfl, J6, T6⟩
            have hdi : di = ci := hdi
            obtain ⟨rfl, hcd⟩ := HP.out.good.one HCJ.out hj2 (show ci = di from hdi.symm)
            injection hcd with e1 e2
            injection e2 with e2 e3
            injection e3 with e3 e4
            injection e4 with e4 e5
            subst e1 e2 e3 e4 e5
            clear hdi hj2
            obtain ⟨mA', mc', hv1, hr1⟩ := J6.body (v := .slice mA cl.length mc) (l := cl) (by simp)
            obtain rfl : mA = mA' := by injection hv1
            clear hv1
            obtain ⟨mA2, mc2, rfl, hr2⟩ := J6.body (v := v2) (l := cl) (by simp)
            simp only [cnV]
            replace V0 := V0.two T6 hvg.out hvr.out
            replace V1 := V1.two T6 hvg.out hvr.out
            replace V2 := V2.two T6 hvg.out hvr.out
            replace V3 := V3.two T6 hvg.out hvr.out
            replace V4 := V4.two T6 hvg.out hvr.out
            have hb6 := hb5.trans ((HJ5.out.belowR T6).mono hgw)
            have hY := below1' w6 (.cells #[.int .i64 ci, .int .i64 cf, .int .i64 ct, .int .i64 ck, .slice mA2 cl.length mc2] 32)
            have Y0 := Cell.new w6 #[.int .i64 ci, .int .i64 cf, .int .i64 ct, .int .i64 ck, .slice mA2 cl.length mc2] 32 0 _ rfl
            have Y1 := Cell.new w6 #[.int .i64 ci, .int .i64 cf, .int .i64 ct, .int .i64 ck, .slice mA2 cl.length mc2] 32 1 _ rfl
            have Y2 := Cell.new w6 #[.int .i64 ci, .int .i64 cf, .int .i64 ct, .int .i64 ck, .slice mA2 cl.length mc2] 32 2 _ rfl
            have Y3 := Cell.new w6 #[.int .i64 ci, .int .i64 cf, .int .i64 ct, .int .i64 ck, .slice mA2 cl.length mc2] 32 3 _ rfl
            have Y4 := Cell.new w6 #[.int .i64 ci, .int .i64 cf, .int .i64 ct, .int .i64 ck, .slice mA2 cl.length mc2] 32 4 _ rfl
            replace V0 := V0.keep hY
            replace V1 := V1.keep hY
            replace V2 := V2.keep hY
            replace V3 := V3.keep hY
            replace V4 := V4.keep hY
            have HJ7 := Lib.hid (J6.drop.below hY)
            have hb7 := hb6.trans (hY.mono hb6.size)
            have S3 := Lib.hid (same_any (ci, cf, ct, ck, cl) (ci, cf, ct, ck, cl) mA mc mA2 mc2 _ ((hr1.below hY).more hY.size) ((hr2.below hY).more hY.size))
            replace S3 := S3.out
            rw [decide_eq_true (rfl : ((ci, cf, ct, ck, cl) : Cn) = (ci, cf, ct, ck, cl))] at S3
            simp only [cnV] at S3
            replace S3 := Lib.hid S3
            clear J6 T6 S2 HJ5 hb5 hb6 b1 hY hr1 hr2 hvg hvr
            replace V0 := V0.1
            replace V1 := V1.1
            replace V2 := V2.1
            replace V3 := V3.1
            replace V4 := V4.1
            replace Y0 := Y0.1
            replace Y1 := Y1.1
            replace Y2 := Y2.1
            replace Y3 := Y3.1
            replace Y4 := Y4.1
            obtain ⟨bv, hbv⟩ : ∃ bv, bv = w4.heap.size := ⟨_, rfl⟩
            rw [← hbv] at V0 V1 V2 V3 V4
            rw [← hbv]
            clear hbv
            go_wp2_with fail
            refine S3.out.mono ?_
            rintro e w8 ⟨rfl, h8⟩
            have HJ8 := Lib.hid (HJ7.out.below h8)
            have hb8 := hb7.trans (h8.mono hb7.size)
            clear h8 S3 HJ7 hb7 V0 V1 V2 V3 V4 Y0 Y1 Y2 Y3 Y4
            go_wp2
            go_roundw
            case rel => exact ⟨k + 1, row, rr', last, _, by go_num, by omega, HJ8, HP.out.gone j, hb8⟩
            case measure => simp [intOf]; omega
          · have hno : ∀ c ∈ C, c.1 ≠ id := fun c hc h => hin ⟨c, hc, h⟩
            obtain ⟨M, hL, hR, _⟩ := HJV.out.lines
            have S1 := Lib.hid (deliver_line_none M g g row last C id _ hL HP.out.good HLK.out HP.out.cl ⟨HST.out.lo, HST.out.hi⟩ hno)
            clear hL hR hin
            go_wp2_with fail
            refine S1.out.mono ?_
            rintro e w4 ⟨rfl, h4⟩
            have hV := below1' w4 (.cells #[.int .i64 0, .int .i64 0, .int .i64 0, .int .i64 0, .slice none 0 0] 32)
            have V0 := Cell.new w4 #[.int .i64 0, .int .i64 0, .int .i64 0, .int .i64 0, .slice none 0 0] 32 0 _ rfl
            have V1 := Cell.new w4 #[.int .i64 0, .int .i64 0, .int .i64 0, .int .i64 0, .slice none 0 0] 32 1 _ rfl
            have V2 := Cell.new w4 #[.int .i64 0, .int .i64 0, .int .i64 0, .int .i64 0, .slice none 0 0] 32 2 _ rfl
            have V3 := Cell.new w4 #[.int .i64 0, .int .i64 0, .int .i64 0, .int .i64 0, .slice none 0 0] 32 3 _ rfl
            have V4 := Cell.new w4 #[.int .i64 0, .int .i64 0, .int .i64 0, .int .i64 0, .slice none 0 0] 32 4 _ rfl
            replace B1 := (B1.out.keep h4).keep hV
            have HJ4 := Lib.hid ((HJV.out.below h4).below hV)
            have hb4 := (hbV.out.trans (h4.mono hbV.out.size)).trans (hV.mono (hbV.out.trans (h4.mono hbV.out.size)).size)
            obtain ⟨M, hL, hR, _⟩ := HJ4.out.lines
            have S2 := Lib.hid (rdeliver_line_none M gr g rr last C id _ hR HP.out.cl hno)
            obtain ⟨bx, hbx⟩ : ∃ bx, bx = wr.heap.size := ⟨_, rfl⟩
            rw [← hbx] at B1
            rw [← hbx]
            clear hbx hL hR h4 S1 HJV hbV B0 B2 B3 B4 B5 B6 c0 c1 c2 c3 c4 c5 c6 hV hno
            obtain ⟨b1, _⟩ := B1
            go_wp2_with fail
            refine S2.out.mono ?_
            rintro e w6 ⟨rfl, h6⟩
            have hY := below1' w6 (.cells #[.int .i64 0, .int .i64 0, .int .i64 0, .int .i64 0, .slice none 0 0] 32)
            have Y0 := Cell.new w6 #[.int .i64 0, .int .i64 0, .int .i64 0, .int .i64 0, .slice none 0 0] 32 0 _ rfl
            have Y1 := Cell.new w6 #[.int .i64 0, .int .i64 0, .int .i64 0, .int .i64 0, .slice none 0 0] 32 1 _ rfl
            have Y2 := Cell.new w6 #[.int .i64 0, .int .i64 0, .int .i64 0, .int .i64 0, .slice none 0 0] 32 2 _ rfl
            have Y3 := Cell.new w6 #[.int .i64 0, .int .i64 0, .int .i64 0, .int .i64 0, .slice none 0 0] 32 3 _ rfl
            have Y4 := Cell.new w6 #[.int .i64 0, .int .i64 0, .int .i64 0, .int .i64 0, .slice none 0 0] 32 4 _ rfl
            replace V0 := (V0.keep h6).keep hY
            replace V1 := (V1.keep h6).keep hY
            replace V2 := (V2.keep h6).keep hY
            replace V3 := (V3.keep h6).keep hY
            replace V4 := (V4.keep h6).keep hY
            have HJ7 := Lib.hid ((HJ4.out.below h6).below hY)
            have hb6 := hb4.trans (h6.mono hb4.size)
            have hb7 := hb6.trans (hY.mono hb6.size)
            have S3 := same_any (0, 0, 0, 0, []) (0, 0, 0, 0, []) none 0 none 0 (w6.alloc (.cells #[.int .i64 0, .int .i64 0, .int .i64 0, .int .i64 0, .slice none 0 0] 32)) (Rd.nil_ _ _ _) (Rd.nil_ _ _ _)
            rw [decide_eq_true (rfl : ((0, 0, 0, 0, []) : Cn) = (0, 0, 0, 0, []))] at S3
            simp only [cnV, List.length_nil] at S3
            replace S3 := Lib.hid S3
            clear S2 HJ4 hb4 hb6 b1 hY h6
            replace V0 := V0.1
            replace V1 := V1.1
            replace V2 := V2.1
            replace V3 := V3.1
            replace V4 := V4.1
            replace Y0 := Y0.1
            replace Y1 := Y1.1
            replace Y2 := Y2.1
            replace Y3 := Y3.1
            replace Y4 := Y4.1
            obtain ⟨bv, hbv⟩ : ∃ bv, bv = w4.heap.size := ⟨_, rfl⟩
            rw [← hbv] at V0 V1 V2 V3 V4
            rw [← hbv]
            clear hbv
            go_wp2_with fail
            refine S3.out.mono ?_
            rintro e w8 ⟨rfl, h8⟩
            have HJ8 := Lib.hid (HJ7.out.below h8)
            have hb8 := hb7.trans (h8.mono hb7.size)
            clear h8 S3 HJ7 hb7 V0 V1 V2 V3 V4 Y0 Y1 Y2 Y3 Y4
            go_wp2
            go_roundw
            case rel => exact ⟨k + 1, row, rr, last, C, by go_num, by omega, HJ8, HP.out.next, hb8⟩
            case measure => simp [intOf]; omega
        · by_cases hd2 : what = 2
          · subst hd2
            by_cases hin : ∃ c ∈ C, c.1 = id
            · have SJ := Lib.hid (dropJ HJV.out id HP.out.good HLK.out HP.out.cl ⟨HST.out.lo, HST.out.hi⟩ hin)
              have HIN := Lib.hid hin
              clear hin
              go_wp2_with fail
              refine SJ.out.mono ?_
              rintro e w4 ⟨j, ci, hj, hci, rfl, J4, T4⟩
              have HCJ := Lib.hid hj
              have HCI : Hid (ci.1 = id) := hci
              replace B1 := B1.out.two T4 hxg.out hxr.out
              have hb4 := hbV.out.trans ((HJV.out.belowL T4).mono hgw)
              have HJ4 := Lib.hid J4
              have S2 := Lib.hid (rdropJ J4 id HP.out.good HP.out.cl HIN.out)
              obtain ⟨bx, hbx⟩ : ∃ bx, bx = wr.heap.size := ⟨_, rfl⟩
              rw [← hbx] at B1
              rw [← hbx]
              clear hbx J4 T4 SJ HJV hbV B0 B2 B3 B4 B5 B6 c0 c1 c2 c3 c4 c5 c6 hxg hxr hxg2 hxr2 hj hci
              obtain ⟨b1, _⟩ := B1
              go_wp2_with fail
              refine S2.out.mono ?_
              rintro e w5 ⟨j2, di, rr', hj2, hdi, rfl, J5, T5⟩
              obtain ⟨rfl, rfl⟩ := HP.out.good.one HCJ.out hj2 (HCI.out.trans hdi.symm)
              clear hdi hj2
              have hb5 := hb4.trans ((HJ4.out.belowR T5).mono hgw)
              have HJ5 := Lib.hid J5
              clear J5 T5 S2 HJ4 hb4 b1
              go_wp2
              go_roundw
              case rel => exact ⟨k + 1, row, rr', last, _, by go_num, by omega, HJ5, HP.out.gone j, hb5⟩
              case measure => simp [intOf]; omega
            · have hno : ∀ c ∈ C, c.1 ≠ id := fun c hc h => hin ⟨c, hc, h⟩

              obtain ⟨M, hL, hR, _⟩ := HJV.out.lines
              have S1 := Lib.hid (drop_line_none M g g row last C id _ hL HP.out.good HLK.out HP.out.cl ⟨HST.out.lo, HST.out.hi⟩ hno)
              clear hL hR
              go_wp2_with fail
              refine S1.out.mono ?_
              rintro e w4 ⟨rfl, h4⟩
              replace B1 := B1.out.keep h4
              have HJ4 := Lib.hid (HJV.out.below h4)
              have hb4 := hbV.out.trans (h4.mono hbV.out.size)
              obtain ⟨M, hL, hR, _⟩ := HJ4.out.lines
              have S2 := Lib.hid (rdrop_line_none M gr g rr last C id _ hR HP.out.cl hno)
              obtain ⟨bx, hbx⟩ : ∃ bx, bx = wr.heap.size := ⟨_, rfl⟩
              rw [← hbx] at B1
              rw [← hbx]
              clear hbx hL hR h4 S1 HJV hbV B0 B2 B3 B4 B5 B6 c0 c1 c2 c3 c4 c5 c6
              obtain ⟨b1, _⟩ := B1
              go_wp2_with fail
              refine S2.out.mono ?_
              rintro e w5 ⟨rfl, h5⟩
              have HJ5 := Lib.hid (HJ4.out.below h5)
              have hb5 := hb4.trans (h5.mono hb4.size)
              clear h5 S2 HJ4 hb4 b1
              go_wp2
              go_roundw
              case rel => exact ⟨k + 1, row, rr, last, C, by go_num, by omega, HJ5, HP.out.next, hb5⟩
              case measure => simp [intOf]; omega
          · by_cases hd3 : what = 3
            · subst hd3
              by_cases hin : ∃ c ∈ C, c.1 = id
              · by_cases hfull : C.length < 1000
                · have HF := Lib.hid hfull
                  clear hfull

                  have SJ := Lib.hid (doubleJ HJV.out id HP.out.good HP.out.l0 HLK.out HF.out ⟨HST.out.lo, HST.out.hi⟩ hin)
                  have HIN := Lib.hid hin
                  clear hin
                  go_wp2_with fail
                  refine SJ.out.mono ?_
                  rintro e w4 ⟨ci, row', hj, hci, rfl, J4, T4⟩
                  have HCJ := Lib.hid hj
                  have HCI : Hid (ci.1 = id) := hci
                  replace B1 := B1.out.two T4 hxg.out hxr.out
                  have hb4 := hbV.out.trans ((HJV.out.belowL T4).mono hgw)
                  have HJ4 := Lib.hid J4
                  have S2 := Lib.hid (rdoubleJ J4 id HP.out.good HP.out.l0 HLK.out HF.out HIN.out)
                  obtain ⟨bx, hbx⟩ : ∃ bx, bx = wr.heap.size := ⟨_, rfl⟩
                  rw [← hbx] at B1
                  rw [← hbx]
                  clear hbx J4 T4 SJ HJV hbV B0 B2 B3 B4 B5 B6 c0 c1 c2 c3 c4 c5 c6 hxg hxr hxg2 hxr2 hj hci
                  obtain ⟨b1, _⟩ := B1
                  go_wp2_with fail
                  refine S2.out.mono ?_
                  rintro e w5 ⟨di, rr', hj2, hdi, rfl, J5, T5⟩
                  obtain rfl := HP.out.good.oneM HCJ.out hj2 (HCI.out.trans hdi.symm)
                  clear hdi hj2
                  have hb5 := hb4.trans ((HJ4.out.belowR T5).mono hgw)
                  have HJ5 := Lib.hid J5
                  clear J5 T5 S2 HJ4 hb4 b1
                  go_wp2
                  go_roundw
                  case rel => exact ⟨k + 1, row', rr', last + 1, _, by go_num, by omega, HJ5, HP.out.sent (HP.out.good.okB HCJ.out) HF.out, hb5⟩
                  case measure => simp [intOf]; omega
                · have hfull' : C.length = 1000 := by have := HP.out.cl; omega

                  obtain ⟨M, hL, hR, _⟩ := HJV.out.lines
                  have S1 := Lib.hid (double_line_full M g g row last C id _ hL HP.out.good HLK.out hfull' ⟨HST.out.lo, HST.out.hi⟩ hin)
                  clear hL hR
                  go_wp2_with fail
                  refine S1.out.mono ?_
                  rintro e w4 ⟨rfl, h4⟩
                  replace B1 := B1.out.keep h4
                  have HJ4 := Lib.hid (HJV.out.below h4)
                  have hb4 := hbV.out.trans (h4.mono hbV.out.size)
                  obtain ⟨M, hL, hR, _⟩ := HJ4.out.lines
                  have S2 := Lib.hid (rdouble_line_full M gr g rr last C id _ hR HP.out.good hfull' hin)
                  obtain ⟨bx, hbx⟩ : ∃ bx, bx = wr.heap.size := ⟨_, rfl⟩
                  rw [← hbx] at B1
                  rw [← hbx]
                  clear hbx hL hR h4 S1 HJV hbV B0 B2 B3 B4 B5 B6 c0 c1 c2 c3 c4 c5 c6
                  obtain ⟨b1, _⟩ := B1
                  go_wp2_with fail
                  refine S2.out.mono ?_
                  rintro e w5 ⟨rfl, h5⟩
                  have HJ5 := Lib.hid (HJ4.out.below h5)
                  have hb5 := hb4.trans (h5.mono hb4.size)
                  clear h5 S2 HJ4 hb4 b1
                  go_wp2
                  go_roundw
                  case rel => exact ⟨k + 1, row, rr, last, C, by go_num, by omega, HJ5, HP.out.next, hb5⟩
                  case measure => simp [intOf]; omega
              · have hno : ∀ c ∈ C, c.1 ≠ id := fun c hc h => hin ⟨c, hc, h⟩

                obtain ⟨M, hL, hR, _⟩ := HJV.out.lines
                have S1 := Lib.hid (double_line_none M g g row last C id _ hL HP.out.good HLK.out HP.out.cl ⟨HST.out.lo, HST.out.hi⟩ hno)
                clear hL hR
                go_wp2_with fail
                refine S1.out.mono ?_
                rintro e w4 ⟨rfl, h4⟩
                replace B1 := B1.out.keep h4
                have HJ4 := Lib.hid (HJV.out.below h4)
                have hb4 := hbV.out.trans (h4.mono hbV.out.size)
                obtain ⟨M, hL, hR, _⟩ := HJ4.out.lines
                have S2 := Lib.hid (rdouble_line_none M gr g rr last C id _ hR HP.out.cl hno)
                obtain ⟨bx, hbx⟩ : ∃ bx, bx = wr.heap.size := ⟨_, rfl⟩
                rw [← hbx] at B1
                rw [← hbx]
                clear hbx hL hR h4 S1 HJV hbV B0 B2 B3 B4 B5 B6 c0 c1 c2 c3 c4 c5 c6
                obtain ⟨b1, _⟩ := B1
                go_wp2_with fail
                refine S2.out.mono ?_
                rintro e w5 ⟨rfl, h5⟩
                have HJ5 := Lib.hid (HJ4.out.below h5)
                have hb5 := hb4.trans (h5.mono hb4.size)
                clear h5 S2 HJ4 hb4 b1
                go_wp2
                go_roundw
                case rel => exact ⟨k + 1, row, rr, last, C, by go_num, by omega, HJ5, HP.out.next, hb5⟩
                case measure => simp [intOf]; omega
            · by_cases hd4 : what = 4
              · subst hd4
                obtain ⟨M, hL, hR, _⟩ := HJV.out.lines
                have S1 := Lib.hid (to_line M g g row last C id _ hL HP.out.good HP.out.cl)
                clear hL hR
                go_wp2_with fail
                refine S1.out.mono ?_
                rintro e w4 ⟨tA, tc, rfl, O4, h4⟩
                replace B1 := B1.out.keep h4
                have HJ4 := Lib.hid (HJV.out.below h4)
                have hb4 := hbV.out.trans (h4.mono hbV.out.size)
                obtain ⟨M, hL, hR, _⟩ := HJ4.out.lines
                have S2 := Lib.hid (rto_line M gr g rr last C id _ hR HP.out.cl)
                obtain ⟨bx, hbx⟩ : ∃ bx, bx = wr.heap.size := ⟨_, rfl⟩
                rw [← hbx] at B1
                rw [← hbx]
                have HO4 := Lib.hid O4
                clear hbx hL hR h4 S1 HJV hbV B0 B2 B3 B4 B5 B6 c0 c1 c2 c3 c4 c5 c6 O4
                obtain ⟨b1, _⟩ := B1
                go_wp2_with fail
                refine S2.out.mono ?_
                rintro e w5 ⟨tA2, tc2, rfl, O5, h5⟩
                have HJ5 := Lib.hid (HJ4.out.below h5)
                have hb5 := hb4.trans (h5.mono hb4.size)
                have S3 := Lib.hid (sameints_eq (toC C id) tA tA2 tc tc2 _ _ w5 (HO4.out.below h5) O5 (Nat.le_trans (toC_len C id) HP.out.cl))
                obtain ⟨tn, htn⟩ : ∃ tn, tn = (toC C id).length := ⟨_, rfl⟩
                replace S3 := S3.out
                rw [← htn] at S3
                rw [← htn]
                replace S3 := Lib.hid S3
                clear h5 S2 HJ4 hb4 b1 O5 HO4 htn
                go_wp2_with fail
                refine S3.out.mono ?_
                rintro e w6 ⟨rfl, h6⟩
                have HJ6 := Lib.hid (HJ5.out.below h6)
                have hb6 := hb5.trans (h6.mono hb5.size)
                clear h6 S3 HJ5 hb5
                go_wp2
                go_roundw
                case rel => exact ⟨k + 1, row, rr, last, C, by go_num, by omega, HJ6, HP.out.next, hb6⟩
                case measure => simp [intOf]; omega
              · clear B0 B1 B2 B3 B4 B5 B6
                have hn0 : (what == 0) = false := by rw [beq_eq_false_iff_ne]; exact hd0
                have hn1 : (what == 1) = false := by rw [beq_eq_false_iff_ne]; exact hd1
                have hn2 : (what == 2) = false := by rw [beq_eq_false_iff_ne]; exact hd2
                have hn3 : (what == 3) = false := by rw [beq_eq_false_iff_ne]; exact hd3
                have hn4 : (what == 4) = false := by rw [beq_eq_false_iff_ne]; exact hd4
                have hb4 := hbV.out
                go_wp2
                go_roundw
                case rel => exact ⟨k + 1, row, rr, last, C, by go_num, by omega, HJV, HP.out.next, hb4⟩
                case measure => simp [intOf]; omega
    · obtain rfl : k = n := by omega
      obtain ⟨M, hL, hR, _⟩ := HJ.out.lines
      have SM := Lib.hid (lsame_any M g gr g row rr last last C wr hL hR HP.out.cl)
      clear hL hR
      go_wp2_with fail
      refine SM.out.mono ?_
      rintro e w4 ⟨rfl, h4⟩
      have hb4 := hb.trans (h4.mono hb.size)
      clear h4 hb SM
      go_wp2
      go_ret
      exact ⟨rfl, hb4⟩
end Go.Proofs.Ytekgmgiokmbliaa
