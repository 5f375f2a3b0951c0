/-
  The table's Split.
-/
import Derived.Test.YtninjoepdchmiaaTable
import Derived.Deep.RegionLaw
import Derived.Deep.CutBlock
set_option linter.unusedVariables false
namespace Go.Proofs.Ytninjoepdchmiaa
open Go.RowKit

def maxGen : Int := 9007199254740991
/-- what a split makes: the ranges, and the error's number -/
def splitD (ds : List RD) (id other : Int) (key : List UInt8) : List RD × Int :=
  match ds[idxD ds id]? with
  | none => (ds, 151)
  | some r =>
    if 110 < key.length ∨ ctB r.fr r.to key = false ∨ key = r.fr then (ds, 150)
    else if other < 1 ∨ 255 < other ∨ idxD ds other < ds.length then (ds, 150)
    else if 32 ≤ ds.length ∨ r.gen = maxGen then (ds, 152)
    else (ds.take (idxD ds id) ++ [⟨r.id, r.gen + 1, r.fr, key⟩, ⟨other, r.gen + 1, key, r.to⟩] ++ ds.drop (idxD ds id + 1), 0)
def GenOk (ds : List RD) : Prop := ∀ r ∈ ds, 1 ≤ r.gen ∧ r.gen ≤ 9007199254740991
theorem flatten_set {s : Nat} : ∀ (rows : List (List Value)) (k j : Nat) (v : Value) (h : k < rows.length), (∀ r ∈ rows, r.length = s) → j < s → rows.flatten.set (k * s + j) v = (rows.set k ((rows[k]).set j v)).flatten
  | [], _, _, _, h, _, _ => by simp at h
  | r :: rows, 0, j, v, _, hs, hj => by
    rw [List.flatten_cons, Nat.zero_mul, Nat.zero_add, List.set_append_left _ _ (by rw [hs r (by simp)]; exact hj)]
    rfl
  | r :: rows, k + 1, j, v, h, hs, hj => by
    have hr := hs r (by simp)
    rw [List.flatten_cons, List.set_append_right _ _ (by rw [hr, Nat.succ_mul]; omega)]
    have : (k + 1) * s + j - r.length = k * s + j := by rw [hr, Nat.succ_mul]; omega
    rw [this, flatten_set rows k j v (by simpa using h) (fun r hr => hs r (List.mem_cons_of_mem _ hr)) hj]
    rfl
/-- a cell of a row turned -/
theorem RRow.setc {w : World} {base q n c k j : Nat} {L : List RV} {x : RV} {v : Value} (h : RRow w base (.slice (some ⟨q, 0, none⟩) n c) L) (hk : k < L.length) (hj : j < 4) (hx : (rc L[k]).set j v = rc x) : RRow (w.setCell ⟨q, k * 4 + j, none⟩ v) base (.slice (some ⟨q, 0, none⟩) n c) (L.set k x) := by
  have hn := h.len
  subst hn
  have h1 := h.1
  rw [List.length_map] at h1
  have h2 := (World.ownsRow.stored h1 (k * 4 + j) v).1
  rw [flatten_set _ k j v (by simpa using hk) (rcs_len L) hj] at h2
  refine ⟨?_, rcs_len _⟩
  have e : (L.map rc).set k (((L.map rc)[k]'(by simpa using hk)).set j v) = (L.set k x).map rc := by
    rw [List.map_set, ← hx]
    simp
  rw [e] at h2
  simpa using h2
theorem infoBox (w : World) (x : RV) : True := trivial

theorem set_take {α : Type} {l : List α} {i : Nat} {a : α} (h : i < l.length) : (l.set i a).take (i + 1) = l.take i ++ [a] := by
  rw [List.take_set, List.take_succ_eq_append_getElem h, List.set_append_right _ _ (by simp; omega)]
  have : i - (l.take i).length = 0 := by simp; omega
  rw [this]; rfl
theorem set_drop {α : Type} {l : List α} {i : Nat} {a : α} : (l.set i a).drop (i + 1) = l.drop (i + 1) := by rw [List.drop_set, if_pos (by omega)]
theorem Tb.setc {w : World} {B p q n c k j : Nat} {L : List RV} {x : RV} {v : Value} (h : Tb w B p (some ⟨q, 0, none⟩) n c L) (hk : k < L.length) (hj : j < 4) (hx : (rc L[k]).set j v = rc x) (ht : RTs w (tbM p (.slice (some ⟨q, 0, none⟩) n c)) x) :
    Tb (w.setCell ⟨q, k * 4 + j, none⟩ v) B p (some ⟨q, 0, none⟩) n c (L.set k x) ∧ Turn (tbM p (.slice (some ⟨q, 0, none⟩) n c)) w (w.setCell ⟨q, k * 4 + j, none⟩ v) := by
  have hqp : q ≠ p := fun e => h.ne (by rw [e]; rfl)
  have hT := (Turn.refl (tbM p (.slice (some ⟨q, 0, none⟩) n c)) w).set (p := ⟨q, k * 4 + j, none⟩) (fun _ => .inr rfl) v
  refine ⟨⟨h.cell.far (by intro e; injection e with e; exact hqp e) v, h.row.setc hk hj hx, fun y hy => ?_, h.ne, h.pb⟩, hT⟩
  rcases List.mem_or_eq_of_mem_set hy with hy | rfl
  · exact (h.tx y hy).turn hT (fun _ _ hk => hk)
  · exact ht.turn hT (fun _ _ hk => hk)
theorem Box4.turn {M : Nat → Prop} {w w' : World} {g : Nat} {x : RV} (h : Box4 w g x) (ht : Turn M w w') (hg : ¬ M g) : Box4 w' g x := ⟨ht.keep h.c0 hg, ht.keep h.c1 hg, ht.keep h.c2 hg, ht.keep h.c3 hg⟩
/-- what a split leaves -/
def SplAns (w : World) (B p : Nat) (v : Value) (ds' : List RD) (err : Int) (e : Ending) (w' : World) : Prop :=
  e = .returned (.int .i64 err) ∧ ∃ A' n' c' L', Tb w' B p A' n' c' L' ∧ L'.map (·.d) = ds' ∧ Turn (tbM p v) w w'

set_option maxHeartbeats 3200000 in
set_option maxRecDepth 100000 in
theorem contf_any (L : List RV) (A : Option Addr) (n c g : Nat) (id : Int) (w : World) (hn : n = L.length) (hr : RsRd w w.heap.size A L) (hl : n ≤ 140737488351232) (hg : w.cell? ⟨g, 0, none⟩ = some (.int .i64 id)) :
    Calls Try.prog 57 #[.slice A n c, .func (.func 54) #[] #[.pointer (some ⟨g, 0, none⟩)]] w fun e w' => e = .returned (.bool (decide (0 ≤ idxI (L.map (·.d)) id))) ∧ Below w.heap.size w w' := by
  have C := Lib.hid (index_any L A n c g id w hn hr hl hg)
  obtain ⟨r, hr'⟩ : ∃ r, r = idxI (L.map (·.d)) id := ⟨_, rfl⟩
  rw [← hr'] at C
  rw [← hr']
  clear hn hr hg hr'
  go_enter Try.func57, Try.ntmps57
  go_wp2_with fail
  refine C.out.mono ?_
  rintro e w2 ⟨rfl, h2⟩
  go_wp2
  go_ret
  exact ⟨rfl, h2⟩

set_option maxHeartbeats 12800000 in
set_option maxRecDepth 100000 in
theorem split_any (B p n c : Nat) (A : Option Addr) (L : List RV) (id other : Int) (K : Option Addr) (nk kc : Nat) (key : List UInt8) (w : World) (h : Tb w B p A n c L) (hl : n ≤ 1000) (hg : GenOk (L.map (·.d))) (hs : Src w K nk kc key) (hkx : key ≠ [] → ∀ q o, K = some ⟨q, o, none⟩ → ¬ tbM p (.slice A n c) q) :
    Calls Try.prog 21 #[.pointer (some ⟨p, 0, none⟩), .int .i64 id, .slice K nk kc, .int .i64 other] w fun e w' => SplAns w B p (.slice A n c) (splitD (L.map (·.d)) id other key).1 (splitD (L.map (·.d)) id other key).2 e w' := by
  have HT := Lib.hid h
  have HS := Lib.hid hs
  have HG := Lib.hid hg
  have HKX := Lib.hid hkx
  clear hkx
  have HN := Lib.hid h.len
  have CH := Lib.hid (fun (i : Int) (W : World) => has_any i W)
  have CI := Lib.hid (fun (g : Nat) (i : Int) (W : World) (hb : Below w.heap.size w W) (hc : W.cell? ⟨g, 0, none⟩ = some (.int .i64 i)) => index_any L A n c g i W h.len (h.keep hb).rd (by omega) hc)
  have CF := Lib.hid (fun (g : Nat) (i : Int) (W : World) (hb : Below w.heap.size w W) (hc : W.cell? ⟨g, 0, none⟩ = some (.int .i64 i)) => contf_any L A n c g i W h.len (h.keep hb).rd (by omega) hc)
  have x0 := h.cell.1
  obtain ⟨ds, hds⟩ : ∃ ds, ds = L.map (·.d) := ⟨_, rfl⟩
  rw [← hds] at CI CF HG
  rw [← hds]
  have HD := Lib.hid hds
  have HDN : Hid (n = ds.length) := by show _ = _; rw [hds, HN.out]; simp
  obtain ⟨ri, hri⟩ : ∃ r, r = idxI ds id := ⟨_, rfl⟩
  have HRI := Lib.hid hri
  have HSTAY : Hid (∀ W, Below w.heap.size w W → SplAns w B p (.slice A n c) ds 151 (.returned (.int .i64 151)) W ∧ SplAns w B p (.slice A n c) ds 150 (.returned (.int .i64 150)) W ∧ SplAns w B p (.slice A n c) ds 152 (.returned (.int .i64 152)) W) := fun W hb =>
    ⟨⟨rfl, A, n, c, L, h.keep hb, hds.symm, Turn.of_below hb⟩, ⟨rfl, A, n, c, L, h.keep hb, hds.symm, Turn.of_below hb⟩, ⟨rfl, A, n, c, L, h.keep hb, hds.symm, Turn.of_below hb⟩⟩
  obtain ⟨sd, hsd⟩ : ∃ s, s = splitD ds id other key := ⟨_, rfl⟩
  have HSD := Lib.hid hsd
  rw [← hsd]
  clear h hs hg hds hri hsd
  go_enter Try.func21, Try.ntmps21
  go_upto_region 2 with fail
  have HX0 := Lib.hid (fun (W : World) (hb : Below w.heap.size w W) => ((HT.out.keep hb).cell.1))
  go_cut [10] from 13 (fun s10 wx => s10 = .int .i64 ri ∧ Below w.heap.size w wx)
  case first =>
    go_region_law (first
      | (go_simp; go_at_call 55; refine (CI.out w.drew.heap.size id w2 h2.out g2.out).mono ?_; rintro e w3 ⟨rfl, h3⟩; have H3 := Lib.hid (h2.out.trans (h3.mono h2.out.size)); clear h3)
      | (go_simp; go_at_call 53; refine (CH.out id w.drew).mono ?_; rintro e w2 ⟨rfl, g2', h2'⟩; have h2 := Lib.hid (below_of_drew (show Below w.heap.size w.drew w2 from h2')); have g2 := Lib.hid g2'; have x2 := HX0.out w2 h2.out; clear g2' h2'))
    all_goals
      go_wp2_with fail
      go_meet
      exact ⟨by rw [HRI.out], H3.out⟩
  case rest =>
    obtain ⟨rfl, hb2⟩ := hcut
    obtain ⟨i, hi⟩ : ∃ i, i = idxD ds id := ⟨_, rfl⟩
    by_cases hin : i < n
    rotate_left
    · have hneg : ri = -1 := by
        rw [HRI.out]
        unfold idxI
        rw [← hi, if_neg (by have := HDN.out; omega)]
      have HF : Hid (sd = (ds, 151)) := by
        show _ = _
        rw [HSD.out]
        unfold splitD
        rw [← hi, List.getElem?_eq_none (by have := HDN.out; omega)]
      subst hneg
      clear hi
      go_wp2
      go_ret
      rw [HF.out]
      exact (HSTAY.out _ hb2).1
    · have hri : ri = (i : Int) := by
        rw [HRI.out]
        unfold idxI
        rw [← hi, if_pos (by have := HDN.out; omega)]
      subst hri
      have hil : i < L.length := by have := HN.out; omega
      have T2 := HT.out.keep hb2
      obtain ⟨q, hA, _, hq, c0, c1, c2, c3⟩ := T2.row.at hil
      have hA' := hA
      subst hA'
      have htx := (T2.tx _ (List.getElem_mem hil)).tx
      have HE : Hid (ds[idxD ds id]? = some L[i].d) := by show _ = _; rw [← hi, HD.out, List.getElem?_map, List.getElem?_eq_getElem hil]; rfl
      obtain ⟨x, hx⟩ : ∃ x, x = L[i] := ⟨_, rfl⟩
      have HX := Lib.hid hx
      replace HE := HE.out
      rw [← hx] at c0 c1 c2 c3 htx HE
      have HE := Lib.hid HE
      have HI := Lib.hid hi
      have d0 := c0.1
      have d1 := c1.1
      have d2 := c2.1
      have d3 := c3.1
      have x0' := T2.cell.1
      obtain ⟨W, hW⟩ : ∃ W, W = wc.alloc (.cells #[.int .i64 x.d.id, .slice x.F x.d.fr.length x.fc, .slice x.T x.d.to.length x.tc, .int .i64 x.d.gen] 46) := ⟨_, rfl⟩
      have hbx : Below wc.heap.size wc W := by rw [hW]; exact below1' _ _
      have HBX := Lib.hid (Box4.new wc x)
      rw [← hW] at HBX
      have HTX := Lib.hid ((htx.below hbx).more hbx.size)
      have HBW := Lib.hid (hb2.trans (hbx.mono hb2.size))
      have HSW := Lib.hid (HS.out.keep HBW.out)
      have hin' : (i : Int) < (n : Int) := by omega
      have hnn : ¬ (i : Int) < 0 := by omega
      obtain ⟨b, hb⟩ : ∃ b, b = wc.heap.size := ⟨_, rfl⟩
      have HBB := Lib.hid hb
      have CT := Lib.hid (contains_any x.F x.T K x.d.fr.length x.fc x.d.to.length x.tc nk kc x.d.fr x.d.to key W rfl rfl HS.out.1.1 HTX.out.f HTX.out.t HSW.out.2 (len_max HTX.out.lf) (len_max HTX.out.lt) (len_max (by rw [HS.out.1.1]; exact HS.out.1.2.2)))
      obtain ⟨ct, hct⟩ : ∃ y, y = ctB x.d.fr x.d.to key := ⟨_, rfl⟩
      rw [← hct] at CT
      have HCT := Lib.hid hct
      have H150 : Hid ((110 < key.length ∨ ct = false ∨ key = x.d.fr) → sd = (ds, 150)) := fun h => by
        rw [HSD.out]
        unfold splitD
        rw [HE.out]
        simp only
        rw [if_pos (by rw [← HCT.out]; exact h)]
      have HNK := Lib.hid HS.out.1.1
      clear hi c0 c1 c2 c3 htx hx T2 hct
      by_cases hk : 110 < nk
      · have HF := Lib.hid (H150.out (.inl (by rw [← HNK.out]; exact hk)))
        have hk' : (110 : Int) < (nk : Int) := by omega
        go_wp2
        go_ret
        rw [HF.out, ← hW]
        exact (HSTAY.out _ HBW.out).2.1
      have hk' : (nk : Int) ≤ 110 := by omega
      go_wp2_with fail
      rw [← hb, ← hW]
      rw [← hb] at HBX
      clear hW hb hbx d0 d1 d2 d3 x0'
      refine CT.out.mono ?_
      rintro e w3 ⟨rfl, h3⟩
      have HB3 := Lib.hid (HBW.out.trans (h3.mono HBW.out.size))
      have HX3 := Lib.hid (HBX.out.keep h3)
      have HTX3 := Lib.hid ((HTX.out.below h3).more h3.size)
      have HS3 := Lib.hid (HSW.out.keep h3)
      clear h3 CT HBX HTX HSW
      cases ct with
      | false =>
        have HF := Lib.hid (H150.out (.inr (.inl rfl)))
        go_wp2
        go_ret
        rw [HF.out]
        exact (HSTAY.out _ HB3.out).2.1
      | true =>
        have EQ := Lib.hid (equal_at key x.d.fr K nk kc x.F x.d.fr.length x.fc w3 HNK.out rfl HS3.out.2 HTX3.out.f)
        obtain ⟨b0, b1, b2, b3⟩ := HX3.out
        have y1 := b1.1
        by_cases heq : key = x.d.fr
        · have HF := Lib.hid (H150.out (.inr (.inr heq)))
          have hde : decide (key = x.d.fr) = true := decide_eq_true heq
          replace EQ := EQ.out
          rw [hde] at EQ
          have EQ := Lib.hid EQ
          clear heq b0 b1 b2 b3
          go_wp2_with fail
          refine EQ.out.mono ?_
          rintro e w4 ⟨rfl, h4⟩
          have HB4 := Lib.hid (HB3.out.trans (h4.mono HB3.out.size))
          clear h4 hde
          go_wp2
          go_ret
          rw [HF.out]
          exact (HSTAY.out _ HB4.out).2.1
        · have hde : decide (key = x.d.fr) = false := decide_eq_false heq
          replace EQ := EQ.out
          rw [hde] at EQ
          have EQ := Lib.hid EQ
          have HNE := Lib.hid heq
          clear heq b0 b1 b2 b3 hde
          go_wp2_with fail
          refine EQ.out.mono ?_
          rintro e w4 ⟨rfl, h4⟩
          have HB4 := Lib.hid (HB3.out.trans (h4.mono HB3.out.size))
          have HX4 := Lib.hid (HX3.out.keep h4)
          have HTX4 := Lib.hid ((HTX3.out.below h4).more h4.size)
          have HS4 := Lib.hid (HS3.out.keep h4)
          clear h4 y1 EQ HX3 HTX3 HS3
          have H150b : Hid (other < 1 ∨ 255 < other ∨ idxD ds other < ds.length → sd = (ds, 150)) := fun h => by
            rw [HSD.out]
            unfold splitD
            rw [HE.out]
            simp only
            by_cases h1 : 110 < key.length ∨ ctB x.d.fr x.d.to key = false ∨ key = x.d.fr
            · rw [if_pos h1]
            · rw [if_neg h1, if_pos h]
          have x4 := HX0.out w4 HB4.out
          by_cases ho1 : other < 1
          · have HF := Lib.hid (H150b.out (.inl ho1))
            have hd1 : decide (other < 1) = true := decide_eq_true ho1
            go_upto_region 8 with fail
            go_quiet (fail)
            go_wp2
            go_ret
            rw [HF.out]
            exact (HSTAY.out _ (below_drewN HB4.out _)).2.1
          have ho1' : (1 : Int) ≤ other := by omega
          by_cases ho2 : 255 < other
          · have HF := Lib.hid (H150b.out (.inr (.inl ho2)))
            have hd1 : decide (other < 1) = false := decide_eq_false ho1
            have hd2 : decide (255 < other) = true := decide_eq_true ho2
            clear ho1'
            go_upto_region 8 with fail
            go_quiet (fail)
            go_wp2
            go_ret
            rw [HF.out]
            exact (HSTAY.out _ (below_drewN HB4.out _)).2.1
          have ho2' : other ≤ 255 := by omega
          have hd1 : decide (other < 1) = false := decide_eq_false ho1
          have hd2 : decide (255 < other) = false := decide_eq_false ho2
          have HO12 := Lib.hid (And.intro ho1' ho2')
          obtain ⟨r2, hr2⟩ : ∃ y, y = decide (0 ≤ idxI ds other) := ⟨_, rfl⟩
          have HR2 := Lib.hid hr2
          have HX5 := Lib.hid (fun (W : World) (hb : Below w4.heap.size w4 W) => HX0.out W (HB4.out.trans (hb.mono HB4.out.size)))
          have HCF := Lib.hid (fun (g : Nat) (W : World) (hb : Below w4.heap.size w4 W) (hc : W.cell? ⟨g, 0, none⟩ = some (.int .i64 other)) => CF.out g other W (HB4.out.trans (hb.mono HB4.out.size)) hc)
          replace HCF := HCF.out
          rw [← hr2] at HCF
          have HCF := Lib.hid HCF
          clear ho1 ho2 ho1' ho2' hr2
          go_upto_region 8 with fail
          go_cut [62] from 47 (fun s62 wx => s62 = .bool r2 ∧ Below w4.heap.size w4 wx)
          case first =>
            go_region_held3 (fun w' => w'.cell? ⟨p, 0, none⟩ = some (.slice (some ⟨q, 0, none⟩) n c)) (first | exact x4 | exact x6 | exact x7 | assumption)
              (first
                | (go_at_call 57; refine (HCF.out w4.drew.heap.size w6 h6.out g6.out).mono ?_; rintro e w7 ⟨rfl, h7'⟩; have h7 := Lib.hid (h6.out.trans (h7'.mono h6.out.size)); have x7 := HX5.out w7 h7.out; clear h7')
                | (go_at_call 53; refine (CH.out other w4.drew).mono ?_; rintro e w6 ⟨rfl, g6', h6'⟩; have h6 := Lib.hid (below_of_drew (show Below w4.heap.size w4.drew w6 from h6')); have g6 := Lib.hid g6'; have x6 := HX5.out w6 h6.out; clear g6' h6'))
            all_goals
              go_wp2_with fail
              go_meet
              exact ⟨rfl, h7.out⟩
          case rest =>
            obtain ⟨rfl, hb5⟩ := hcut
            have HB5 := Lib.hid (HB4.out.trans (hb5.mono HB4.out.size))
            have HX5b := Lib.hid (HX4.out.keep hb5)
            have HTX5 := Lib.hid ((HTX4.out.below hb5).more hb5.size)
            have HS5 := Lib.hid (HS4.out.keep hb5)
            have T5 := Lib.hid (HT.out.keep HB5.out)
            clear hb5 x4 HX4 HTX4 HS4 HCF HX5 CI CF CH hd1 hd2
            cases r2 with
            | true =>
              have HF := Lib.hid (H150b.out (.inr (.inr (by
                have h := of_decide_eq_true HR2.out.symm
                unfold idxI at h
                split at h
                · assumption
                · omega))))
              go_wp2
              go_ret
              rw [HF.out]
              exact (HSTAY.out _ HB5.out).2.1
            | false =>
              have H3 : Hid (¬ (other < 1 ∨ 255 < other ∨ idxD ds other < ds.length)) := by
                have h := of_decide_eq_false HR2.out.symm
                unfold idxI at h
                show ¬ _
                rintro (h1 | h1 | h1)
                · have := HO12.out.1; omega
                · have := HO12.out.2; omega
                · rw [if_pos h1] at h; omega
              have H4 : Hid (sd = if 32 ≤ ds.length ∨ x.d.gen = maxGen then (ds, 152) else (ds.take i ++ [⟨x.d.id, x.d.gen + 1, x.d.fr, key⟩, ⟨other, x.d.gen + 1, key, x.d.to⟩] ++ ds.drop (i + 1), 0)) := by
                show _ = _
                rw [HSD.out]
                unfold splitD
                rw [HE.out, ← HI.out]
                simp only
                rw [if_neg (by rw [← HCT.out]; rintro (h | h | h); exact absurd h (by rw [← HNK.out]; exact hk); exact absurd h (by simp); exact HNE.out h), if_neg H3.out]
              have xp := T5.out.cell.1
              obtain ⟨b0, b1, b2, b3⟩ := HX5b.out
              have y3 := b3.1
              have HGX : Hid (1 ≤ x.d.gen ∧ x.d.gen ≤ 9007199254740991) := HG.out _ (List.mem_of_getElem? HE.out)
              clear b0 b1 b2 b3
              by_cases hn32 : 32 ≤ n
              · have hn32' : (32 : Int) ≤ (n : Int) := by omega
                have HF : Hid (sd = (ds, 152)) := by show _ = _; rw [H4.out, if_pos (.inl (by rw [← HDN.out]; exact hn32))]
                go_wp2
                go_ret
                rw [HF.out]
                exact (HSTAY.out _ HB5.out).2.2
              have hn32' : (n : Int) < 32 := by omega
              by_cases hgm : x.d.gen = 9007199254740991
              · have hgm' : (x.d.gen == 9007199254740991) = true := by rw [hgm]; rfl
                have HF : Hid (sd = (ds, 152)) := by show _ = _; rw [H4.out, if_pos (.inr hgm)]
                clear hgm
                go_wp2
                go_ret
                rw [HF.out]
                exact (HSTAY.out _ HB5.out).2.2
              have hgm' : (x.d.gen == 9007199254740991) = false := by rw [beq_eq_false_iff_ne]; exact hgm
              have HF : Hid (sd = (ds.take i ++ [⟨x.d.id, x.d.gen + 1, x.d.fr, key⟩, ⟨other, x.d.gen + 1, key, x.d.to⟩] ++ ds.drop (i + 1), 0)) := by
                show _ = _
                rw [H4.out, if_neg (by rw [← HDN.out]; rintro (h | h); exact hn32 h; exact hgm h)]
              clear hgm hn32 H4 H3 H150 H150b HSTAY HRI HR2 HX0
              have hw3 : IntKind.i64.wrap (x.d.gen + 1) = x.d.gen + 1 := by have := HGX.out; exact IntWalk.i64_in _ (by omega)
              have hv3 : wrap64 (x.d.gen + 1) = x.d.gen + 1 := by have := HGX.out; unfold wrap64; omega
              obtain ⟨w5, rfl⟩ : ∃ x, x = wc := ⟨_, rfl⟩
              have CK := Lib.hid (fun (W : World) (h : Below w5.heap.size w5 W) => sclone_new K nk kc key W HNK.out (HS5.out.keep h).2 HS.out.1.2.2 HS.out.1.2.1)
              have HB52 := Lib.hid (fun (W : World) (h : Below w5.heap.size w5 W) => HX5b.out.keep h)
              have y2 := HX5b.out.c2.1
              go_upto_region 12 with fail
              go_cut [12] from 74 (fun s12 wx => ∃ (g : Nat) (A7 : Option Addr) (c7 : Nat), s12 = .pointer (some ⟨g, 0, none⟩) ∧ Hid (Box4 wx g ⟨⟨other, x.d.gen + 1, key, x.d.to⟩, A7, c7, x.T, x.tc⟩) ∧ Hid (NewT wx w5.heap.size A7 key.length c7 key) ∧ Hid (w5.heap.size ≤ g) ∧ Below w5.heap.size w5 wx)
              case first =>
                have hbz := Lib.hid (below1' w5 (.cells #[.int .i64 0, .slice none 0 0, .slice none 0 0, .int .i64 0] 46))
                have g2 := (HB52.out _ hbz.out).c2.1
                have g3 := (HB52.out _ hbz.out).c3.1
                have HZC := Lib.hid (fun j v (h : (#[Value.int .i64 0, .slice none 0 0, .slice none 0 0, .int .i64 0] : Array Value)[j]? = some v) => Cell.new w5 _ 46 j v h)
                go_region_law (first
                  | (go_simp; go_at_call 58; refine (CK.out w5.drew (below_drew (Below.refl _ _))).mono ?_; rintro e w6 ⟨A7, c7, rfl, n7, h7⟩; have H7 := Lib.hid (below_of_drew (show Below w5.heap.size w5.drew w6 from h7)); have N7 := Lib.hid (show NewT w6 w5.heap.size A7 nk c7 key from n7); have z2 := (HB52.out w6 H7.out).c2.1; have z3 := (HB52.out w6 H7.out).c3.1; have hbz6 := Lib.hid (H7.out.trans ((below1' w6 (.cells #[.int .i64 0, .slice none 0 0, .slice none 0 0, .int .i64 0] 46)).mono H7.out.size)); have z4 := (HB52.out _ hbz6.out).c2.1; have z5 := (HB52.out _ hbz6.out).c3.1; clear n7 h7)
                  | (go_simp; go_at_call 58; refine (CK.out (w5.alloc (.cells #[.int .i64 0, .slice none 0 0, .slice none 0 0, .int .i64 0] 46)).drew (below_drew hbz.out)).mono ?_; rintro e w8 ⟨A7, c7, rfl, n7, h7⟩; have H8 := Lib.hid (hbz.out.trans (below_of_drew (show Below (w5.alloc (.cells #[.int .i64 0, .slice none 0 0, .slice none 0 0, .int .i64 0] 46)).heap.size (w5.alloc (.cells #[.int .i64 0, .slice none 0 0, .slice none 0 0, .int .i64 0] 46)).drew w8 from h7) |>.mono hbz.out.size)); have N8 := Lib.hid (show NewT w8 (w5.heap.size + 1) A7 nk c7 key from (by simpa using n7)); have z2 := (HB52.out w8 H8.out).c2.1; have z3 := (HB52.out w8 H8.out).c3.1; have HZ8 := Lib.hid (fun j v h => (HZC.out j v h).keep (below_of_drew (show Below (w5.alloc (.cells #[.int .i64 0, .slice none 0 0, .slice none 0 0, .int .i64 0] 46)).heap.size (w5.alloc (.cells #[.int .i64 0, .slice none 0 0, .slice none 0 0, .int .i64 0] 46)).drew w8 from h7))); obtain ⟨k0, fk0⟩ := HZ8.out 0 _ rfl; obtain ⟨k1, fk1⟩ := HZ8.out 1 _ rfl; obtain ⟨k2, fk2⟩ := HZ8.out 2 _ rfl; obtain ⟨k3, fk3⟩ := HZ8.out 3 _ rfl; clear n7 h7))
                all_goals
                  have hnk := HNK.out
                  subst hnk
                  first
                    | have hbx := Lib.hid (below1' w6 (.cells #[.int .i64 other, .slice A7 key.length c7, .slice x.T x.d.to.length x.tc, .int .i64 (x.d.gen + 1)] 46))
                      have HBN := Lib.hid (Box4.new w6 ⟨⟨other, x.d.gen + 1, key, x.d.to⟩, A7, c7, x.T, x.tc⟩)
                      have HNN := Lib.hid (N7.out.keep hbx.out)
                      have HG6 := Lib.hid (And.intro H7.out.size (H7.out.trans (hbx.out.mono H7.out.size)))
                      clear z2 z3 z4 z5 g2 g3
                      go_wp2_with fail
                      go_meet
                      exact ⟨w6.heap.size, A7, c7, rfl, HBN.out, HNN.out, HG6.out.1, HG6.out.2⟩
                    | have TE := Lib.hid (((((Turn.refl (fun k => k = w5.heap.size) w8).set (p := ⟨w5.heap.size, 0, none⟩) (fun _ => rfl) (.int .i64 other)).set (p := ⟨w5.heap.size, 1, none⟩) (fun _ => rfl) (.slice A7 key.length c7)).set (p := ⟨w5.heap.size, 2, none⟩) (fun _ => rfl) (.slice x.T x.d.to.length x.tc)).set (p := ⟨w5.heap.size, 3, none⟩) (fun _ => rfl) (.int .i64 (x.d.gen + 1)))
                      have HBN := Lib.hid (show Box4 ((((w8.setCell ⟨w5.heap.size, 0, none⟩ (.int .i64 other)).setCell ⟨w5.heap.size, 1, none⟩ (.slice A7 key.length c7)).setCell ⟨w5.heap.size, 2, none⟩ (.slice x.T x.d.to.length x.tc)).setCell ⟨w5.heap.size, 3, none⟩ (.int .i64 (x.d.gen + 1))) w5.heap.size ⟨⟨other, x.d.gen + 1, key, x.d.to⟩, A7, c7, x.T, x.tc⟩ from
                        ⟨((((HZ8.out 0 _ rfl).set _).far (by simp) _).far (by simp) _).far (by simp) _, ((((HZ8.out 1 _ rfl).far (by simp) _).set _).far (by simp) _).far (by simp) _, ((((HZ8.out 2 _ rfl).far (by simp) _).far (by simp) _).set _).far (by simp) _, ((((HZ8.out 3 _ rfl).far (by simp) _).far (by simp) _).far (by simp) _).set _⟩)
                      have HNN := Lib.hid (NewT.lower (NewT.turn (b := w5.heap.size + 1) (M := fun k => k = w5.heap.size) N8.out TE.out (fun k h1 _ h2 => by omega)) (Nat.le_succ _))
                      have HG6 := Lib.hid (H8.out.trans (TE.out.below (fun k _ h => by omega) H8.out.size))
                      clear z2 z3 k0 k1 k2 k3 fk0 fk1 fk2 fk3 g2 g3
                      go_wp2_with fail
                      go_meet
                      exact ⟨w5.heap.size, A7, c7, rfl, HBN.out, HNN.out, Nat.le_refl _, HG6.out⟩
              case rest =>
                obtain ⟨g, A7, c7, rfl, HBR, HN7, HGG, hb6⟩ := hcut
                obtain ⟨w6, rfl⟩ : ∃ x, x = wc := ⟨_, rfl⟩
                have T6 := Lib.hid (T5.out.keep hb6)
                obtain ⟨q', hA', _, hq6, c0, c1, c2, c3⟩ := T6.out.row.at hil
                injection hA' with hA'
                injection hA' with hA'
                subst hA'
                rw [← HX.out] at c0 c1 c2 c3
                obtain ⟨f3, ff3⟩ := c3
                have xp6 := T6.out.cell.1
                have hin2 : (i : Int) < (n : Int) := by omega
                have hRX : Hid (RTs w6 (tbM p (.slice (some ⟨q, 0, none⟩) n c)) x) := T6.out.tx x (by rw [HX.out]; exact List.getElem_mem hil)
                have S1 := Lib.hid (T6.out.setc (k := i) (j := 3) (x := ⟨⟨x.d.id, x.d.gen + 1, x.d.fr, x.d.to⟩, x.F, x.fc, x.T, x.tc⟩) (v := .int .i64 (x.d.gen + 1)) hil (by omega) (by rw [← HX.out]; rfl) ⟨hRX.out.f, hRX.out.t, hRX.out.lf, hRX.out.lt, hRX.out.nf, hRX.out.nt⟩)
                have hMb : Hid (∀ k, w5.heap.size ≤ k → ¬ tbM p (.slice (some ⟨q, 0, none⟩) n c) k) := fun k h1 h2 => by have := (T5.out.mb k h2).2; omega
                have hRR : Hid (RTs w6 (tbM p (.slice (some ⟨q, 0, none⟩) n c)) ⟨⟨other, x.d.gen + 1, key, x.d.to⟩, A7, c7, x.T, x.tc⟩) :=
                  ⟨HN7.out.1.tx hMb.out, hRX.out.t, HS.out.1.2.2, hRX.out.lt, HN7.out.2.2, hRX.out.nt⟩
                have HB6 := Lib.hid (HB5.out.trans (hb6.mono HB5.out.size))
                have HB6s := Lib.hid hb6.size
                clear xp y3 y2 CK HB52 c0 c1 c2 hq6 hb6
                go_upto_region 14 with fail
                obtain ⟨W1, hW1⟩ : ∃ W1, W1 = w6.setCell ⟨q, i * 4 + 3, none⟩ (.int .i64 (x.d.gen + 1)) := ⟨_, rfl⟩
                rw [← hW1] at S1
                rw [← hW1]
                clear hW1 f3 ff3 xp6
                have T1 := Lib.hid S1.out.1
                have U1 := Lib.hid S1.out.2
                have hR1 := Lib.hid (hRR.out.turn U1.out (fun _ _ h => h))
                have hX1 := Lib.hid (hRX.out.turn U1.out (fun _ _ h => h))
                have HBR1 := Lib.hid (HBR.out.turn U1.out (hMb.out g HGG.out))
                have HS1 : Hid (Src W1 K nk kc key) := ⟨HS.out.1, U1.out.rd (HS.out.keep HB6.out).2 (fun h1 q o h2 => HKX.out h1 q o h2)⟩
                have CK1 := Lib.hid (fun (W : World) (h : Below W1.heap.size W1 W) => sclone_new K nk kc key W HNK.out (HS1.out.keep h).2 HS.out.1.2.2 HS.out.1.2.1)
                have hil1 : i < (L.set i ⟨⟨x.d.id, x.d.gen + 1, x.d.fr, x.d.to⟩, x.F, x.fc, x.T, x.tc⟩).length := by simpa using hil
                obtain ⟨L1, hL1⟩ : ∃ L1, L1 = L.set i ⟨⟨x.d.id, x.d.gen + 1, x.d.fr, x.d.to⟩, x.F, x.fc, x.T, x.tc⟩ := ⟨_, rfl⟩
                have hL1i : Hid (∃ h : i < L1.length, L1[i] = ⟨⟨x.d.id, x.d.gen + 1, x.d.fr, x.d.to⟩, x.F, x.fc, x.T, x.tc⟩) := ⟨by rw [hL1]; exact hil1, by simp [hL1]⟩
                have HL1 := Lib.hid hL1
                rw [← hL1] at T1 hil1
                have HPC := Lib.hid (fun (W : World) (h : Below W1.heap.size W1 W) => (show W.cell? ⟨p, 0, none⟩ = some (.slice (some ⟨q, 0, none⟩) n c) ∧ ∃ v, Cell W q (i * 4 + 2) v from ⟨(T1.out.keep h).cell.1, by
                  obtain ⟨q', hA', _, _, _, _, c2, _⟩ := (T1.out.keep h).row.at hil1
                  injection hA' with hA'
                  injection hA' with hA'
                  subst hA'
                  exact ⟨_, c2⟩⟩))
                clear hL1 S1
                obtain ⟨xp1, v1, c2, fc2⟩ := HPC.out W1 (Below.refl _ _)
                go_region_law (go_simp; go_at_call 58; refine (CK1.out W1.drew (below_drew (Below.refl _ _))).mono ?_; rintro e w8 ⟨A8, c8, rfl, n8, h8⟩; have H8 := Lib.hid (below_of_drew (show Below W1.heap.size W1.drew w8 from h8)); have N8 := Lib.hid (show NewT w8 W1.heap.size A8 nk c8 key from n8); obtain ⟨xp8, v8, c28, fc28⟩ := HPC.out w8 H8.out; clear n8 h8)
                all_goals
                  have T8 := Lib.hid (T1.out.keep H8.out)
                  have hMb8 : Hid (∀ k, W1.heap.size ≤ k → ¬ tbM p (.slice (some ⟨q, 0, none⟩) n c) k) := fun k h1 h2 => by have := (T1.out.mb k h2).2; omega
                  have hX8 : Hid (RTs w8 (tbM p (.slice (some ⟨q, 0, none⟩) n c)) ⟨⟨x.d.id, x.d.gen + 1, x.d.fr, key⟩, x.F, x.fc, A8, c8⟩) :=
                    ⟨(hX1.out.keep H8.out).f, N8.out.1.tx hMb8.out, hX1.out.lf, HS.out.1.2.2, hX1.out.nf, N8.out.2.2⟩
                  have S2 := Lib.hid (T8.out.setc (k := i) (j := 2) (x := ⟨⟨x.d.id, x.d.gen + 1, x.d.fr, key⟩, x.F, x.fc, A8, c8⟩) (v := .slice A8 nk c8) hil1 (by omega) (by
                    obtain ⟨h1, h2⟩ := hL1i.out
                    rw [h2, HNK.out]; rfl) hX8.out)
                  obtain ⟨W2, hW2⟩ : ∃ W2, W2 = w8.setCell ⟨q, i * 4 + 1 + 1, none⟩ (.slice A8 nk c8) := ⟨_, rfl⟩
                  replace S2 := S2.out
                  rw [show w8.setCell ⟨q, i * 4 + 2, none⟩ (.slice A8 nk c8) = W2 from hW2.symm] at S2
                  rw [← hW2]
                  have T2 := Lib.hid S2.1
                  have U2 := Lib.hid S2.2
                  have HR2' := Lib.hid ((hR1.out.keep H8.out).turn U2.out (fun _ _ h => h))
                  have HBR2 := Lib.hid ((HBR1.out.keep H8.out).turn U2.out (hMb.out g HGG.out))
                  have UW := Lib.hid ((((Turn.of_below (M := tbM p (.slice (some ⟨q, 0, none⟩) n c)) HB6.out).trans U1.out).trans (Turn.of_below H8.out)).trans U2.out)
                  have CN := Lib.hid (insert_any W2.drew B (some ⟨q, 0, none⟩) n c (i + 1) (L1.set i ⟨⟨x.d.id, x.d.gen + 1, x.d.fr, key⟩, x.F, x.fc, A8, c8⟩) ⟨⟨other, x.d.gen + 1, key, x.d.to⟩, A7, c7, x.T, x.tc⟩ T2.out.row (by simp; omega) (by have := HN.out; simp [HL1.out]; omega) (Nat.le_trans T2.out.pb (Nat.le_of_lt T2.out.cell.lt)))
                  obtain ⟨LL, hLL⟩ : ∃ LL, LL = (L1.set i ⟨⟨x.d.id, x.d.gen + 1, x.d.fr, key⟩, x.F, x.fc, A8, c8⟩).take (i + 1) ++ [⟨⟨other, x.d.gen + 1, key, x.d.to⟩, A7, c7, x.T, x.tc⟩] ++ (L1.set i ⟨⟨x.d.id, x.d.gen + 1, x.d.fr, key⟩, x.F, x.fc, A8, c8⟩).drop (i + 1) := ⟨_, rfl⟩
                  have HLL := Lib.hid hLL
                  replace CN := CN.out
                  rw [← hLL] at CN
                  have CN := Lib.hid CN
                  clear hLL
                  have xp2 := T2.out.cell.1
                  obtain ⟨b0, b1, b2, b3⟩ := HBR2.out
                  obtain ⟨b0, _⟩ := b0
                  obtain ⟨b1, _⟩ := b1
                  obtain ⟨b2, _⟩ := b2
                  obtain ⟨b3, _⟩ := b3
                  have hw9 : IntKind.i64.wrap ((i : Int) + 1) = (((i + 1 : Nat) : Int)) := by rw [IntWalk.i64_in _ (by omega)]; omega
                  have hbl := Lib.hid (below1' W2 (.cells #[.int .i64 other, .slice A7 key.length c7, .slice x.T x.d.to.length x.tc, .int .i64 (x.d.gen + 1)] 46))
                  have xp3 := (T2.out.keep hbl.out).cell.1
                  have HPC9 := Lib.hid (fun (w9 : World) (h : Turn (ownB (.slice (some ⟨q, 0, none⟩) n c)) W2.drew w9) => (Turn.keep (w := W2.drew) h (show Cell W2.drew p 0 _ from T2.out.cell) (fun h1 => T2.out.ne h1)))
                  clear hW2 S2 xp8 v8 c28 fc28 xp1 v1 c2 fc2
                  go_upto_region 15 with fail
                  go_region_law (go_simp; go_at_call 59; refine CN.out.mono ?_; rintro e w9 ⟨g9, c9, rfl, hR9, hT9, hG9⟩; have R9 := Lib.hid (And.intro hR9 (And.intro hT9 hG9)); obtain ⟨xp9, fxp9⟩ := HPC9.out w9 hT9; clear hR9 hT9 hG9)
                  all_goals
                    have CP9 := Lib.hid (HPC9.out w9 R9.out.2.1)
                    have hqp : Hid (q ≠ p) := fun e => T2.out.ne (by rw [e]; rfl)
                    have hpw : Hid (p < W2.heap.size) := T2.out.cell.lt
                    have hgp : Hid (g9 ≠ p) := by
                      rcases R9.out.2.2 with h1 | h1
                      · injection h1 with h1
                        have h1 : q = g9 := h1
                        rw [← h1]; exact hqp.out
                      · have h1 : W2.heap.size ≤ g9 := h1
                        have := hpw.out
                        show g9 ≠ p
                        omega
                    have hTF := Lib.hid ((Turn.refl (fun k => k = p) w9).set (p := ⟨p, 0, none⟩) (fun _ => rfl) (.slice (some ⟨g9, 0, none⟩) LL.length c9))
                    have hCF := Lib.hid (CP9.out.set (.slice (some ⟨g9, 0, none⟩) LL.length c9))
                    have hRF := Lib.hid (GRow.turn R9.out.1 hTF.out (fun k hk h1 => by
                      injection hk with hk
                      have hk : g9 = k := hk
                      exact hgp.out (hk.trans h1)))
                    have hTW := Lib.hid ((Turn.mono (M' := tbM p (.slice (some ⟨q, 0, none⟩) n c)) R9.out.2.1 (fun k _ h => .inr h)).trans (hTF.out.mono (fun k _ h => .inl h)))
                    have hM2 : Hid (∀ k, k < W2.drew.heap.size → tbM p (.slice (some ⟨q, 0, none⟩) n c) k ∨ tbM p (.slice (some ⟨g9, 0, none⟩) LL.length c9) k → tbM p (.slice (some ⟨q, 0, none⟩) n c) k) := fun k hk h => by
                      rcases h with h | h | h
                      · exact h
                      · exact .inl h
                      · injection h with h
                        have h : g9 = k := h
                        rcases R9.out.2.2 with h1 | h1
                        · rw [← h]; exact .inr h1
                        · omega
                    have hTX : Hid (∀ z, RTs W2 (tbM p (.slice (some ⟨q, 0, none⟩) n c)) z → RTs (w9.setCell ⟨p, 0, none⟩ (.slice (some ⟨g9, 0, none⟩) LL.length c9)) (tbM p (.slice (some ⟨g9, 0, none⟩) LL.length c9)) z) := fun z hz => by
                      have h0 : RTs W2.drew (tbM p (.slice (some ⟨q, 0, none⟩) n c)) z := hz.keep (below_drew (Below.refl _ _))
                      have h1 := h0.mono (M' := fun k => tbM p (.slice (some ⟨q, 0, none⟩) n c) k ∨ tbM p (.slice (some ⟨g9, 0, none⟩) LL.length c9) k) hM2.out
                      exact (h1.turn hTW.out (fun k _ h => .inl h)).mono (fun k _ h => .inr h)
                    have hLE : Hid (LL = L.take i ++ [⟨⟨x.d.id, x.d.gen + 1, x.d.fr, key⟩, x.F, x.fc, A8, c8⟩, ⟨⟨other, x.d.gen + 1, key, x.d.to⟩, A7, c7, x.T, x.tc⟩] ++ L.drop (i + 1)) := by
                      show _ = _
                      rw [HLL.out, HL1.out, List.set_set, set_take hil, set_drop]
                      simp
                    have HTB : Hid (Tb (w9.setCell ⟨p, 0, none⟩ (.slice (some ⟨g9, 0, none⟩) LL.length c9)) B p (some ⟨g9, 0, none⟩) LL.length c9 LL) := by
                      refine ⟨hCF.out, hRF.out, fun z hz => hTX.out z ?_, ?_, T2.out.pb⟩
                      · rw [HLL.out] at hz
                        rcases List.mem_append.1 hz with hz | hz
                        · rcases List.mem_append.1 hz with hz | hz
                          · exact T2.out.tx z (List.mem_of_mem_take hz)
                          · rw [List.mem_singleton.1 hz]; exact HR2'.out
                        · exact T2.out.tx z (List.mem_of_mem_drop hz)
                      · intro h
                        injection h with h
                        exact hgp.out h
                    have HMP : Hid (LL.map (·.d) = ds.take i ++ [⟨x.d.id, x.d.gen + 1, x.d.fr, key⟩, ⟨other, x.d.gen + 1, key, x.d.to⟩] ++ ds.drop (i + 1)) := by
                      show _ = _
                      rw [hLE.out, HD.out]
                      simp [List.map_take, List.map_drop]
                    have HUF := Lib.hid (UW.out.drew.trans hTW.out)
                    clear hTX hM2 hLE HLL HL1 hTW hRF hCF hTF hgp CP9 R9
                    go_wp2
                    go_ret
                    rw [HF.out]
                    exact ⟨rfl, some ⟨g9, 0, none⟩, LL.length, c9, LL, HTB.out, HMP.out, HUF.out⟩
end Go.Proofs.Ytninjoepdchmiaa
