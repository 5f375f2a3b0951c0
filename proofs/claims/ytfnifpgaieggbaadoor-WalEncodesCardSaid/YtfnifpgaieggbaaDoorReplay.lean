/-
  wal.Replay.
-/
import Derived.Test.YtfnifpgaieggbaaDoorIsEnc
import Derived.StillTailTactics
set_option linter.unusedVariables false
namespace Go.Proofs.YtfnifpgaieggbaaDoor
open Go.RowKit

theorem infoB : (Tryd.prog.info? 25).map (fun i => (i.zero, i.size, i.bytes)) = some (some (.agg #[.int .u64 0, .slice none 0 0]), 2, 32) := by kernel_rfl
structure BV where
  sq : Nat
  m : Nat
  A : Option Addr
  c : Nat
def bc (x : BV) : List Value := [.int .u64 x.sq, .slice x.A x.m x.c]
theorem bc_at : ∀ (l : List BV) (k j : Nat) (h : k < l.length), j < 2 → (l.flatMap bc)[k * 2 + j]? = (bc l[k])[j]?
  | [], _, _, h, _ => by simp at h
  | e :: l, 0, j, _, hj => by
    rw [List.flatMap_cons, Nat.zero_mul, Nat.zero_add, List.getElem?_append_left (by simp [bc]; exact hj)]
    rfl
  | e :: l, k + 1, j, h, hj => by
    rw [List.flatMap_cons, List.getElem?_append_right (by simp [bc]; omega)]
    have : (k + 1) * 2 + j - (bc e).length = k * 2 + j := by simp [bc]; omega
    rw [this, bc_at l k j (by simpa using h) hj]
    rfl
def OwnB (w : World) (base : Nat) (v : Value) (l : List BV) : Prop := w.ownsRow base 25 2 v l.length (l.flatMap bc)
theorem OwnB.keep {w w' : World} {base : Nat} {v : Value} {l : List BV} (h : OwnB w base v l) (hb : Below w.heap.size w w') : OwnB w' base v l := row_block h (fun k hk => hb.block k (World.ownsRow.lt h k hk).2)
theorem OwnB.at {w : World} {base : Nat} {A : Option Addr} {n c : Nat} {l : List BV} (h : OwnB w base (.slice A n c) l) {k : Nat} (hk : k < l.length) : ∃ q, A = some ⟨q, 0, none⟩ ∧ w.cell? ⟨q, k * 2, none⟩ = some (.int .u64 l[k].sq) ∧ w.cell? ⟨q, k * 2 + 1, none⟩ = some (.slice l[k].A l[k].m l[k].c) := by
  have hA : ∃ q, (Value.slice A n c).ownBlock = some q ∧ A = some ⟨q, 0, none⟩ := by
    rcases h.2 with ⟨_, hn⟩ | ⟨g, cap, cur, hv, _⟩
    · omega
    · injection hv with h1 h2 h3
      subst h1
      exact ⟨g, rfl, rfl⟩
  obtain ⟨q, hq, hA⟩ := hA
  have C := World.ownsRow.cells h hq
  have F : ∀ j u, j < 2 → (bc l[k])[j]? = some u → w.cell? ⟨q, k * 2 + j, none⟩ = some u := fun j u hj hu => by
    have := C (k * 2 + j) u ((bc_at l k j hk hj).trans hu)
    rw [add_at, Nat.zero_add] at this
    exact this
  exact ⟨q, hA, F 0 _ (by omega) rfl, F 1 _ (by omega) rfl⟩
theorem app_bat {ops : Array Oper} {rest : List Oper} {o : Oper} {a : Act} {Q : Exit → Act → World → Prop} (w : World) (base : Nat) (v : Value) (n : Nat) (l : List BV) (y : BV) (hgd : o.guard = none) (s x : Operand)
    (ho : o.op = .call { callee := .builtin .append, args := #[s, x], argTypes := #[33, 33] })
    (hs : a.eval s = v) (H : Nat) (hH : w.heap.size = H) (hx : a.eval x = .slice (some ⟨H, 0, none⟩) 1 1) (hg : OwnB w base v l) (hn : n = l.length) (hlen : n ≤ 4194304) (hbase : base ≤ w.heap.size)
    (h : ∀ gq cap w', OwnB w' base (.slice (some ⟨gq, 0, none⟩) (n + 1) cap) (l ++ [y]) → w.grownBy w' v.ownBlock → wpList Tryd.prog ops Q rest (a.put o.dst (.slice (some ⟨gq, 0, none⟩) (n + 1) cap)) w') :
    wpList Tryd.prog ops Q (o :: rest) a (w.alloc (.cells #[.int .u64 y.sq, .slice y.A y.m y.c] 25)) := by
  subst hn
  subst hH
  obtain ⟨i0, hi0, hz0, hz1, hz2⟩ := info_parts infoB
  have hown' : (w.alloc (.cells #[.int .u64 y.sq, .slice y.A y.m y.c] 25)).ownsRow base 25 2 v l.length (l.flatMap bc) := World.ownsRow.alloc hg _
  refine wpList_append_lies (w.alloc (.cells #[.int .u64 y.sq, .slice y.A y.m y.c] 25)) hgd s x 33 ho base 25 i0 _ 2 32 Tryd.underlying33 hi0 hz0 hz1 hz2 rfl (by decide) v l.length (l.flatMap bc) hs hown' ⟨w.heap.size, 0, none⟩ 1 1 (bc y) hx rfl ?_ ?_ (by decide) (by unfold maxLen; omega) (by omega) (by simp; omega) (w.heap.size + 1) (by simp) ?_
  · intro j u hu
    rw [add_at, World.cell?_alloc_at _ _ _ _ rfl, Nat.zero_add, ← Array.getElem?_toList]
    exact hu
  · intro u hu
    simp only [bc, List.mem_cons, List.not_mem_nil, or_false] at hu
    rcases hu with rfl | rfl <;> rfl
  · intro gq cap w' h1 h2 h3 _
    refine h gq cap w' ?_ (grown_alloc h2)
    unfold OwnB
    rw [List.flatMap_append, List.length_append]
    simpa using h1
/-- batches that were read, and their row -/
structure Acc (w : World) (base : Nat) (v : Value) (acc : List (Nat × List OpD)) (l : List BV) : Prop where
  own : OwnB w base v l
  eq : acc.map (fun y => (y.1, y.2.length)) = l.map (fun x => (x.sq, x.m))
  sm : ∀ x ∈ l, x.sq + x.m ≤ 4611686018427387904
theorem afterB_eq {acc : List (Nat × List OpD)} {l : List BV} {k : Nat} (h : acc.map (fun y => (y.1, y.2.length)) = l.map (fun x => (x.sq, x.m))) (hk : l.length = k + 1) : ∃ hl : k < l.length, afterB acc = l[k].sq + l[k].m := by
  have hl : k < l.length := by omega
  have hal : acc.length = k + 1 := by have := congrArg List.length h; simpa [hk] using this
  refine ⟨hl, ?_⟩
  have h1 : (acc.map (fun y => (y.1, y.2.length)))[k]? = (l.map (fun x => (x.sq, x.m)))[k]? := by rw [h]
  rw [List.getElem?_map, List.getElem?_map, List.getElem?_eq_getElem hl, List.getElem?_eq_getElem (show k < acc.length by omega)] at h1
  simp only [Option.map_some, Option.some.injEq, Prod.mk.injEq] at h1
  unfold afterB
  rw [List.getLast?_eq_getElem?, hal, Nat.add_sub_cancel, List.getElem?_eq_getElem (show k < acc.length by omega)]
  simp only [Option.map_some, Option.getD_some]
  omega
theorem tOp_small (b : List UInt8) (hl : b.length ≤ 2097152) : (tOp b).1.key.length ≤ 2097152 ∧ (tOp b).1.val.length ≤ 2097152 := by
  cases b with
  | nil => exact ⟨Nat.zero_le _, Nat.zero_le _⟩
  | cons c t =>
    have h1 : ∀ t : List UInt8, t.length ≤ 2097152 → (tt t).1.length ≤ 2097152 := fun t ht => Nat.le_trans (tt_len t) ht
    have h2 : t.length ≤ 2097152 := by simp at hl; omega
    have h3 := h1 t h2
    have h4 := h1 (t.drop (tt t).2.1) (by rw [List.length_drop]; omega)
    unfold tOp
    simp only
    split
    · exact ⟨Nat.zero_le _, Nat.zero_le _⟩
    · split
      · exact ⟨Nat.zero_le _, Nat.zero_le _⟩
      · split
        · exact ⟨h3, Nat.zero_le _⟩
        · split
          · exact ⟨Nat.zero_le _, Nat.zero_le _⟩
          · exact ⟨h3, h4⟩
theorem tOps_small : ∀ (f : Nat) (acc : List OpD) (b : List UInt8), (∀ o ∈ acc, o.key.length ≤ 2097152 ∧ o.val.length ≤ 2097152) → b.length ≤ 2097152 → ∀ o ∈ (tOps f acc b).1, o.key.length ≤ 2097152 ∧ o.val.length ≤ 2097152
  | 0, acc, b, h, _ => h
  | f + 1, acc, b, h, hl => by
    rw [tOps]
    split
    · refine tOps_small f _ _ (fun o ho => ?_) (by rw [List.length_drop]; omega)
      rcases List.mem_append.1 ho with ho | ho
      · exact h o ho
      · rw [List.mem_singleton.1 ho]
        exact tOp_small b hl
    · exact h
theorem tBat_small (b : List UInt8) (hl : b.length ≤ 2097152) : ∀ o ∈ (tBat b).2.1, o.key.length ≤ 2097152 ∧ o.val.length ≤ 2097152 := by
  unfold tBat
  split
  · exact fun o h => nomatch h
  · split
    · exact fun o h => nomatch h
    · exact tOps_small _ [] _ (fun o h => nomatch h) (by simp only [List.length_drop]; omega)

set_option maxHeartbeats 6400000 in
set_option maxRecDepth 100000 in
theorem replay_any (b : List UInt8) (A : Option Addr) (n c : Nat) (w : World) (hn : n = b.length) (hr : Rd w w.heap.size A b) (hl : b.length ≤ 4194304) (hc : b.length ≤ c) (hT : Tab w) (h0 : 0 < w.heap.size) :
    Calls Tryd.prog 12 #[.slice A n c] w fun e w' => (∃ A' c', e = .returned (.tuple #[.slice A' (repl b).1.length c', .int .i64 (repl b).2.1, .int .i64 (repl b).2.2])) ∧ Below w.heap.size w w' := by
  have HR := Lib.hid hr
  have hN : Hid (n = b.length) := hn
  have hnl : n ≤ 4194304 := by omega
  have HC := Lib.hid hc
  have HT := Lib.hid hT
  have H0 := Lib.hid h0
  have S0 : Hid (∃ (acc : List (Nat × List OpD)) (l : List BV) (f : Nat), Acc w w.heap.size (.slice none 0 0) acc l ∧ l.length = 0 ∧ repl b = replF f acc 0 (b.drop 0) ∧ n - 0 < f) :=
    ⟨[], [], b.length + 1, ⟨World.ownsRow_nil _ _ _ _, rfl, (fun x h => nomatch h)⟩, rfl, rfl, by omega⟩
  obtain ⟨RP, hRP⟩ : ∃ x, x = repl b := ⟨_, rfl⟩
  rw [← hRP] at S0
  rw [← hRP]
  clear hn hr hl hc hT h0 hRP
  go_enter Tryd.func12, Tryd.ntmps12
  go_wp2
  go_loopw [5, 6] (fun s5 s6 wr => ∃ (k at_ : Nat) (A' : Option Addr) (d : Nat), s5 = .slice A' k d ∧ s6 = .int .i64 at_ ∧ at_ ≤ n ∧ k ≤ at_ ∧ Hid (∃ (acc : List (Nat × List OpD)) (l : List BV) (f : Nat), Acc wr w.heap.size (.slice A' k d) acc l ∧ l.length = k ∧ RP = replF f acc at_ (b.drop at_) ∧ n - at_ < f) ∧ Below w.heap.size w wr) (fun _ s6 _ => n - (intOf s6).toNat)
  case atStart => exact ⟨0, 0, none, 0, rfl, rfl, by omega, by omega, S0, Below.refl _ _⟩
  case round =>
    clear S0
    obtain ⟨k, at_, A', d, rfl, rfl, hat, hk, HI, hb⟩ := hrel
    obtain ⟨acc, l, f, hA, hlk, hRP, hf⟩ := HI.out
    have hacc : acc.length = k := by have := congrArg List.length hA.eq; simpa [hlk] using this
    obtain ⟨f', rfl⟩ : ∃ f', f = f' + 1 := ⟨f - 1, by omega⟩
    by_cases hlt : at_ < n
    · have hlt' : (at_ : Int) < (n : Int) := by omega
      obtain ⟨A1, hrun1, rd1⟩ := cut1_run (n := n) (c := c) (k := at_) hN.out ((HR.out.below hb).more hb.size) (by have := hN.out; omega) HC.out
      obtain ⟨b', hb'⟩ : ∃ y, y = b.drop at_ := ⟨_, rfl⟩
      rw [← hb'] at rd1 hRP
      have hbl : b'.length = n - at_ := by rw [hb', List.length_drop, hN.out]
      have hbne : b' ≠ [] := fun h => by rw [h] at hbl; simp at hbl; omega
      have TF := Lib.hid (takenFrame_any A1 (n - at_) (c - at_) b' wr hbl.symm rd1 (by omega) (by have := HC.out; have := hN.out; omega) (HT.out.below hb H0.out))
      have htz := tf_zero (l := b')
      have htl := tf_body_le b'
      have HERR := Lib.hid (fun (h : (tf b').2.2.2 ≠ 0) => hRP.trans (replF_err hbne h))
      have HNO := Lib.hid (fun (he : (tf b').2.2.2 = 0) h => hRP.trans (replF_no hbne he h))
      have HYES := Lib.hid (fun (he : (tf b').2.2.2 = 0) (sq : Nat) (ops : List OpD) h1 h2 => hRP.trans (replF_yes (sq := sq) (ops := ops) hbne he h1 h2))
      obtain ⟨kd, hkd⟩ : ∃ y, y = (tf b').1 := ⟨_, rfl⟩
      obtain ⟨body, hbody⟩ : ∃ y, y = (tf b').2.1 := ⟨_, rfl⟩
      obtain ⟨m, hm⟩ : ∃ y, y = (tf b').2.2.1 := ⟨_, rfl⟩
      obtain ⟨er, her⟩ : ∃ y, y = (tf b').2.2.2 := ⟨_, rfl⟩
      replace TF := TF.out
      replace HERR := HERR.out
      replace HNO := HNO.out
      replace HYES := HYES.out
      rw [← hkd, ← hbody, ← hm, ← her] at TF HNO
      rw [← her] at HERR htz
      rw [← hm] at htz
      rw [← her, ← hm] at HYES
      rw [← hbody] at htl
      replace TF := Lib.hid TF
      replace HERR := Lib.hid HERR
      replace HNO := Lib.hid HNO
      replace HYES := Lib.hid HYES
      have HAcc := Lib.hid (And.intro hA (And.intro hlk hacc))
      have HB' := Lib.hid hb'
      have HBL := Lib.hid hbl
      clear hkd hbody hm her rd1 hRP hbne hb' hA hlk HI hacc
      go_wp2_with fail
      refine TF.out.mono ?_
      rintro e w2 ⟨v2, rfl, o2, h2⟩
      have hb2 := hb.trans (h2.mono hb.size)
      by_cases he : er = 0
      rotate_left
      · have HE := Lib.hid (HERR.out he)
        have he' : ((er : Int) != 0) = true := by rw [bne_iff_ne]; omega
        have HK := Lib.hid HAcc.out.2.2
        clear o2 h2 TF HNO HYES HERR htz hb
        go_wp2
        go_ret3
        exact ⟨⟨A', d, by rw [HE.out, ← HK.out]; rfl⟩, hb2⟩
      have he' : ((er : Int) != 0) = false := by rw [he]; rfl
      obtain ⟨hm1, hm2⟩ := htz he
      obtain ⟨A2, c2, rfl, rd2, hc2, _, _⟩ : ∃ A2 c2, v2 = .slice A2 body.length c2 ∧ Rd w2 w2.heap.size A2 body ∧ body.length ≤ c2 ∧ True ∧ True := by
        obtain ⟨A2, c2, e1, e2, e3⟩ := o2.rdc
        exact ⟨A2, c2, e1, e2, e3, trivial, trivial⟩
      have TB := Lib.hid (takebatch_any body A2 body.length c2 w2 rfl rd2 (by omega) hc2)
      have HSMB := Lib.hid (tBat_small body htl)
      have HA2 := Lib.hid (HAcc.out.1.own.keep h2)
      obtain ⟨nb, hnb⟩ : ∃ y, y = body.length := ⟨_, rfl⟩
      replace TB := TB.out
      rw [← hnb] at TB
      replace TB := Lib.hid TB
      rw [← hnb]
      clear o2 h2 TF HERR rd2 hc2 htz hnb
      go_wp2_with fail
      refine TB.out.mono ?_
      rintro e w3 ⟨sq, mo, A3, c3, rfl, hsq, himp, hmo, h3⟩
      have hb3 := hb2.trans (h3.mono hb2.size)
      have hbx := below1' w3 (.cells #[.int .u64 sq, .slice A3 mo c3] 25)
      obtain ⟨W, hW⟩ : ∃ y, y = w3.alloc (.cells #[.int .u64 sq, .slice A3 mo c3] 25) := ⟨_, rfl⟩
      obtain ⟨x, hx⟩ : ∃ y, y = w3.heap.size := ⟨_, rfl⟩
      have B0 := Cell.new w3 #[.int .u64 sq, .slice A3 mo c3] 25 0 (.int .u64 sq) rfl
      have B1 := Cell.new w3 #[.int .u64 sq, .slice A3 mo c3] 25 1 (.slice A3 mo c3) rfl
      rw [← hW, ← hx] at B0 B1
      rw [← hW] at hbx
      have hb4 := hb3.trans (hbx.mono hb3.size)
      have HA4 := Lib.hid ((HA2.out.keep h3).keep hbx)
      obtain ⟨ok, hok⟩ : ∃ y, y = (tBat body).2.2 := ⟨_, rfl⟩
      rw [← hok] at himp
      rw [← hok]
      have HOK := Lib.hid hok
      have HIMP : Hid (ok = true → sq = (tBat body).1 ∧ mo = (tBat body).2.1.length ∧ OpsRd W W.heap.size A3 (tBat body).2.1) := fun h => ⟨(himp h).1, (himp h).2.1, ((himp h).2.2.below hbx).more hbx.size⟩
      clear himp h3 hbx hok TB HA2 hb hb2 hb3
      go_upto_region 8 with fail
      rw [← hW, ← hx]
      clear hW hx
      cases ok with
      | false =>
        have HE := Lib.hid (HNO.out he (fun h => by have := HOK.out; rw [h.1] at this; cases this))
        have HK := Lib.hid HAcc.out.2.2
        go_quiet (fail)
        go_wp2
        go_ret3
        exact ⟨⟨A', d, by rw [HE.out, ← HK.out]; rfl⟩, below_drewN hb4 _⟩
      | true =>
        obtain ⟨hs1, hs2, hs3⟩ := HIMP.out rfl
        have HS1 := Lib.hid hs1
        have HS2 := Lib.hid hs2
        clear hs1 hs2
        by_cases hk66 : kd = 66
        rotate_left
        · have hk' : ((kd.toNat : Int) != 66) = true := by
            rw [bne_iff_ne]
            intro h
            exact hk66 (UInt8.toNat_inj.1 (by have : kd.toNat = 66 := by omega
                                              exact this))
          have HE := Lib.hid (HNO.out he (fun h => hk66 h.2.1))
          have HK := Lib.hid HAcc.out.2.2
          go_quiet (fail)
          go_wp2
          go_ret3
          exact ⟨⟨A', d, by rw [HE.out, ← HK.out]; rfl⟩, below_drewN hb4 _⟩
        · have hk' : ((kd.toNat : Int) != 66) = false := by rw [hk66]; rfl
          obtain ⟨e5, he5⟩ : ∃ y, y = at_ + m := ⟨_, rfl⟩
          have hp5 : (at_ : Int) + (m : Int) = (e5 : Int) := by omega
          have HE5 : Hid (e5 = at_ + m) := he5
          have HF : Hid (n - at_ < f' + 1) := hf
          have hml : m ≤ n - at_ := by have := HBL.out; omega
          obtain ⟨A5, hrun5, rd5⟩ := cut_run (n := n) (c := c) (k := at_) (e := e5) hN.out ((HR.out.below hb4).more hb4.size) (by omega) (by have := hN.out; omega) HC.out
          have h5m : e5 - at_ = m := by omega
          rw [h5m] at hrun5 rd5
          rw [← HB'.out] at rd5
          have IE : Hid (Calls Tryd.prog 27 #[.agg #[.int .u64 sq, .slice A3 mo c3], .slice A5 m (c - at_)] W.drew fun e w' => Tells e (EncP sq (tBat body).2.1 ∧ batB sq (tBat body).2.1 = b'.take m) ∧ Below W.drew.heap.size W.drew w') :=
            isenc_any sq (tBat body).2.1 A3 mo c3 (b'.take m) A5 m (c - at_) W.drew HS2.out hs3 ⟨by have := HS2.out; omega, fun o ho => by have := (HSMB.out o ho).1; omega, fun o ho => by have := (HSMB.out o ho).2; omega⟩ hsq (HT.out.below (below_drew hb4) H0.out) (Nat.lt_of_lt_of_le H0.out hb4.size) (by rw [List.length_take, HBL.out]; omega) rd5
          have hb4d := below_drew hb4
          obtain ⟨x0, fx0⟩ := B0
          obtain ⟨x1, fx1⟩ := B1
          have hX0 : Hid (Cell W.drew x 0 (.int .u64 sq)) := Cell.drew ⟨x0, fx0⟩
          have hX1 : Hid (Cell W.drew x 1 (.slice A3 mo c3)) := Cell.drew ⟨x1, fx1⟩
          have HBd := Lib.hid hb4d
          have HAd : Hid (OwnB W.drew w.heap.size (.slice A' k d) l) := HA4.out
          clear rd5 he5 hs3 hb4d hrun1 h5m
          have hw5 : IntKind.i64.wrap ((e5 : Nat) : Int) = ((e5 : Nat) : Int) := IntWalk.i64_in _ (by omega)
          go_still_tail 14, (by kernel_rfl)
          change wpList _ _ _ _ _ W.drew
          go_wp2_with fail
          refine IE.out.mono ?_
          rintro e w6 ⟨⟨bb, rfl, hbb⟩, h6⟩
          have HB6 := Lib.hid (HBd.out.trans (h6.mono HBd.out.size))
          have HA6 := Lib.hid (HAd.out.keep h6)
          have Y0 := Lib.hid (hX0.out.keep h6)
          have Y1 := Lib.hid (hX1.out.keep h6)
          have HK := Lib.hid HAcc.out.2.2
          have HLK := Lib.hid HAcc.out.2.1
          clear h6 IE x0 x1 fx0 fx1 hb4 HA4 hX0 hX1 HBd HAd
          cases bb with
          | false =>
            have HE := Lib.hid (HNO.out he (fun h => by
              have := hbb.2 ⟨by rw [HS1.out]; exact h.2.2.1, by rw [HS1.out]; exact h.2.2.2⟩
              cases this))
            clear hbb
            go_wp2
            go_ret3
            exact ⟨⟨A', d, by rw [HE.out, ← HK.out]; rfl⟩, HB6.out⟩
          | true =>
            obtain ⟨hg1, hg2⟩ := hbb.1 rfl
            have HY := Lib.hid (HYES.out he sq (tBat body).2.1 hg1 hg2)
            have HEP := Lib.hid hg1
            clear hbb hg1 hg2 hrun5
            by_cases hk0 : k = 0
            · have hac : acc = [] := List.eq_nil_of_length_eq_zero (by rw [HK.out]; exact hk0)
              have HNX : Hid (RP = replF f' (acc ++ [(sq, (tBat body).2.1)]) (at_ + m) (b'.drop m)) := by show _ = _; rw [HY.out, if_neg (fun h => h.1 hac)]
              have hg0 : decide ((0 : Int) < (k : Int)) = false := by simp; omega
              have hg0n : decide (0 < k) = false := by simp; omega
              have HK0 := Lib.hid hk0
              clear hac hk0
              go_upto_region 10 with fail
              go_quiet (fail)
              obtain ⟨WW, hWW⟩ : ∃ y, y = w6.drewN nq := ⟨_, rfl⟩
              have HBW : Hid (Below w.heap.size w WW) := by rw [hWW]; exact below_drewN HB6.out _
              have HAW : Hid (OwnB WW w.heap.size (.slice A' k d) l) := by rw [hWW]; exact HA6.out
              have YW0 : Hid (Cell WW x 0 (.int .u64 sq)) := by rw [hWW]; exact Y0.out
              have YW1 : Hid (Cell WW x 1 (.slice A3 mo c3)) := by rw [hWW]; exact Y1.out
              rw [← hWW]
              clear hWW
              have hlen := Lib.hid (show k ≤ 4194304 by omega)
              have hbs := Lib.hid HBW.out.size
              have yw0 := YW0.out.1
              have yw1 := YW1.out.1
              go_wp2_with (at_builtin; refine app_bat WW w.heap.size (.slice A' k d) k l ⟨sq, mo, A3, c3⟩ rfl (.tmp 72) (.tmp 74) rfl rfl WW.heap.size rfl rfl HAW.out HLK.out.symm hlen.out hbs.out ?_)
              intro gq cap w9 o9 g9
              have HB9 := Lib.hid (HBW.out.trans (grown_belowR g9 (fun q hq => (World.ownsRow.lt HAW.out q hq).1) HBW.out.size))
              have HI' : Hid (∃ (acc : List (Nat × List OpD)) (l : List BV) (f : Nat), Acc w9 w.heap.size (.slice (some ⟨gq, 0, none⟩) (k + 1) cap) acc l ∧ l.length = k + 1 ∧ RP = replF f acc e5 (b.drop e5) ∧ n - e5 < f) := by
                refine ⟨acc ++ [(sq, (tBat body).2.1)], l ++ [⟨sq, mo, A3, c3⟩], f', ⟨o9, ?_, ?_⟩, by rw [List.length_append, HLK.out]; rfl, ?_, by have := HE5.out; have := HF.out; omega⟩
                · rw [List.map_append, List.map_append, HAcc.out.1.eq]
                  simp only [List.map_cons, List.map_nil]
                  rw [← HS2.out]
                · intro z hz
                  rcases List.mem_append.1 hz with hz | hz
                  · exact HAcc.out.1.sm z hz
                  · rw [List.mem_singleton.1 hz]
                    have := HEP.out.2.1.2.2
                    have := HS2.out
                    simp only
                    omega
                · rw [HNX.out, HB'.out, List.drop_drop, HE5.out]
              clear o9 g9 yw0 yw1
              go_wp2
              go_roundw
              case rel => exact ⟨k + 1, e5, some ⟨gq, 0, none⟩, cap, rfl, by go_num, by have := HE5.out; omega, by have := HE5.out; omega, HI', HB9.out⟩
              case measure => have := HE5.out; simp [intOf]; omega
            · obtain ⟨kp, hkp⟩ : ∃ y, k = y + 1 := ⟨k - 1, by omega⟩
              obtain ⟨hkl, haf⟩ := afterB_eq HAcc.out.1.eq (k := kp) (by rw [HLK.out]; exact hkp)
              obtain ⟨q, hqA, d0, d1⟩ := HA6.out.at hkl
              subst hqA
              have hsm := HAcc.out.1.sm _ (List.getElem_mem hkl)
              obtain ⟨z, hz⟩ : ∃ y, y = l[kp] := ⟨_, rfl⟩
              rw [← hz] at haf d0 d1 hsm
              obtain ⟨zq, zm, zA, zc⟩ := z
              simp only at haf d0 d1 hsm
              have AF := Lib.hid (after_any zq zm zc zA w6.drew (by omega))
              have hkp' : (k : Int) - 1 = (kp : Int) := by omega
              have hkp2 : IntKind.i64.wrap ((kp : Nat) : Int) = ((kp : Nat) : Int) := IntWalk.i64_in _ (by omega)
              have hg0 : (0 : Int) < (k : Int) := by omega
              have hg0n : 0 < k := by omega
              have hkpn : kp < k := by omega
              have HQL : Hid (q < w6.drew.heap.size) := World.block_lt_of_cell? w6 _ d0
              have hkpk : (kp : Int) < (k : Int) := by omega
              have HAFT := Lib.hid haf
              have hne : acc ≠ [] := fun h => by have := HK.out; rw [h] at this; simp at this; omega
              have HNE := Lib.hid hne
              have y0 := Y0.out.1
              have y1 := Y1.out.1
              clear hz haf hkp hkl hne
              go_upto_region 10 with fail
              go_region_held3 (fun w' => w'.cell? ⟨x, 0, none⟩ = some (.int .u64 sq) ∧ w'.cell? ⟨q, kp * 2, none⟩ = some (.int .u64 zq) ∧ w'.cell? ⟨q, kp * 2 + 1, none⟩ = some (.slice zA zm zc)) (first | exact ⟨y0, d0, d1⟩ | exact ⟨v0, v1, v2⟩ | assumption)
                (first
                  | (go_at_call 28; refine AF.out.mono ?_; rintro e w7 ⟨rfl, h7⟩; have v0 := (Cell.keep (w := w6.drew) Y0.out h7).1; have v1 := (h7.cell (p := ⟨q, kp * 2, none⟩) HQL.out).trans (show w6.drew.cell? _ = _ from d0); have v2 := (h7.cell (p := ⟨q, kp * 2 + 1, none⟩) HQL.out).trans (show w6.drew.cell? _ = _ from d1)))
              have HBW := Lib.hid ((below_drew HB6.out).trans (h7.mono HB6.out.size))
              have HAW : Hid (OwnB w7 w.heap.size (.slice (some ⟨q, 0, none⟩) k d) l) := OwnB.keep (w := w6.drew) HA6.out h7
              have YW0 : Hid (Cell w7 x 0 (.int .u64 sq)) := Cell.keep (w := w6.drew) Y0.out h7
              have YW1 : Hid (Cell w7 x 1 (.slice A3 mo c3)) := Cell.keep (w := w6.drew) Y1.out h7
              clear AF h7 d0 d1 y0 y1
              by_cases hse : sq = zq + zm
              rotate_left
              · have HE : Hid (RP = (acc, at_, 61)) := by show _ = _; rw [HY.out, if_pos ⟨HNE.out, by rw [HAFT.out]; exact hse⟩]
                have hse' : ((sq : Int) != ((zq + zm : Nat) : Int)) = true := by rw [bne_iff_ne]; omega
                go_wp2
                go_ret3
                exact ⟨⟨some ⟨q, 0, none⟩, d, by rw [HE.out, ← HK.out]; rfl⟩, HBW.out⟩
              · have HNX : Hid (RP = replF f' (acc ++ [(sq, (tBat body).2.1)]) (at_ + m) (b'.drop m)) := by show _ = _; rw [HY.out, if_neg (fun h => h.2 (by rw [HAFT.out]; exact hse))]
                have hse' : ((sq : Int) != ((zq + zm : Nat) : Int)) = false := by rw [hse]; simp
                clear hse
                obtain ⟨WW, hWW⟩ : ∃ y, y = w7 := ⟨_, rfl⟩
                rw [← hWW] at HBW HAW YW0 YW1
                rw [← hWW]
                clear hWW
                have hlen := Lib.hid (show k ≤ 4194304 by omega)
                have hbs := Lib.hid HBW.out.size
                have yw0 := YW0.out.1
                have yw1 := YW1.out.1
                go_wp2_with (at_builtin; refine app_bat WW w.heap.size (.slice (some ⟨q, 0, none⟩) k d) k l ⟨sq, mo, A3, c3⟩ rfl (.tmp 72) (.tmp 74) rfl rfl WW.heap.size rfl rfl HAW.out HLK.out.symm hlen.out hbs.out ?_)
                intro gq cap w9 o9 g9
                have HB9 := Lib.hid (HBW.out.trans (grown_belowR g9 (fun q hq => (World.ownsRow.lt HAW.out q hq).1) HBW.out.size))
                have HI' : Hid (∃ (acc : List (Nat × List OpD)) (l : List BV) (f : Nat), Acc w9 w.heap.size (.slice (some ⟨gq, 0, none⟩) (k + 1) cap) acc l ∧ l.length = k + 1 ∧ RP = replF f acc e5 (b.drop e5) ∧ n - e5 < f) := by
                  refine ⟨acc ++ [(sq, (tBat body).2.1)], l ++ [⟨sq, mo, A3, c3⟩], f', ⟨o9, ?_, ?_⟩, by rw [List.length_append, HLK.out]; rfl, ?_, by have := HE5.out; have := HF.out; omega⟩
                  · rw [List.map_append, List.map_append, HAcc.out.1.eq]
                    simp only [List.map_cons, List.map_nil]
                    rw [← HS2.out]
                  · intro z hz
                    rcases List.mem_append.1 hz with hz | hz
                    · exact HAcc.out.1.sm z hz
                    · rw [List.mem_singleton.1 hz]
                      have := HEP.out.2.1.2.2
                      have := HS2.out
                      simp only
                      omega
                  · rw [HNX.out, HB'.out, List.drop_drop, HE5.out]
                clear o9 g9 yw0 yw1
                go_wp2
                go_roundw
                case rel => exact ⟨k + 1, e5, some ⟨gq, 0, none⟩, cap, rfl, by go_num, by have := HE5.out; omega, by have := HE5.out; omega, HI', HB9.out⟩
                case measure => have := HE5.out; simp [intOf]; omega
    · have hge : at_ = n := by omega
      subst hge
      have hge' : decide ((at_ : Int) < (at_ : Int)) = false := by simp
      have hRP' : RP = (acc, at_, 0) := by rw [hRP, List.drop_eq_nil_of_le (by have := hN.out; omega)]; exact replF_end
      have HE := Lib.hid hRP'
      have HK := Lib.hid hacc
      clear hA hlk hRP HI hRP' hacc
      go_wp2
      go_ret3
      exact ⟨⟨A', d, by rw [HE.out, ← HK.out]; rfl⟩, hb⟩
end Go.Proofs.YtfnifpgaieggbaaDoor
