/-
  MemberBytes; one entry, on both sides.
-/
import Derived.Test.YtekgmgiokmbliaaMemb
set_option linter.unusedVariables false
namespace Go.Proofs.Ytekgmgiokmbliaa
open Go.RowKit

theorem intsOf_len (l : List UInt8) : (intsOf l).length = l.length := by simp [intsOf]
theorem intsOf_snoc {l : List UInt8} {k : Nat} (hk : k < l.length) : intsOf (l.take (k + 1)) = intsOf (l.take k) ++ [(l[k].toNat : Int)] := by
  unfold intsOf
  rw [List.take_succ_eq_append_getElem hk, List.map_append]
  rfl

set_option maxHeartbeats 1600000 in
set_option maxRecDepth 100000 in
theorem rmemberbytes_any (l : List UInt8) (A : Option Addr) (n c : Nat) (w : World) (hn : n = l.length) (hr : Rd w w.heap.size A l) :
    Calls Try.prog 68 #[.slice A n c] w fun e w' => Tells e (MembersP (intsOf l)) ∧ Below w.heap.size w w' := by
  by_cases hbig : 5 < n
  · have hnp := Lib.hid (show ¬ MembersP (intsOf l) from fun h => by have := h.2.five; rw [intsOf_len] at this; omega)
    clear hr hn
    go_enter Try.func68, Try.ntmps68
    go_wp2
    go_ret
    exact ⟨.no hnp.out, Below.refl _ _⟩
  have HN := Lib.hid hn
  have HR := Lib.hid hr
  have O0 : Hid (OwnI w w.heap.size (.slice none 0 0) (intsOf (l.take 0))) := World.ownsRow_nil _ _ _ _
  clear hn hr
  go_enter Try.func68, Try.ntmps68
  go_wp2
  go_loopw [3, 4] (fun s3 s4 wr => ∃ (k : Nat) (B : Option Addr) (d : Nat), s4 = .int .i64 k ∧ k ≤ n ∧ s3 = .slice B k d ∧ Hid (OwnI wr w.heap.size (.slice B k d) (intsOf (l.take k))) ∧ Below w.heap.size w wr) (fun _ s4 _ => n - (intOf s4).toNat)
  case atStart => exact ⟨0, none, 0, rfl, by omega, rfl, O0, Below.refl _ _⟩
  case round =>
    clear O0
    obtain ⟨k, B, d, rfl, hk, rfl, HO, hb⟩ := hrel
    by_cases hlt : k < n
    · have hkl : k < l.length := by have := HN.out; omega
      rcases HR.out with h0 | ⟨q, o, rfl, hq, hc⟩
      · rw [h0] at hkl; simp at hkl
      have d0 := (hb.cell (p := ⟨q, o + k, none⟩) hq).trans (hc k hkl)
      have HS := Lib.hid (intsOf_snoc hkl)
      obtain ⟨y, hy⟩ : ∃ y, y = l[k] := ⟨_, rfl⟩
      replace HS := HS.out
      rw [← hy] at d0 HS
      replace HS := Lib.hid HS
      replace d0 : wr.cell? ⟨q, o + k, none⟩ = some (.int .u8 (y.toNat : Int)) := d0
      have ylt : ((y.toNat : Nat) : Int) < 256 := by have := y.toNat_lt; omega
      have hwr : IntKind.i64.wrap ((y.toNat : Nat) : Int) = ((y.toNat : Nat) : Int) := IntWalk.i64_in _ (by omega)
      have hsz := Lib.hid hb.size
      have HB := Lib.hid hb
      have hkk : Hid (k = (intsOf (l.take k)).length) := by show k = _; rw [intsOf_len, List.length_take]; omega
      have hk3 : Hid (k < 1000) := by show _ < _; omega
      clear hb hc hy
      go_wp2_with (at_builtin; refine app_int _ w.heap.size (.slice B k d) k (intsOf (l.take k)) (y.toNat : Int) rfl (.tmp 14) (.tmp 20) rfl rfl wr.heap.size (by simp) rfl HO.out hkk.out hk3.out hsz.out ?_)
      intro gq cap w6 O6 hgr hl6
      have h6 : Below w.heap.size w w6 := (HB.out.alloc HB.out.size (.cells #[.int .i64 (y.toNat : Int)] 3)).grown hgr (Nat.le_trans HB.out.size (by simp)) (fun b hb' => (World.ownsRow.lt HO.out b hb').1)
      rw [← HS.out] at O6
      have HO6 := Lib.hid O6
      clear O6 hgr hl6 HO
      go_wp2
      go_roundw
      case rel => exact ⟨k + 1, some ⟨gq, 0, none⟩, cap, by go_num, by omega, rfl, HO6, h6⟩
      case measure => simp [intOf]; omega
    · have hkn : k = n := by omega
      subst hkn
      have hO := HO.out
      rw [List.take_of_length_le (by have := HN.out; omega)] at hO
      have RM := Lib.hid (rmembers_any (intsOf l) B k d wr (by rw [intsOf_len]; exact HN.out) hO.rdI (by omega))
      clear hO
      go_wp2_with fail
      refine RM.out.mono ?_
      rintro e w2 ⟨⟨b, rfl, hbb⟩, h2⟩
      have HBB := Lib.hid hbb
      have h3 := hb.trans (h2.mono hb.size)
      clear hbb h2
      go_wp2
      go_ret
      exact ⟨.of HBB.out, h3⟩

theorem entP_1 {i t : Int} {l : List UInt8} (hT : 1 ≤ t ∧ t ≤ 9007199254740991) (hC : CountP i) : EntP ⟨i, t, 1, l⟩ ↔ l.length = 0 := ⟨fun h => by
  rcases h.2.2 with h | h | h
  · exact h.2
  · exact absurd h.1 (by simp)
  · exact absurd h.1 (by simp), fun h => ⟨hT, hC, .inl ⟨rfl, h⟩⟩⟩
theorem entP_2 {i t : Int} {l : List UInt8} (hT : 1 ≤ t ∧ t ≤ 9007199254740991) (hC : CountP i) : EntP ⟨i, t, 2, l⟩ ↔ l.length ≤ 12000 := ⟨fun h => by
  rcases h.2.2 with h | h | h
  · exact absurd h.1 (by simp)
  · exact h.2
  · exact absurd h.1 (by simp), fun h => ⟨hT, hC, .inr (.inl ⟨rfl, h⟩)⟩⟩
theorem entP_3 {i t : Int} {l : List UInt8} (hT : 1 ≤ t ∧ t ≤ 9007199254740991) (hC : CountP i) : EntP ⟨i, t, 3, l⟩ ↔ MembersP (intsOf l) := ⟨fun h => by
  rcases h.2.2 with h | h | h
  · exact absurd h.1 (by simp)
  · exact absurd h.1 (by simp)
  · exact h.2, fun h => ⟨hT, hC, .inr (.inr ⟨rfl, h⟩)⟩⟩
theorem entP_o {i t k : Int} {l : List UInt8} (h1 : ¬ k = 1) (h2 : ¬ k = 2) (h3 : ¬ k = 3) : ¬ EntP ⟨i, t, k, l⟩ := fun h => by
  rcases h.2.2 with h | h | h
  · exact h1 h.1
  · exact h2 h.1
  · exact h3 h.1

def entV (i t k : Int) (A : Option Addr) (n c : Nat) : Value := .agg #[.int .i64 i, .int .i64 t, .int .i64 k, .slice A n c]

set_option maxHeartbeats 1600000 in
set_option maxRecDepth 100000 in
theorem entry_any (i t k : Int) (A : Option Addr) (n c : Nat) (l : List UInt8) (w : World) (hn : n = l.length) (hr : Rd w w.heap.size A l) (hl : n ≤ 1048576) :
    Calls Try.prog 69 #[entV i t k A n c] w fun e w' => Tells e (EntP ⟨i, t, k, l⟩) ∧ Below w.heap.size w w' := by
  unfold entV
  have hb := below1' w (.cells #[.int .i64 i, .int .i64 t, .int .i64 k, .slice A n c] 74)
  have HR := Lib.hid ((hr.below hb).more hb.size)
  have HN := Lib.hid hn
  clear hr hn
  go_enter Try.func69, Try.ntmps69
  go_wp2_with fail
  refine (term_any _ _).mono ?_
  rintro e w1 ⟨⟨b, rfl, hT⟩, rfl⟩
  have HT := Lib.hid hT
  clear hT
  cases b with
  | false =>
    go_wp2
    go_ret
    exact ⟨.no (fun h => by have := HT.out.2 h.1; cases this), hb⟩
  | true =>
    replace HT := Lib.hid (HT.out.1 rfl)
    go_wp2_with fail
    refine (count_any _ _).mono ?_
    rintro e w1 ⟨⟨b, rfl, hC⟩, rfl⟩
    have HC := Lib.hid hC
    clear hC
    cases b with
    | false =>
      go_wp2
      go_ret
      exact ⟨.no (fun h => by have := HC.out.2 h.2.1; cases this), hb⟩
    | true =>
      replace HC := Lib.hid (HC.out.1 rfl)
      by_cases hk1 : k = 1
      · subst hk1
        go_wp2
        go_ret
        refine ⟨.of (Iff.trans ?_ (entP_1 HT.out HC.out).symm), hb⟩
        have hn := HN.out
        rw [← hn]
        simp
      · by_cases hk2 : k = 2
        · subst hk2
          go_wp2
          go_ret
          refine ⟨.of (Iff.trans ?_ (entP_2 HT.out HC.out).symm), hb⟩
          have hn := HN.out
          simp; omega
        · by_cases hk3 : k = 3
          · subst hk3
            have NU := Lib.hid (numbers_any l A n c _ HN.out HR.out hl)
            go_wp2_with fail
            refine NU.out.mono ?_
            rintro e w2 ⟨A', c', rfl, hO, h2⟩
            have h3 := hb.trans (h2.mono hb.size)
            have MM := Lib.hid (members_any (intsOf l) A' n c' w2 (by rw [intsOf_len]; exact HN.out) hO.rdI (by omega))
            clear hO h2 NU
            go_wp2_with fail
            refine MM.out.mono ?_
            rintro e w3 ⟨⟨b, rfl, hbb⟩, rfl⟩
            have HBB := Lib.hid hbb
            clear hbb
            go_wp2
            go_ret
            exact ⟨.of (Iff.trans HBB.out (entP_3 HT.out HC.out).symm), h3⟩
          · have hn1 : (k == 1) = false := by rw [beq_eq_false_iff_ne]; exact hk1
            have hn2 : (k == 2) = false := by rw [beq_eq_false_iff_ne]; exact hk2
            have hn3 : (k == 3) = false := by rw [beq_eq_false_iff_ne]; exact hk3
            go_wp2
            go_ret
            exact ⟨.no (entP_o hk1 hk2 hk3), hb⟩
end Go.Proofs.Ytekgmgiokmbliaa
