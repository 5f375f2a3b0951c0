/-
  counts, putBool, truth, Text.
-/
import Derived.Test.YtekgmgiokmbliaaVar
set_option linter.unusedVariables false
namespace Go.Proofs.Ytekgmgiokmbliaa
open Go.RowKit

def natI (x : Nat) : Int := x
def vbs (L : List Nat) : List UInt8 := L.flatMap vb
theorem vbs_snoc {L : List Nat} {k : Nat} (hk : k < L.length) : vbs (L.take (k + 1)) = vbs (L.take k) ++ vb L[k] := by
  unfold vbs
  rw [List.take_succ_eq_append_getElem hk, List.flatMap_append]
  simp
theorem vbs_len {L : List Nat} (h : ∀ x ∈ L, x ≤ 9223372036854775807) : ∀ k, (vbs (L.take k)).length ≤ 9 * k := by
  intro k
  induction k with
  | zero => simp [vbs]
  | succ k ih =>
    by_cases hk : k < L.length
    · rw [vbs_snoc hk, List.length_append]
      have := vb_nine (h _ (List.getElem_mem hk))
      omega
    · rw [List.take_of_length_le (by omega)] at ih ⊢
      omega

set_option maxHeartbeats 3200000 in
set_option maxRecDepth 100000 in
theorem counts_any (L : List Nat) (A : Option Addr) (n c base : Nat) (v : Value) (l : List UInt8) (w : World) (hn : n = L.length) (h4 : n ≤ 4) (hb : ∀ x ∈ L, x ≤ 9223372036854775807) (hr : RdI w w.heap.size A (L.map natI)) (hq : ∀ q o, A = some ⟨q, o, none⟩ → v.ownBlock ≠ some q)
    (ho : Own w base v l) (hl : l.length ≤ 70368744170000) (hbase : base ≤ w.heap.size) :
    Calls Try.prog 41 #[v, .slice A n c] w fun e w' => ∃ v', e = .returned v' ∧ Own w' base v' (l ++ vbs L) ∧ w.grownBy w' v.ownBlock ∧ Lies w v v' := by
  obtain ⟨lA, lc, rfl, _⟩ := ho.rd
  have HLn := Lib.hid (vbs_len hb)
  have HLb := Lib.hid hb
  have HO := Lib.hid ho
  have HB := Lib.hid hbase
  have HR := Lib.hid hr
  have HQ := Lib.hid hq
  have HN := Lib.hid hn
  clear ho hr hq hn hb hbase
  have S0 : Hid (∃ pre, pre = l ++ vbs (L.take 0) ∧ Own w base (.slice lA l.length lc) pre ∧ l.length = pre.length) := ⟨l, by simp [vbs], HO.out, rfl⟩
  go_enter Try.func41, Try.ntmps41
  go_wp2
  go_loopw [0, 9] (fun s0 s9 wr => ∃ (k : Nat) (nn : Nat) (B : Option Addr) (d : Nat), s9 = .int .i64 k ∧ k ≤ n ∧ s0 = .slice B nn d ∧ Hid (∃ pre, pre = l ++ vbs (L.take k) ∧ Own wr base (.slice B nn d) pre ∧ nn = pre.length) ∧ Hid (w.grownBy wr (Value.slice lA l.length lc).ownBlock) ∧ Hid (Lies w (.slice lA l.length lc) (.slice B nn d))) (fun _ s9 _ => n - (intOf s9).toNat)
  case atStart => exact ⟨0, l.length, lA, lc, rfl, by omega, rfl, S0, World.grownBy.refl w _, Lies.refl _ _⟩
  case round =>
    clear S0
    obtain ⟨k, nn, B, d, rfl, hk, rfl, HOw, HG, HL⟩ := hrel
    by_cases hlt : k < n
    · have hkl : k < L.length := by have := HN.out; omega
      rcases HR.out with h0 | ⟨q, o, rfl, hq, hc⟩
      · have := congrArg List.length h0; simp at this; rw [this] at hkl; simp at hkl
      have d0 := hc k (by simpa using hkl)
      rw [List.getElem_map] at d0
      obtain ⟨x, hx⟩ : ∃ x, x = L[k] := ⟨_, rfl⟩
      rw [← hx] at d0
      have d1 : wr.cell? ⟨q, o + k, none⟩ = some (.int .i64 (x : Int)) := (HG.out.cell_far _ hq (fun e => HQ.out q o rfl e.symm)).trans d0
      have hx9 : x ≤ 9223372036854775807 := by rw [hx]; exact HLb.out _ (List.getElem_mem hkl)
      have HV9 := Lib.hid (vb_nine hx9)
      have HS := Lib.hid (vbs_snoc hkl)
      have hS := HS.out
      rw [← hx] at hS
      replace HS := Lib.hid hS
      have HLk := Lib.hid (HLn.out k)
      obtain ⟨pre0, hp0, ho0, hn0⟩ := HOw.out
      have S1 : Hid (∃ pre, pre ++ vb x = l ++ vbs (L.take k) ++ vb x ∧ Own wr base (.slice B nn d) pre ∧ nn = pre.length) := ⟨pre0, by rw [hp0], ho0, hn0⟩
      clear hc d0 hx hp0 ho0 hn0 HOw hS
      go_wp2
      go_loopw [0, 6] (fun s0 s6 wq => ∃ (m nn : Nat) (B : Option Addr) (d : Nat), s6 = .int .i64 m ∧ m ≤ x ∧ s0 = .slice B nn d ∧ Hid (∃ pre, pre ++ vb m = l ++ vbs (L.take k) ++ vb x ∧ Own wq base (.slice B nn d) pre ∧ nn = pre.length) ∧ Hid (w.grownBy wq (Value.slice lA l.length lc).ownBlock) ∧ Hid (Lies w (.slice lA l.length lc) (.slice B nn d))) (fun _ s6 _ => (intOf s6).toNat)
      case atStart => exact ⟨x, nn, B, d, rfl, Nat.le_refl _, rfl, S1, HG, HL⟩
      case round =>
        clear S1 HG HL d1
        obtain ⟨m, nn, B, d, rfl, hm, rfl, HOw, HG, HL⟩ := hrel
        obtain ⟨pre, hpre, hown, hnn⟩ := HOw.out
        subst hnn
        have HPre := Lib.hid hpre
        have HOn := Lib.hid hown
        have hpl : Hid (pre.length + 1 ≤ 70368744177664) := by
          have h1 := congrArg List.length hpre
          simp only [List.length_append] at h1
          have := HV9.out
          have := HLk.out
          show _ ≤ _; omega
        have hbs : Hid (base ≤ wr.heap.size) := Nat.le_trans HB.out HG.out.size
        have hm2 : m ≤ 9223372036854775807 := by omega
        clear hpre hown HOw
        by_cases h : m < 128
        · have hby : Hid ((m : Int) = ((by8 m).toNat : Int)) := (by8_toNat (by omega)).symm
          have hw8 : IntKind.u8.wrap (m : Int) = (m : Int) := IntWalk.u8_in _ (by omega)
          go_wp2_with (at_builtin; refine app_byte wr base _ pre (by8 m) _ hby.out rfl (.tmp 23) (.tmp 26) rfl rfl wr.heap.size rfl rfl HOn.out hpl.out hbs.out ?_)
          intro gq cap w6 O6 hg6 hl6
          have HF := Lib.hid (And.intro O6 (And.intro hg6 hl6))
          clear O6 hg6 hl6
          go_wp2
          go_roundw
          case rel =>
            obtain ⟨O6, hg6, hl6⟩ := HF.out
            refine ⟨k + 1, pre.length + 1, some ⟨gq, 0, none⟩, cap, by go_num, by omega, rfl, Lib.hid ⟨_, ?_, O6, by simp⟩, grown_trans HG.out hg6 HL.out, HL.out.trans hl6 HG.out.size⟩
            rw [HS.out, ← List.append_assoc, ← HPre.out, vb_lt h]
          case measure => simp [intOf]; omega
        · have hby : Hid (bits .or .u8 ((m : Int) % 256) 128 = ((by8 (128 + m % 128)).toNat : Int)) := by
            show _ = _; rw [or128, by8_toNat (by omega)]
          go_wp2_with (at_builtin; refine app_byte wr base _ pre (by8 (128 + m % 128)) _ hby.out rfl (.tmp 15) (.tmp 19) rfl rfl wr.heap.size rfl rfl HOn.out hpl.out hbs.out ?_)
          intro gq cap w6 O6 hg6 hl6
          have HF := Lib.hid (And.intro O6 (And.intro hg6 hl6))
          clear O6 hg6 hl6
          go_wp2
          go_roundw
          case rel =>
            obtain ⟨O6, hg6, hl6⟩ := HF.out
            refine ⟨m / 128, pre.length + 1, some ⟨gq, 0, none⟩, cap, by go_num, by omega, rfl, Lib.hid ⟨_, ?_, O6, by simp⟩, grown_trans HG.out hg6 HL.out, HL.out.trans hl6 HG.out.size⟩
            rw [List.append_assoc, List.singleton_append, ← vb_ge h]
            exact HPre.out
          case measure => simp [intOf]; omega
    · have hkn : k = n := by omega
      subst hkn
      go_wp2
      go_ret
      obtain ⟨pre, hp, ho, hn⟩ := HOw.out
      rw [List.take_of_length_le (by have := HN.out; omega)] at hp
      exact ⟨_, rfl, hp ▸ ho, HG.out, HL.out⟩
end Go.Proofs.Ytekgmgiokmbliaa
