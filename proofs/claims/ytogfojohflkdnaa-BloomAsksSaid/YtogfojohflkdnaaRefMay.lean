/-
  The contract of the reference's May.
-/
import Derived.Test.YtogfojohflkdnaaRefBits
set_option linter.unusedVariables false
namespace Go.Proofs.Ytogfojohflkdnaa
open Go.RowKit

theorem all_drop {l : List Nat} {f : Nat → Bool} {k : Nat} (h : k < l.length) : (l.drop k).all f = (f l[k] && (l.drop (k + 1)).all f) := by
  rw [List.drop_eq_getElem_cons h, List.all_cons]

set_option maxHeartbeats 1600000 in
set_option maxRecDepth 100000 in
theorem rmay_ok (g o : Nat) (c N B P : Nat) (l : List UInt8) (A : Option Addr) (cc : Nat) (key : List UInt8) (w : World) (hg : g < B) (hB : B ≤ w.heap.size) (hcell : ∀ i (h : i < l.length), w.cell? ⟨g, o + i, none⟩ = some (bv l[i])) (hl : l.length = N + 1) (hk : Rd w B A key) (hN : 8 ≤ N) (hM : N ≤ 1099511627776000) (hkl : key.length ≤ 9223372036854775807) (hP : P = at8 l 0) (h8 : (N + 1) % 8 = 1) (h1 : 1 ≤ P) (h30 : P ≤ 30) :
    Calls Try.prog 15 #[.slice (some ⟨g, o, none⟩) (N + 1) c, .slice A key.length cc] w fun e w' => e = .returned (.bool (askN P (hash key) (step (hash key)) (N * 8) l)) ∧ Below w.heap.size w w' := by
  have c0 := rd_at8 hcell (i := 0) (by omega)
  rw [Nat.add_zero, ← hP] at c0
  have h2e : (((N : Int) + 1) % 8 != 1) = false := by rw [bne_eq_false_iff_eq]; omega
  have HB := Lib.hid (fun (x y : Int) (hx : x = (P : Int)) (hy : y = ((N * 8 : Nat) : Int)) w hr => show Calls Try.prog 17 #[.slice A key.length cc, .int .i64 x, .int .u64 y] w fun e w' => ∃ v, e = .returned v ∧ Own64 w' w.heap.size v (seq P (hash key) (step (hash key)) (N * 8)) ∧ Below w.heap.size w w' by rw [hx, hy]; exact rbits_any A cc B P (N * 8) key w hr hkl (by omega) (by omega) (by omega))
  have HK := Lib.hid hk
  have hask := askN_seq P (hash key) (step (hash key)) (N * 8) l
  have hsl := seq_len P (hash key) (step (hash key)) (N * 8)
  have hst := seq_lt P (hash key) (step (hash key)) (N * 8) (by omega)
  obtain ⟨L, hL⟩ : ∃ L, L = seq P (hash key) (step (hash key)) (N * 8) := ⟨_, rfl⟩
  rw [← hL] at HB hask hsl hst
  rw [hask]
  have HST := Lib.hid hst
  have HC := Lib.hid hcell
  clear hask hL hst hcell hP hk h8
  go_enter Try.func15, Try.ntmps15
  go_wp2_with fail
  refine (HB.out _ _ (by omega) (by omega) _ HK.out).mono ?_
  rintro e w1 ⟨v, rfl, ho, hb⟩
  obtain ⟨A1, c1, rfl, hr⟩ := ho.rd
  rw [hsl]
  go_wp2
  go_loopw [6, 7] (fun i _ wr => ∃ k : Nat, k ≤ P ∧ i = .int .i64 k ∧ L.all (testB l) = (L.drop k).all (testB l) ∧ wr = w1) (fun i _ _ => P - (intOf i).toNat)
  case atStart => exact ⟨0, by omega, rfl, rfl, rfl⟩
  case round =>
    obtain ⟨k, hk, rfl, hall, rfl⟩ := hrel
    replace hall := Lib.hid hall
    by_cases hlt : k < P
    · rcases hr with hnil | ⟨gl, ol, rfl, hgl, hcl⟩
      · rw [hnil] at hsl; simp at hsl; omega
      have cj := hcl k (by omega)
      obtain ⟨J, hJ⟩ : ∃ J, J = L[k]'(by omega) := ⟨_, rfl⟩
      rw [← hJ] at cj
      unfold nv at cj
      have hJl : J < N * 8 := by rw [hJ]; exact HST.out _ (List.getElem_mem _)
      obtain ⟨d, hd⟩ : ∃ d, d = J / 8 := ⟨_, rfl⟩
      obtain ⟨q, hq⟩ : ∃ q, q = J % 8 := ⟨_, rfl⟩
      have hdi : (J : Int) / 8 = (d : Int) := by omega
      have hqi : (J : Int) % 8 = (q : Int) := by omega
      have hdl : d < N := by omega
      have hql : q < 8 := by omega
      have cx : wr.cell? ⟨g, o + (1 + d), none⟩ = some (.int .u8 (at8 l (1 + d) : Int)) := (hb.cell (p := ⟨g, o + (1 + d), none⟩) (Nat.lt_of_lt_of_le hg hB)).trans (rd_at8 HC.out (i := 1 + d) (by omega))
      have hx8 := at8_lt l (1 + d)
      have HT := Lib.hid (show (L.drop k).all (testB l) = ((at8 l (1 + d)).testBit q && (L.drop (k + 1)).all (testB l)) by rw [all_drop (by omega), ← hJ, hd, hq]; rfl)
      obtain ⟨x, hx⟩ : ∃ x, x = at8 l (1 + d) := ⟨_, rfl⟩
      rw [← hx] at cx hx8 HT
      have hpw : (2 : Int) ^ q % 256 = ((2 ^ q : Nat) : Int) := pow_mod8 hql
      have hpl : 2 ^ q < 256 := Nat.pow_lt_pow_right (by decide) hql
      have hand := and_u8 x (2 ^ q) hx8 hpl
      have hap := and_pow x q
      obtain ⟨y, hy⟩ : ∃ y, y = 2 ^ q := ⟨_, rfl⟩
      rw [← hy] at hpw hand hap hpl
      obtain ⟨z, hz⟩ : ∃ z, z = x &&& y := ⟨_, rfl⟩
      rw [← hz] at hand hap
      clear hcl hJ hd hq hx hy hz
      rcases hbit : x.testBit q with _ | _
      · have hz0 : (((z : Nat) : Int) == 0) = true := by rw [beq_iff_eq]; have := hap.2 hbit; omega
        rw [hbit] at HT
        clear hap hbit
        go_wp2
        go_ret
        exact ⟨by rw [hall.out, HT.out]; simp, hb⟩
      · have hz0 : (((z : Nat) : Int) == 0) = false := by
          rw [beq_eq_false_iff_ne]
          intro h0
          have := hap.1 (by omega)
          rw [hbit] at this
          cases this
        rw [hbit] at HT
        clear hap hbit
        go_wp2
        exact ⟨⟨k + 1, by omega, by go_num, by rw [hall.out, HT.out]; simp, trivial⟩, by simp [intOf]; omega⟩
    · have hkp : k = P := by omega
      go_wp2
      go_ret
      refine ⟨?_, hb⟩
      rw [hall.out, List.drop_eq_nil_of_le (by omega)]
      simp

set_option maxHeartbeats 800000 in
set_option maxRecDepth 100000 in
theorem rmay_any (F : Option Addr) (c B : Nat) (l : List UInt8) (A : Option Addr) (cc : Nat) (key : List UInt8) (w : World) (hB : B ≤ w.heap.size) (hf : Rd w B F l) (hk : Rd w B A key) (hM : l.length ≤ 140737488355327) (hkl : key.length ≤ 9223372036854775807) :
    Calls Try.prog 15 #[.slice F l.length c, .slice A key.length cc] w fun e w' => e = .returned (.bool (mayB l key)) ∧ Below w.heap.size w w' := by
  unfold mayB
  by_cases h1 : l.length < 9
  · rw [if_pos (.inl h1)]
    go_enter Try.func15, Try.ntmps15
    go_wp2
    go_ret
    exact ⟨rfl, Below.refl _ _⟩
  · rcases hf with h | ⟨g, o, rfl, hg, hcell⟩
    · rw [h] at h1; simp at h1
    have c0 := rd_at8 hcell (i := 0) (by omega)
    rw [Nat.add_zero] at c0
    have HP := Lib.hid (fun N P (hl : l.length = N + 1) (hP : P = at8 l 0) h8 h1 h30 => rmay_ok g o c N B P l A cc key w hg hB hcell hl hk (by omega) (by omega) hkl hP h8 h1 h30)
    obtain ⟨P, hP⟩ : ∃ P, P = at8 l 0 := ⟨_, rfl⟩
    rw [← hP] at c0
    rw [← hP]
    replace hP := Lib.hid hP
    clear hcell
    by_cases h2 : l.length % 8 = 1
    · have h2d : ((l.length : Int) % 8 != 1) = false := by rw [bne_eq_false_iff_eq]; omega
      by_cases h3 : P < 1
      · rw [if_pos (.inr (.inr (.inl h3)))]
        go_enter Try.func15, Try.ntmps15
        go_wp2
        go_ret
        exact ⟨rfl, Below.refl _ _⟩
      · by_cases h4 : 30 < P
        · rw [if_pos (.inr (.inr (.inr h4)))]
          go_enter Try.func15, Try.ntmps15
          go_wp2
          go_ret
          exact ⟨rfl, Below.refl _ _⟩
        · rw [if_neg (by omega)]
          obtain ⟨N, hN⟩ : ∃ N, l.length = N + 1 := ⟨l.length - 1, by omega⟩
          have e : l.length - 1 = N := by omega
          have HQ := HP.out N P hN hP.out (by omega) (by omega) (by omega)
          rw [e, hN]
          exact HQ
    · have h2d : ((l.length : Int) % 8 != 1) = true := by rw [bne_iff_ne]; omega
      rw [if_pos (.inr (.inl h2))]
      clear h2
      go_enter Try.func15, Try.ntmps15
      go_wp2
      go_ret
      exact ⟨rfl, Below.refl _ _⟩
end Go.Proofs.Ytogfojohflkdnaa
