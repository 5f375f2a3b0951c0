/-
  The contract of awake.
-/
import Derived.Test.YtekgmgiokmbliaaDrop
set_option linter.unusedVariables false
namespace Go.Proofs.Ytekgmgiokmbliaa
open Go.RowKit

theorem Rd.apart {w w' : World} {g : Nat} {row : Option Nat} {v : Value} {A : Option Addr} {c base : Nat} {l : List UInt8} (h : Own w base v l) (hv : v = .slice A l.length c) (t : Two g row w w') (hg : g < base) (hr : ∀ b, v.ownBlock = some b → row ≠ some b) : Rd w' w'.heap.size A l := by
  obtain ⟨A2, c2, hv2, hrd⟩ := h.rd
  obtain ⟨rfl, rfl⟩ : A2 = A ∧ c2 = c := by rw [hv] at hv2; injection hv2 with h1 _ h3; exact ⟨h1.symm, h3.symm⟩
  refine (hrd.two (Nat.le_refl _) t ?_).more t.size
  rintro q o rfl hl
  have hq : v.ownBlock = some q := by rw [hv]; rfl
  have := World.ownsRow.lt h q hq
  exact ⟨by omega, fun e => hr q hq e.symm⟩

set_option maxHeartbeats 1600000 in
set_option maxRecDepth 100000 in
theorem awake_any (w : World) : Calls Try.prog 9 #[] w fun e w' => e = .returned (.bool true) ∧ Below w.heap.size w w' := by
  have kc := fun (w : World) (C : Array Value) (n c : Nat) => Lib.run_convert_bytes_const (P := Try.prog) w 30 5 C n c Try.underlying30 Try.underlying5
  go_enter Try.func9, Try.ntmps9
  go_wp2_with fail
  refine (new_any _).mono ?_
  rintro e w1 ⟨rfl, N1, h1⟩
  have hbl := below1' w1 (.cells #[.int .u8 120] 5 (1, 2))
  have N2 := N1.below hbl
  have R2 := rd_mark w1 [120] #[.int .u8 120] (1, 2) rfl
  have hs1 := h1.size
  have hcl := N1.c0.lt
  have S := Lib.hid (send_ok w.heap.size w.heap.size 0 (.slice none 0 0) [] 0 1 2 3 (some ⟨w1.heap.size, 0, none⟩) 1 1 [120] _ N2 rfl rfl (by decide) (by decide) rfl (by decide) (by simpa using R2) (by intro h; cases h) (by rintro q o h _; injection h with h; injection h with h; exact ⟨by omega, by simp [Value.ownBlock]⟩) (by decide) (by decide) (by decide))
  have hb := Lib.hid (h1.trans (hbl.mono hs1))
  clear N1 N2 hbl h1 R2
  go_wp2_with fail
  refine S.out.mono ?_
  rintro e w2 ⟨v, fv, rfl, N3, O3, hva, T3, _⟩
  obtain ⟨vA, vc, rfl, hv⟩ := O3.rd
  have DD := Lib.hid (fun hR => deliver_ok w.heap.size w.heap.size 1 fv [((1 : Int), (1 : Int), (2 : Int), (3 : Int), Value.slice vA 1 vc)] 1 w2 N3 hR (by simp) (by decide) ⟨_, List.mem_singleton.2 rfl, rfl⟩ (fun e he => by rw [List.mem_singleton.1 he]; exact ⟨vA, 1, vc, rfl⟩))
  have hR : Rise [((1 : Int), (1 : Int), (2 : Int), (3 : Int), Value.slice vA 1 vc)] := by
    refine ⟨fun i j h1 h2 => ?_, fun e he => ?_⟩
    · simp at h2; omega
    · rw [List.mem_singleton.1 he]; exact ⟨by simp, by simp⟩
  have DB := Lib.hid (DD.out hR)
  clear DD hR
  go_wp2_with fail
  refine DB.out.mono ?_
  rintro e w3 ⟨k, fv', hk, hkx, rfl, N4, ho, T4⟩
  obtain rfl : k = 0 := by simpa using hk
  rw [show evV (evAt [((1 : Int), (1 : Int), (2 : Int), (3 : Int), Value.slice vA 1 vc)] 0) = .agg #[.int .i64 1, .int .i64 1, .int .i64 2, .int .i64 3, .slice vA 1 vc] from rfl]
  have R3 := Rd.apart O3 rfl T4 (by simp; omega) hva
  have h3 := T3.below (B := w.heap.size) (Nat.le_refl _) (by intro r h; cases h) hb.out.size
  have h3 := hb.out.trans (h3.mono (Nat.le_refl _))
  have h4 := T4.below (B := w.heap.size) (Nat.le_refl _) (by intro r h; exact (World.ownsRow.lt N3.own r h).1) h3.size
  have h4 := h3.trans (h4.mono (Nat.le_refl _))
  have h5 := h4.alloc h4.size (.cells #[.int .i64 1, .int .i64 1, .int .i64 2, .int .i64 3, .slice vA 1 vc] 32)
  have s5 := str_of (R3.below (below1' w3 (.cells #[.int .i64 1, .int .i64 1, .int .i64 2, .int .i64 3, .slice vA 1 vc] 32))) vc
  simp only [List.length_cons, List.length_nil, Nat.zero_add] at s5
  clear h3 h4 R3 N3 N4 T3 T4 O3 hva ho hk hkx hv DB S hb
  go_wp2
  go_ret
  exact ⟨rfl, h5⟩
end Go.Proofs.Ytekgmgiokmbliaa
