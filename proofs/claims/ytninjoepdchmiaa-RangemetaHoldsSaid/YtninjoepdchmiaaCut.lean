/-
  Cuts of bytes in memory, and bytes as a string; laid once for whatever package.
-/
import Derived.Test.YtninjoepdchmiaaBase
import Derived.Lib.SlBytesConst
import Derived.Laws.IdiomStrings
import Derived.Deep.RegionWith
import Derived.Deep.RegionHeld3
namespace Go.Proofs.Ytninjoepdchmiaa
open Go.RowKit

theorem below_drew {B : Nat} {a w : World} (h : Below B a w) : Below B a w.drew := ⟨h.os, h.tape, h.output, h.size, h.block⟩
theorem below_allocD {B : Nat} {a w : World} (h : Below B a w) (hB : B ≤ a.heap.size) (o : Obj) : Below B a (w.alloc o) := h.alloc (Nat.le_trans hB h.size) o

theorem rd_lit (w : World) (l : List UInt8) (C : Array Value) (hC : C.toList = l.map bv) : Rd (w.alloc (.cells C 5)) (w.heap.size + 1) (some ⟨w.heap.size, 0, none⟩) l := by
  refine .inr ⟨w.heap.size, 0, rfl, by omega, fun i hi => ?_⟩
  rw [World.cell?_alloc_at _ _ _ _ rfl, ← Array.getElem?_toList, hC]
  simp [List.getElem?_map, List.getElem?_eq_getElem hi]

theorem rd_mark (w : World) (l : List UInt8) (C : Array Value) (m : Nat × Nat) (hC : C.toList = l.map bv) : Rd (w.alloc (.cells C 5 m)) (w.heap.size + 1) (some ⟨w.heap.size, 0, none⟩) l := by
  refine .inr ⟨w.heap.size, 0, rfl, by omega, fun i hi => ?_⟩
  rw [Nat.zero_add, World.cell?_alloc_mark, ← Array.getElem?_toList, hC]
  simp [List.getElem?_map, List.getElem?_eq_getElem hi]
/-- string(b) -/
theorem str_of {w : World} {B : Nat} {A : Option Addr} {l : List UInt8} (h : Rd w B A l) (c : Nat) : (convert 24 9 (.slice A l.length c)).run Try.prog w = .ok (.string ⟨l.toArray⟩) w := by
  rcases h with rfl | ⟨g, o, rfl, _, hc⟩
  · rcases A with _ | ad
    · exact run_convert_bytes_nil w 24 5 Try.underlying24 Try.underlying5 0 c 9 Try.underlying9
    · exact run_convert_bytes_back w 24 9 5 ad c [] Try.underlying24 Try.underlying5 Try.underlying9 (fun j hj => by simp at hj)
  · exact run_convert_bytes_back w 24 9 5 ⟨g, o, none⟩ c l Try.underlying24 Try.underlying5 Try.underlying9 (fun j hj => by rw [add_at]; exact hc j hj)

/-- b[k:e] -/
theorem cut_run {W : World} {B : Nat} {A : Option Addr} {l : List UInt8} {n c k e : Nat} (hn : n = l.length) (hr : Rd W B A l) (hk : k ≤ e) (he : e ≤ l.length) (hc : l.length ≤ c) :
    ∃ A', (∀ W' : World, (Instr.slice 24 (.slice A n c) (some (.int .i64 (k : Int))) (some (.int .i64 (e : Int))) none).run Try.prog W' = .ok (.slice A' (e - k) (c - k)) W') ∧ Rd W B A' ((l.drop k).take (e - k)) := by
  obtain ⟨i0, hi0, hz0, hz1, hz2⟩ := info_parts info8
  have hu : Try.prog.underlying 24 = some (.slice (Try.prog.elem 24)) := by simp [Program.elem, Try.underlying24]
  have hel : Try.prog.elem 24 = 5 := by simp [Program.elem, Try.underlying24]
  refine ⟨if c = k then A else A.map (·.add (k * 1)), fun W' => ?_, ?_⟩
  · rw [run_slice_lh W' 24 A n c hu .i64 .i64 (k : Int) (e : Int) (by omega) (by omega) (by omega), hel]
    have hs : (Go.sizeOf 5).run Try.prog W' = .ok 1 W' := by simp [Go.sizeOf, typeInfo, hi0, hz1]
    rw [hs]
    simp [sliced, Result.andThen]
  · by_cases h0 : e = k
    · subst h0
      exact .inl (by simp)
    · rcases hr with rfl | ⟨g, o, rfl, hg, hcell⟩
      · simp at he; omega
      · rw [if_neg (by omega)]
        refine .inr ⟨g, o + k, by simp [add_at], hg, fun i hi => ?_⟩
        have hi' : i < e - k := by simp at hi; omega
        rw [Nat.add_assoc, hcell (k + i) (by omega)]
        simp
/-- b[k:], b[:e] are cuts too -/
theorem drop_take_all {l : List UInt8} {k : Nat} : (l.drop k).take (l.length - k) = l.drop k := by
  rw [List.take_of_length_le]
  simp
/-- b[:e] -/
theorem cut0_run {A : Option Addr} {n c e : Nat} (hc : e ≤ c) : ∀ W' : World, (Instr.slice 24 (.slice A n c) none (some (.int .i64 (e : Int))) none).run Try.prog W' = .ok (.slice A e c) W' := by
  obtain ⟨i0, hi0, hz0, hz1, hz2⟩ := info_parts info8
  have hu : Try.prog.underlying 24 = some (.slice (Try.prog.elem 24)) := by simp [Program.elem, Try.underlying24]
  have hel : Try.prog.elem 24 = 5 := by simp [Program.elem, Try.underlying24]
  intro W'
  rw [run_slice_h W' 24 A n c hu .i64 (e : Int) (by omega) (by omega), hel]
  have hs : (Go.sizeOf 5).run Try.prog W' = .ok 1 W' := by simp [Go.sizeOf, typeInfo, hi0, hz1]
  rw [hs]
  have hadd : A.map (fun x => x.add 0) = A := by
    cases A with
    | none => rfl
    | some a => simp [Addr.add]
  by_cases h0 : c = 0
  · simp [sliced, Result.andThen, h0]
  · simp [sliced, Result.andThen, h0, hadd]
/-- b[k:] -/
theorem cut1_run {W : World} {B : Nat} {A : Option Addr} {l : List UInt8} {n c k : Nat} (hn : n = l.length) (hr : Rd W B A l) (hk : k ≤ l.length) (hc : l.length ≤ c) :
    ∃ A', (∀ W' : World, (Instr.slice 24 (.slice A n c) (some (.int .i64 (k : Int))) none none).run Try.prog W' = .ok (.slice A' (n - k) (c - k)) W') ∧ Rd W B A' (l.drop k) := by
  subst hn
  obtain ⟨A', h1, h2⟩ := cut_run (k := k) (e := l.length) rfl hr hk (Nat.le_refl _) hc
  refine ⟨A', fun W' => ?_, ?_⟩
  · rw [← h1 W']
    obtain ⟨i0, hi0, hz0, hz1, hz2⟩ := info_parts info8
    have hu : Try.prog.underlying 24 = some (.slice (Try.prog.elem 24)) := by simp [Program.elem, Try.underlying24]
    rw [run_slice_l W' 24 A l.length c hu .i64 (k : Int) (by omega) (by omega), run_slice_lh W' 24 A l.length c hu .i64 .i64 (k : Int) (l.length : Int) (by omega) (by omega) (by omega)]
    simp
  · rw [drop_take_all] at h2
    exact h2

theorem rd_take {w : World} {B : Nat} {A : Option Addr} {l : List UInt8} (h : Rd w B A l) (k : Nat) : Rd w B A (l.take k) := by
  rcases h with rfl | ⟨g, o, e, hb, hc⟩
  · exact .inl (by simp)
  · refine .inr ⟨g, o, e, hb, fun i hi => ?_⟩
    rw [hc i (by simp at hi; omega), List.getElem_take]

/-- bytes of one's own read, within their room -/
theorem Own.rdc {w : World} {base : Nat} {v : Value} {l : List UInt8} (h : Own w base v l) : ∃ A c, v = .slice A l.length c ∧ Rd w w.heap.size A l ∧ l.length ≤ c := by
  obtain ⟨A, c, rfl, hr⟩ := h.rd
  refine ⟨A, c, rfl, hr, ?_⟩
  rcases h.2 with ⟨he, _⟩ | ⟨g, cap, cur, he, _, _, hnc, _⟩
  · injection he with _ h1 h2; omega
  · injection he with _ h1 h2; omega
theorem Own.mono {w : World} {b b' : Nat} {v : Value} {l : List UInt8} (h : Own w b v l) (hb : b' ≤ b) : Own w b' v l := by
  unfold Own at h ⊢
  refine ⟨h.1, ?_⟩
  rcases h.2 with hn | ⟨g, cap, cur, hv, hg, r⟩
  · exact .inl hn
  · exact .inr ⟨g, cap, cur, hv, Nat.le_trans hb hg, r⟩

theorem Own.shape {w : World} {base : Nat} {v : Value} {l : List UInt8} (h : Own w base v l) (hl : l.length ≠ 0) : ∃ g c, v = .slice (some ⟨g, 0, none⟩) l.length c ∧ base ≤ g := by
  rcases h.2 with ⟨_, hn⟩ | ⟨g, cap, cur, he, hb, _⟩
  · exact absurd hn hl
  · exact ⟨g, cap, he, hb⟩

/-- a store below where one's own rows begin -/
theorem Own.setFar {w : World} {base : Nat} {v : Value} {l : List UInt8} (h : Own w base v l) {p : Addr} (hp : p.block < base) (u : Value) : Own (w.setCell p u) base v l := by
  unfold Own at h ⊢
  refine ⟨h.1, ?_⟩
  rcases h.2 with hn | ⟨g, cap, cur, hv, hg, hh, r⟩
  · exact .inl hn
  · exact .inr ⟨g, cap, cur, hv, hg, (Below.heap_setCell _ _ _ _ (by omega)).trans hh, r⟩
theorem Own.grownFar {w w' : World} {base : Nat} {v : Value} {l : List UInt8} {row : Option Nat} (h : Own w base v l) (hg : w.grownBy w' row) (hne : ∀ g, row = some g → g < base) : Own w' base v l :=
  World.ownsRow.kept h hg (by
    cases hv : v.ownBlock with
    | none => exact .inl rfl
    | some k =>
      refine .inr fun e => ?_
      have h1 := (World.ownsRow.lt h k hv).1
      have h2 := hne k e.symm
      omega)
theorem Own.belowFar {w w' : World} {base : Nat} {v : Value} {l : List UInt8} (h : Own w base v l) (hb : Below w.heap.size w w') : Own w' base v l := by
  unfold Own at h ⊢
  refine ⟨h.1, ?_⟩
  rcases h.2 with hn | ⟨g, cap, cur, hv, hg, hh, r⟩
  · exact .inl hn
  · exact .inr ⟨g, cap, cur, hv, hg, (hb.block g (Array.getElem?_eq_some_iff.1 hh).1).trans hh, r⟩
end Go.Proofs.Ytninjoepdchmiaa
