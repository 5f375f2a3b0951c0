/-
  How the laws' arguments are opened, and the table's cells out of what the row lists.
-/
import Derived.Test.YtfnifpgaieggbaaDoorSum
import Derived.Test.YtfnifpgaieggbaaDoorCards
import Derived.Test.YtfnifpgaieggbaaDoorTie
import Derived.ProofKit
import Derived.OpenShut
import Derived.ShutString
import Derived.SizedLaws
import Derived.Carry
import Derived.Deep.DeepHandedRow
import Derived.Lib.LaidTab
namespace Go.Proofs.YtfnifpgaieggbaaDoor
open Go.RowKit Go.ChangeShapes Go.WideShapes Go.ChangeAt

theorem own : ownKnob Tryd.prog.godebug = none := by kernel_rfl
theorem laidOut : laidOutB Tryd.prog = true := by kernel_rfl
theorem cells8 : Tryd.prog.cellsOf 5 = 1 := by kernel_rfl
theorem bytes8 : Tryd.prog.bytesOf 5 = 1 := by kernel_rfl
theorem gTab : Tryd.prog.globalNamed "cormorant/codec.sums" = some 0 := by kernel_rfl
theorem gTabType : (Tryd.prog.globals[0]?).map (·.type) = some 73 := by kernel_rfl
theorem cellsTab : Tryd.prog.cellsOf 73 = 16 := by kernel_rfl
theorem cells32 : Tryd.prog.cellsOf 60 = 1 := by kernel_rfl
def laidTab {H : Type} : List (String × DataW H) := [("cormorant/codec.sums", Rows.laid_cormorant_codec_sums)]

theorem tab_of {W : World} (h : laidMetH Tryd.prog laidTab W) : Tab W := by
  have t := Lib.tabIs_of_head (rest := []) (zs := [0, 498536548, 997073096, 651767980, 1994146192, 1802195444, 1303535960, 1342533948, 3988292384, 4027552580, 3604390888, 3412177804, 2607071920, 2262029012, 2685067896, 3183342108]) gTab gTabType Tryd.underlying73 Tryd.underlying60 cells32 cellsTab h
  intro j hj
  rw [t.cell gTab j (by simpa using hj)]
  have : ∀ x : Fin 16, ([0, 498536548, 997073096, 651767980, 1994146192, 1802195444, 1303535960, 1342533948, 3988292384, 4027552580, 3604390888, 3412177804, 2607071920, 2262029012, 2685067896, 3183342108] : List Int).getD x.val 0 = ((tabAt x.val : Nat) : Int) := by decide
  have h := this ⟨j, hj⟩
  simp only at h
  rw [h]
theorem tab_block {W : World} (h : Tab W) : 0 < W.heap.size := World.block_lt_of_cell? W _ (h 0 (by decide))

/-- a slice of bytes that came in -/
theorem open_bytes {H : Type} {enc : TypeId × Value → H} {W : World} {a : Option Addr} {len cap : Nat} {d : DataW H} {p : List MemPlace}
    (h : ∃ fuel, DataW.trod enc Tryd.prog W 0 (fun _ => true) true fuel 28 (Value.slice a len cap).cells.toList = some (d, p)) :
    ∃ l : List UInt8, len = l.length ∧ Rd W W.heap.size a l ∧ l.length ≤ 9223372036854775807 ∧ (l = [] ∨ ∃ elems spare, d = .slice elems spare ∧ elems.length = l.length) := by
  obtain ⟨fuel, hf⟩ := h
  rcases open_ints Tryd.underlying28 Tryd.underlying5 cells8 hf with ⟨hcs, _⟩ | ⟨x, l, c, zs, hcs, _, hl, hm, hz, hd, hcell, hwz⟩
  · simp [Value.cells] at hcs
    obtain ⟨rfl, rfl, rfl⟩ := hcs
    exact ⟨[], rfl, Rd.nil_ _ _ _, by simp, .inl rfl⟩
  · simp [Value.cells] at hcs
    obtain ⟨rfl, rfl, rfl⟩ := hcs
    have hz' : zs.length = cap := by simpa using hz
    have hlen : ((zs.take len).map fun z => UInt8.ofNat z.toNat).length = len := by simp; omega
    refine ⟨(zs.take len).map fun z => UInt8.ofNat z.toNat, hlen.symm, ?_, by rw [hlen]; unfold maxLen at hm; omega, ?_⟩
    · by_cases h0 : 0 < len
      · obtain ⟨b, off, rfl, hc⟩ := ints_at hcell (by omega)
        refine .inr ⟨b, off, rfl, World.block_lt_of_cell? W _ (hc 0 (by omega)), fun i hi => ?_⟩
        have hi' : i < len := by rw [hlen] at hi; exact hi
        have hiz : i < zs.length := by omega
        rw [hc i hiz]
        have hw := hwz zs[i] (List.getElem_mem hiz)
        have hw := bounds_u8 hw
        simp [bv, List.getD, List.getElem?_eq_getElem hiz, List.getElem_take]
        omega
      · have : len = 0 := by omega
        subst this
        exact .inl (by simp)
    · right
      simp only [Prod.mk.injEq] at hd
      exact ⟨_, _, hd.1, by rw [hlen]; simp [lits]; omega⟩

theorem sized_bytes {H : Type} {ts : List TypeId} {ds : List (DataW H)} {j : Nat} {d : DataW H} {l : List UInt8} (h : (DataW.weightsEach Tryd.prog ts ds).all (· ≤ reachBytes) = true) (ht : ts[j]? = some 28) (hd : ds[j]? = some d)
    (dd : l = [] ∨ ∃ elems spare, d = .slice elems spare ∧ elems.length = l.length) : l.length ≤ 140737488351232 := by
  rcases dd with rfl | ⟨elems, spare, rfl, he⟩
  · simp
  · have := sized_slice h ht hd Tryd.underlying28
    rw [bytes8] at this
    simp only [reachBytes] at this
    omega

/-- a world for the witness: the settled one, the table holding what its initialiser lays -/
noncomputable def laidWorld (os : Os) : World :=
  { World.holding Tryd.prog os ⟨#[], #[], []⟩ with heap := (World.holding Tryd.prog os ⟨#[], #[], []⟩).heap.modify 0 fun
      | .cells _ t frozen => .cells #[.int .u32 0, .int .u32 498536548, .int .u32 997073096, .int .u32 651767980, .int .u32 1994146192, .int .u32 1802195444, .int .u32 1303535960, .int .u32 1342533948, .int .u32 3988292384, .int .u32 4027552580, .int .u32 3604390888, .int .u32 3412177804, .int .u32 2607071920, .int .u32 2262029012, .int .u32 2685067896, .int .u32 3183342108] t frozen
      | o => o }
end Go.Proofs.YtfnifpgaieggbaaDoor
