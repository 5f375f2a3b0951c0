/-
  The contract of codec.Frame.
-/
import Derived.Test.YtfnifpgaieggbaaDoorText
import Derived.Test.YtfnifpgaieggbaaDoorSum
namespace Go.Proofs.YtfnifpgaieggbaaDoor
open Go.RowKit

/-- a number in four bytes, the lowest first -/
def four (n : Nat) : List UInt8 := [by8 n, by8 (n / 256), by8 (n / 65536), by8 (n / 16777216)]
def head (kind : UInt8) (n : Nat) : List UInt8 := kind :: num n
/-- a frame's bytes -/
def frame (kind : UInt8) (b : List UInt8) : List UInt8 := head kind b.length ++ four (crc (head kind b.length ++ b)) ++ b

theorem crcOn_append (r : Nat) (a b : List UInt8) : crcOn (crcOn r a) b = crcOn r (a ++ b) := by
  unfold crcOn
  rw [List.foldl_append]

/-- make([]byte, 0, n) -/
theorem make_room {ops : Array Oper} {rest : List Oper} {o : Oper} {a : Act} {Q : Exit → Act → World → Prop} (w : World) (n : Nat) (C : Int) (hC : C = (n : Int)) (hg : o.guard = none) (l c : Operand)
    (hop : o.op = Op.makeSlice 28 l c) (hl : a.eval l = .int .i64 0) (hc : a.eval c = .int .i64 C) (hn : n ≤ 281474976710656)
    (hK : ∀ w', Own w' w.heap.size (.slice (some ⟨w.heap.size, 0, none⟩) 0 n) [] → Below w.heap.size w w' → wpList Tryd.prog ops Q rest (a.put o.dst (.slice (some ⟨w.heap.size, 0, none⟩) 0 n)) w') :
    wpList Tryd.prog ops Q (o :: rest) a w := by
  obtain ⟨i0, hi0, hz0, hz1, hz2⟩ := info_parts info8
  refine wpList_make_own w hg l c 28 hop w.heap.size 5 i0 (.int .u8 0) 1 Tryd.underlying28 hi0 hz0 hz1 .i64 .i64 C n hl hc hC (by rw [hz2]; omega) (by unfold maxLen; omega) (Nat.le_refl _) ?_
  intro w' h1 h2
  exact hK w' h1 ((Below.refl _ _).grown h2 (Nat.le_refl _) (by simp))

/-- a literal of bytes is the call's own -/
theorem own_lit (w : World) (l : List UInt8) (n : Nat) (C : Array Value) (hn : n = l.length) (hC : C.toList = l.map bv) (hl : l.length ≤ maxLen) : Own (w.alloc (.cells C 5)) w.heap.size (.slice (some ⟨w.heap.size, 0, none⟩) n n) l := by
  subst hn
  have hs : C.size = l.length * 1 := by rw [← Array.length_toList, hC]; simp
  have h := World.ownsRow_lit (base := w.heap.size) (e := 5) (size := 1) w C l.length (Nat.le_refl _) hl hs
  rw [hC] at h
  exact h

theorem Own.lower {w : World} {base B : Nat} {v : Value} {l : List UInt8} (h : Own w base v l) (hB : B ≤ base) : Own w B v l := by
  unfold Own at h ⊢
  refine ⟨h.1, ?_⟩
  rcases h.2 with hn | ⟨g, cap, cur, hv, hg, r⟩
  · exact .inl hn
  · exact .inr ⟨g, cap, cur, hv, by omega, r⟩
theorem four_cells {S : Nat} (h : S ≤ 4294967295) : #[Value.int .u8 ((S : Int) % 256), Value.int .u8 ((S : Int) / 256 % 256), Value.int .u8 ((S : Int) / 65536 % 256), Value.int .u8 ((S : Int) / 16777216)].toList = (four S).map bv := by
  simp only [four, List.map_cons, List.map_nil, bv, by8_nat]
  have e1 : ((S % 256 : Nat) : Int) = (S : Int) % 256 := by omega
  have e2 : ((S / 256 % 256 : Nat) : Int) = (S : Int) / 256 % 256 := by omega
  have e3 : ((S / 65536 % 256 : Nat) : Int) = (S : Int) / 65536 % 256 := by omega
  have e4 : ((S / 16777216 % 256 : Nat) : Int) = (S : Int) / 16777216 := by omega
  rw [e1, e2, e3, e4]

theorem num_pos (n : Nat) : 0 < (num n).length := by
  unfold num
  unfold numF
  split <;> simp

set_option maxHeartbeats 1600000 in
set_option maxRecDepth 100000 in
theorem frame_ok (k : UInt8) (A : Option Addr) (c : Nat) (s : List UInt8) (w : World) (hr : Rd w w.heap.size A s) (hl : s.length ≤ 2097152) (hT : Tab w) (h0 : 0 < w.heap.size) :
    Calls Tryd.prog 21 #[.int .u8 (k.toNat : Int), .slice A s.length c] w fun e w' => ∃ v, e = .returned (.tuple #[v, .int .i64 0]) ∧ Own w' w.heap.size v (frame k s) ∧ Below w.heap.size w w' := by
  have HR := Lib.hid hr
  have HT := Lib.hid hT
  have hnl := num_len s.length
  have hnp := num_pos s.length
  clear hr hT
  go_enter Tryd.func21, Tryd.ntmps21
  go_wp2_with fail
  have o1 := own_lit w [k] 1 #[.int .u8 (k.toNat : Int)] rfl rfl (by simp [maxLen])
  refine (number_any s.length _ (Nat.lt_of_le_of_lt hl (by decide))).mono ?_
  rintro e w2 ⟨v2, rfl, o2, hb2⟩
  have b2 : Below w.heap.size w w2 := ((Below.refl w.heap.size w).alloc (Nat.le_refl _) _).trans (hb2.mono (by simp))
  obtain ⟨A2, c2, rfl, r2⟩ := o2.rd
  have o1' := o1.below hb2
  go_wp2_with (at_builtin; refine app_bytes _ w.heap.size _ [k] (num s.length) A2 c2 rfl (.tmp 13) (.tmp 17) rfl rfl rfl o1' r2 ?e1 ?e2 ?_)
  case e1 => simp; omega
  case e2 => exact b2.size
  intro v3 w3 o3 hb3 _
  have b3 : Below w.heap.size w w3 := b2.trans hb3
  obtain ⟨H, hH⟩ : ∃ H, H = head k s.length := ⟨_, rfl⟩
  have o3 : Own w3 w.heap.size v3 H := by rw [hH]; exact o3
  have hHl : H.length ≤ 11 := by rw [hH]; simp [head]; omega
  have HH := Lib.hid hH
  clear hH
  obtain ⟨A3, c3, rfl, r3⟩ := o3.rd
  go_wp2_with fail
  refine (sumOn_any 4294967295 _ _ _ H w3 (by decide) (HT.out.below b3 h0) r3 (by omega)).mono ?_
  rintro e w4 ⟨rfl, rfl⟩
  go_wp2_with fail
  refine (sumOn_any (crcOn 4294967295 H) _ _ _ s w3 (crcOn_lt (by decide)) (HT.out.below b3 h0) (HR.out.below b3) (by omega)).mono ?_
  rintro e w4 ⟨rfl, rfl⟩
  have hinv := inv32 (crcOn_lt (l := s) (r := crcOn 4294967295 H) (crcOn_lt (by decide)))
  obtain ⟨S, hS⟩ : ∃ S, S = crc (head k s.length ++ s) := ⟨_, rfl⟩
  have hS' : 4294967295 - crcOn (crcOn 4294967295 H) s = S := by rw [hS, crcOn_append, HH.out]; rfl
  rw [hS'] at hinv
  have hSb : S ≤ 4294967295 := by rw [hS]; have := crc_lt (head k s.length ++ s); omega
  have HS := Lib.hid hS
  clear hS hS'
  go_wp2_with (at_make; refine make_room _ (H.length + 4 + s.length) _ (by omega) rfl _ _ rfl rfl rfl (by omega) ?_)
  intro w5 o5 hb5
  have b5 : Below w.heap.size w w5 := b3.trans (hb5.mono b3.size)
  go_wp2_with (at_builtin; refine app_bytes _ w3.heap.size _ [] H A3 c3 rfl (.tmp 31) (.tmp 32) rfl rfl rfl o5 ((r3.below hb5).more hb5.size) ?f1 ?f2 ?_)
  case f1 => simp; omega
  case f2 => exact hb5.size
  intro v6 w6 o6 hb6 _
  have b36 : Below w3.heap.size w3 w6 := hb5.trans hb6
  go_wp2_with (at_builtin; refine app_bytes _ w3.heap.size _ _ (four S) (some ⟨w6.heap.size, 0, none⟩) 4 rfl (.tmp 34) (.tmp 46) rfl rfl rfl (o6.alloc _) ((rd_lit w6 (four S) _ (four_cells hSb)).more (by simp)) ?g1 ?g2 ?_)
  case g1 => simp [four]; omega
  case g2 => have := b36.size; simp; omega
  intro v7 w7 o7 hb7 _
  have b37 : Below w3.heap.size w3 w7 := (b36.alloc b36.size _).trans hb7
  have b7 : Below w.heap.size w w7 := b3.trans (b37.mono b3.size)
  go_wp2_with (at_builtin; refine app_bytes _ w3.heap.size _ _ s A c rfl (.tmp 48) (.tmp 49) rfl rfl rfl o7 ((HR.out.below b7).more b7.size) ?i1 ?i2 ?_)
  case i1 => simp [four]; omega
  case i2 => exact b37.size
  intro v8 w8 o8 hb8 _
  have b8 : Below w.heap.size w w8 := b7.trans (hb8.mono b3.size)
  have o8' : Own w8 w.heap.size v8 (frame k s) := by
    have : H ++ four S ++ s = frame k s := by rw [HH.out, HS.out]; rfl
    rw [← this]
    exact (show Own w8 w3.heap.size v8 (H ++ four S ++ s) from by simpa using o8).lower b3.size
  go_wp2
  go_ret2
  exact ⟨_, rfl, o8', b8⟩

set_option maxHeartbeats 800000 in
set_option maxRecDepth 100000 in
theorem frame_long (k : Int) (A : Option Addr) (c n : Nat) (w : World) (hl : 2097152 < n) :
    Calls Tryd.prog 21 #[.int .u8 k, .slice A n c] w fun e w' => e = .returned (.tuple #[.slice none 0 0, .int .i64 12]) ∧ w = w' := by
  go_enter Tryd.func21, Tryd.ntmps21
  go_wp2
  go_ret2
  exact ⟨rfl, rfl⟩
end Go.Proofs.YtfnifpgaieggbaaDoor
