/-
  The contract of the reference's bits: a key's numbers.
-/
import Derived.Test.YtogfojohflkdnaaMay
set_option linter.unusedVariables false
namespace Go.Proofs.Ytogfojohflkdnaa
open Go.RowKit

def seq : Nat → Nat → Nat → Nat → List Nat
  | 0, _, _, _ => []
  | k + 1, h, s, m => (h % m) :: seq k ((h + s) % 18446744073709551616) s m
theorem seq_len : ∀ (k h s m : Nat), (seq k h s m).length = k
  | 0, _, _, _ => rfl
  | k + 1, h, s, m => by simp [seq, seq_len k]
theorem seq_lt : ∀ (k h s m : Nat), 0 < m → ∀ j ∈ seq k h s m, j < m
  | 0, _, _, _, _, j, hj => by cases hj
  | k + 1, h, s, m, hm, j, hj => by
    simp only [seq] at hj
    rcases List.mem_cons.1 hj with rfl | hj
    · exact Nat.mod_lt _ hm
    · exact seq_lt k _ s m hm j hj
theorem addN_seq : ∀ (k h s m : Nat) (l : List UInt8), addN k h s m l = (seq k h s m).foldl setB l
  | 0, _, _, _, _ => rfl
  | k + 1, h, s, m, l => by simp only [addN, seq, List.foldl_cons]; exact addN_seq k _ s m _
theorem askN_seq : ∀ (k h s m : Nat) (l : List UInt8), askN k h s m l = (seq k h s m).all (testB l)
  | 0, _, _, _, _ => rfl
  | k + 1, h, s, m, l => by simp only [askN, seq, List.all_cons]; rw [askN_seq k]

/-- a number as a value -/
def nv (n : Nat) : Value := .int .u64 (n : Int)
theorem info64 : (Try.prog.info? 24).map (fun i => (i.zero, i.size, i.bytes)) = some (some (.int .u64 0), 1, 8) := by kernel_rfl
def Own64 (w : World) (base : Nat) (v : Value) (l : List Nat) : Prop := w.ownsRow base 24 1 v l.length (l.map nv)
def Rd64 (w : World) (B : Nat) (A : Option Addr) (l : List Nat) : Prop := l = [] ∨ ∃ g o, A = some ⟨g, o, none⟩ ∧ g < B ∧ ∀ i (h : i < l.length), w.cell? ⟨g, o + i, none⟩ = some (nv l[i])
theorem Rd64.below {w w' : World} {B : Nat} {A : Option Addr} {l : List Nat} (h : Rd64 w B A l) (hb : Below B w w') : Rd64 w' B A l := by
  rcases h with h | ⟨g, o, e, hg, hc⟩
  · exact .inl h
  · exact .inr ⟨g, o, e, hg, fun i hi => (hb.cell hg).trans (hc i hi)⟩
theorem Own64.nil_ (w : World) (base : Nat) : Own64 w base (.slice none 0 0) [] := World.ownsRow_nil _ _ _ _
theorem Own64.rd {w : World} {base : Nat} {v : Value} {l : List Nat} (h : Own64 w base v l) : ∃ A c, v = .slice A l.length c ∧ Rd64 w w.heap.size A l := by
  have hk := h
  unfold Own64 World.ownsRow at h
  rcases h.2 with ⟨rfl, hn⟩ | ⟨g, cap, cur, rfl, hb, hg, _, _, _, ht⟩
  · have : l = [] := List.eq_nil_of_length_eq_zero hn
    subst this
    exact ⟨none, 0, rfl, .inl rfl⟩
  · refine ⟨_, cap, rfl, .inr ⟨g, 0, rfl, (Array.getElem?_eq_some_iff.1 hg).1, fun i hi => ?_⟩⟩
    have := World.ownsRow.cells hk (g := g) rfl i (nv l[i]) (by simp [List.getElem?_map, List.getElem?_eq_getElem hi])
    rw [add_at] at this
    exact this
/-- append(v, n), n in a block of its own -/
theorem app_num {ops : Array Oper} {rest : List Oper} {o : Oper} {a : Act} {Q : Exit → Act → World → Prop} (w : World) (base : Nat) (v : Value) (l : List Nat) (n : Nat) (X : Int) (hX : X = (n : Int)) (hgd : o.guard = none) (s x : Operand)
    (ho : o.op = .call { callee := .builtin .append, args := #[s, x], argTypes := #[37, 37] })
    (hs : a.eval s = v) (hx : a.eval x = .slice (some ⟨w.heap.size, 0, none⟩) 1 1) (hown : Own64 w base v l) (hlen : l.length + 1 ≤ 1000000) (hbase : base ≤ w.heap.size)
    (h : ∀ v' w', Own64 w' base v' (l ++ [n]) → Below base w w' → wpList Try.prog ops Q rest (a.put o.dst v') w') : wpList Try.prog ops Q (o :: rest) a (w.alloc (.cells #[.int .u64 X] 24)) := by
  subst hX
  obtain ⟨i0, hi0, hz0, hz1, hz2⟩ := info_parts info64
  have hown' : (w.alloc (.cells #[.int .u64 (n : Int)] 24)).ownsRow base 24 1 v l.length (l.map nv) := World.ownsRow.alloc hown _
  refine wpList_append_own_wide (w.alloc (.cells #[.int .u64 (n : Int)] 24)) hgd s x 37 ho base 24 i0 _ 1 8 Try.underlying37 hi0 hz0 hz1 hz2 rfl (by decide) v l.length (l.map nv) hs hown' ⟨w.heap.size, 0, none⟩ 1 1 [nv n] hx rfl ?_ (by simp [nv, Value.oneCell']) (by unfold maxLen; omega) (by omega) (by simp; omega) ?_
  · intro j u hu
    have hj : j = 0 := by
      rcases Nat.lt_or_ge j 1 with h | h
      · omega
      · rw [List.getElem?_eq_none (by simpa using h)] at hu; cases hu
    subst hj
    rw [add_at, World.cell?_alloc_at _ _ _ _ rfl]
    simpa [nv] using hu
  · intro v' w' h1 h2 _
    refine h v' w' (by simpa [Own64] using h1) ?_
    exact ((Below.refl base w).alloc hbase _).trans ((Below.refl _ _).grown h2 (by simp; omega) fun k hk => (World.ownsRow.lt hown' k hk).1)

theorem step_case {h : Nat} (e : rot h % 2 = 0) (hh : h < 18446744073709551616) : rot h + 1 < 18446744073709551616 := by
  have := rot_lt hh
  omega

set_option maxHeartbeats 800000 in
set_option maxRecDepth 100000 in
theorem rbits_any (A : Option Addr) (c B P m : Nat) (key : List UInt8) (w : World) (hr : Rd w B A key) (hl : key.length ≤ 9223372036854775807) (hP : P ≤ 255) (hm : 0 < m) (hm2 : m < 9223372036854775808) :
    Calls Try.prog 17 #[.slice A key.length c, .int .i64 (P : Int), .int .u64 (m : Int)] w fun e w' => ∃ v, e = .returned v ∧ Own64 w' w.heap.size v (seq P (hash key) (step (hash key)) m) ∧ Below w.heap.size w w' := by
  have HC := Lib.hid (fun w hr => rhash_any A c B key w hr hl)
  have HK := Lib.hid hr
  have hH := hash_lt key
  obtain ⟨h0, hh0⟩ : ∃ h, h = hash key := ⟨_, rfl⟩
  rw [← hh0] at HC hH
  rw [← hh0]
  have hrl := rot_lt hH
  have hsl := step_lt hH
  have hse := fun e => step_even (h := h0) e
  have hso := fun e => step_odd (h := h0) e
  have hsp := fun e => step_case (h := h0) e hH
  obtain ⟨s, hs⟩ : ∃ s, s = step h0 := ⟨_, rfl⟩
  have hri : (h0 : Int) % 8589934592 * 2147483648 + (h0 : Int) / 8589934592 = (rot h0 : Int) := by unfold rot; omega
  obtain ⟨r, hrr⟩ : ∃ r, r = rot h0 := ⟨_, rfl⟩
  rw [← hs] at hse hso hsl
  rw [← hrr] at hse hso hrl hsp hri
  rw [← hs]
  clear hr hh0 hs hrr
  have hcase : ((((r : Int) % 2 == 0) = true) ∧ s = r + 1 ∧ r + 1 < 18446744073709551616) ∨ ((((r : Int) % 2 == 0) = false) ∧ s = r) := by
    by_cases e : r % 2 = 0
    · exact .inl ⟨by rw [beq_iff_eq]; omega, hse e, hsp e⟩
    · exact .inr ⟨by rw [beq_eq_false_iff_ne]; omega, hso e⟩
  clear hse hso hsp
  rcases hcase with ⟨e, hs, hlt⟩ | ⟨e, rfl⟩
  · have hsi := Lib.hid (show ((r : Int) + 1) = (s : Int) by omega)
    clear hs
    go_enter Try.func17, Try.ntmps17
    go_wp2_with fail
    refine (HC.out _ HK.out).mono ?_
    rintro e w1 ⟨rfl, rfl⟩
    go_wp2
    rw [hsi.out]
    clear hsi hri e hlt
    go_loopw [7, 9, 10] (fun hv v i wr => ∃ (q h k : Nat) (out : List Nat), k + q = P ∧ i = .int .i64 k ∧ hv = .int .u64 h ∧ h < 18446744073709551616 ∧ out.length = k ∧ Own64 wr w.heap.size v out ∧ out ++ seq q h s m = seq P h0 s m ∧ Below w.heap.size w wr) (fun _ _ i _ => P - (intOf i).toNat)
    case atStart => exact ⟨P, h0, 0, [], by omega, rfl, rfl, hH, rfl, Own64.nil_ _ _, rfl, Below.refl _ _⟩
    case round =>
      obtain ⟨q, h, k, out, hkq, rfl, rfl, hh, hol, ho, hseq, hb⟩ := hrel
      replace hseq := Lib.hid hseq
      cases q with
      | zero =>
        have hlt : ¬ (k : Int) < (P : Int) := by omega
        go_wp2
        go_ret
        refine ⟨_, rfl, ?_, hb⟩
        have := hseq.out
        rw [show seq 0 h s m = [] from rfl, List.append_nil] at this
        rw [← this]
        exact ho
      | succ q =>
        have hlt : (k : Int) < (P : Int) := by omega
        obtain ⟨J, hJ⟩ : ∃ J, J = h % m := ⟨_, rfl⟩
        have hJi : (h : Int) % (m : Int) = (J : Int) := by rw [hJ]; omega
        have HS := Lib.hid (show (out ++ [J]) ++ seq q ((h + s) % 18446744073709551616) s m = seq P h0 s m by rw [← hseq.out, hJ, List.append_assoc]; rfl)
        have hwr : IntKind.u64.wrap ((h : Int) + (s : Int)) = (((h + s) % 18446744073709551616 : Nat) : Int) := by
          show (((h : Int) + (s : Int)) % 18446744073709551616) = _
          omega
        have HW := Lib.hid hwr
        clear hJ hwr
        go_wp2_with (at_builtin; refine app_num _ w.heap.size _ out J _ ?e1 rfl (.tmp 29) (.tmp 33) rfl rfl rfl ho ?e2 ?e3 ?_)
        case e1 => rfl
        case e2 => omega
        case e3 => exact hb.size
        intro v1 w2 o2 hb2
        go_wp2
        go_roundw
        case rel => exact ⟨q, (h + s) % 18446744073709551616, k + 1, out ++ [J], by omega, by go_num, by rw [HW.out], Nat.mod_lt _ (by decide), by simp [hol], o2, HS.out, hb.trans hb2⟩
        case measure => simp [intOf]; omega
  · go_enter Try.func17, Try.ntmps17
    go_wp2_with fail
    refine (HC.out _ HK.out).mono ?_
    rintro e w1 ⟨rfl, rfl⟩
    go_wp2
    clear hri e
    go_loopw [7, 9, 10] (fun hv v i wr => ∃ (q h k : Nat) (out : List Nat), k + q = P ∧ i = .int .i64 k ∧ hv = .int .u64 h ∧ h < 18446744073709551616 ∧ out.length = k ∧ Own64 wr w.heap.size v out ∧ out ++ seq q h s m = seq P h0 s m ∧ Below w.heap.size w wr) (fun _ _ i _ => P - (intOf i).toNat)
    case atStart => exact ⟨P, h0, 0, [], by omega, rfl, rfl, hH, rfl, Own64.nil_ _ _, rfl, Below.refl _ _⟩
    case round =>
      obtain ⟨q, h, k, out, hkq, rfl, rfl, hh, hol, ho, hseq, hb⟩ := hrel
      replace hseq := Lib.hid hseq
      cases q with
      | zero =>
        have hlt : ¬ (k : Int) < (P : Int) := by omega
        go_wp2
        go_ret
        refine ⟨_, rfl, ?_, hb⟩
        have := hseq.out
        rw [show seq 0 h s m = [] from rfl, List.append_nil] at this
        rw [← this]
        exact ho
      | succ q =>
        have hlt : (k : Int) < (P : Int) := by omega
        obtain ⟨J, hJ⟩ : ∃ J, J = h % m := ⟨_, rfl⟩
        have hJi : (h : Int) % (m : Int) = (J : Int) := by rw [hJ]; omega
        have HS := Lib.hid (show (out ++ [J]) ++ seq q ((h + s) % 18446744073709551616) s m = seq P h0 s m by rw [← hseq.out, hJ, List.append_assoc]; rfl)
        have hwr : IntKind.u64.wrap ((h : Int) + (s : Int)) = (((h + s) % 18446744073709551616 : Nat) : Int) := by
          show (((h : Int) + (s : Int)) % 18446744073709551616) = _
          omega
        have HW := Lib.hid hwr
        clear hJ hwr
        go_wp2_with (at_builtin; refine app_num _ w.heap.size _ out J _ ?e1 rfl (.tmp 29) (.tmp 33) rfl rfl rfl ho ?e2 ?e3 ?_)
        case e1 => rfl
        case e2 => omega
        case e3 => exact hb.size
        intro v1 w2 o2 hb2
        go_wp2
        go_roundw
        case rel => exact ⟨q, (h + s) % 18446744073709551616, k + 1, out ++ [J], by omega, by go_num, by rw [HW.out], Nat.mod_lt _ (by decide), by simp [hol], o2, HS.out, hb.trans hb2⟩
        case measure => simp [intOf]; omega
end Go.Proofs.Ytogfojohflkdnaa
