/-
  What both readers answer; the law of SimnetReads.
-/
import Derived.Test.YtekgmgiokmbliaaLawWrites
import Derived.Test.YtekgmgiokmbliaaDecode
import Derived.Test.YtekgmgiokmbliaaRDec
import Derived.Test.YtekgmgiokmbliaaSameMsg
set_option linter.unusedVariables false
namespace Go.Proofs.Ytekgmgiokmbliaa
open Go.RowKit

theorem RightP.small {m : Msg} (h : RightP m) : Small m := by
  have hk := h.2.2
  unfold KindP NoneP at hk
  have z : m.entries.length = 0 → (m.entries.length ≤ 1048576 ∧ ∀ e ∈ m.entries, e.data.length ≤ 1048576) := fun h0 => by
    rw [List.length_eq_zero_iff.1 h0]
    exact ⟨Nat.zero_le _, (fun e h => nomatch h)⟩
  have hE : m.entries.length ≤ 1048576 ∧ ∀ e ∈ m.entries, e.data.length ≤ 1048576 := by
    rcases hk with h1 | h1 | h1 | h1 | h1
    · exact z h1.2.2.2.1
    · exact z h1.2.2.2.2.1
    · obtain ⟨h2, h3⟩ := h1.2.2.2.2
      refine ⟨by omega, fun e he => ?_⟩
      obtain ⟨i, hi, rfl⟩ := List.mem_iff_getElem.1 he
      have := (h3 i hi).1.data
      omega
    · exact z h1.2.2.2.1
    · exact z h1.2.2.2.1
  have hM : m.members.length ≤ 1048576 := by
    rcases hk with h1 | h1 | h1 | h1 | h1
    · omega
    · omega
    · omega
    · omega
    · have := h1.2.2.2.2.1.2.five; omega
  have hD : m.data.length ≤ 1048576 := by
    rcases hk with h1 | h1 | h1 | h1 | h1 <;> omega
  exact ⟨hE.1, hE.2, hM, hD⟩

def mz : Msg := ⟨0, 0, 0, 0, 0, 0, 0, 0, false, [], [], []⟩
/-- what a reader answers -/
noncomputable def resB (b : List UInt8) : Msg × Int := match decB b with
  | some m => (m, 0)
  | none => (mz, 92)
theorem resB_small (b : List UInt8) : Small (resB b).1 := by
  unfold resB
  split
  · rename_i m h
    exact (decB_some.1 h).1.small
  · exact ⟨by decide, (fun e h => nomatch h), by decide, by decide⟩
theorem decode_res (b : List UInt8) (A : Option Addr) (c : Nat) (w : World) (h : Rd w w.heap.size A b) (hl : b.length ≤ 1048576) (hc : b.length ≤ c) (hc2 : c ≤ 9223372036854775807) (hA : A = none → c = 0) :
    Calls Try.prog 27 #[.slice A b.length c] w fun e w' => ∃ a, e = .returned (.tuple #[msgV (resB b).1 a, .int .i64 (resB b).2]) ∧ MRd w' w'.heap.size (resB b).1 a ∧ Below w.heap.size w w' := by
  refine (decode_any b A c w h hl hc hc2 hA).mono fun e w' h => ?_
  rcases h.1 with ⟨m, a, h1, h2, h3⟩ | ⟨h1, h2⟩
  · unfold resB
    rw [h1]
    exact ⟨a, h2, h3, h.2⟩
  · unfold resB
    rw [h1]
    exact ⟨a0, h2, ⟨.inl rfl, .inl rfl, Rd.nil_ _ _ _⟩, h.2⟩
theorem rdecode_res (b : List UInt8) (A : Option Addr) (c : Nat) (w : World) (h : Rd w w.heap.size A b) (hl : b.length ≤ 1048576) (hc : b.length ≤ c) :
    Calls Try.prog 28 #[.slice A b.length c] w fun e w' => ∃ a, e = .returned (.tuple #[msgV (resB b).1 a, .int .i64 (resB b).2]) ∧ MRd w' w'.heap.size (resB b).1 a ∧ Below w.heap.size w w' := by
  refine (rdecode_any b A c w h hl hc).mono fun e w' h => ?_
  rcases h.1 with ⟨m, a, h1, h2, h3⟩ | ⟨h1, h2⟩
  · unfold resB
    rw [h1]
    exact ⟨a, h2, h3, h.2⟩
  · unfold resB
    rw [h1]
    exact ⟨a0, h2, ⟨.inl rfl, .inl rfl, Rd.nil_ _ _ _⟩, h.2⟩

set_option maxHeartbeats 3200000 in
set_option maxRecDepth 100000 in
theorem law_reads (b : List UInt8) (A : Option Addr) (c : Nat) (w : World) (h : Rd w w.heap.size A b) (hl : b.length ≤ 1048576) (hc : b.length ≤ c) (hc2 : c ≤ 9223372036854775807) (hA : A = none → c = 0) :
    Calls Try.prog 7 #[.slice A b.length c] w fun e w' => e = .returned (.bool true) ∧ Below w.heap.size w w' := by
  have HD := Lib.hid (fun W (hW : Below w.heap.size w W) => decode_res b A c W ((h.below hW).more hW.size) hl hc hc2 hA)
  have HE := Lib.hid (fun W (hW : Below w.heap.size w W) => rdecode_res b A c W ((h.below hW).more hW.size) hl hc)
  have HS := Lib.hid (resB_small b)
  obtain ⟨m, hm⟩ : ∃ x, x = (resB b).1 := ⟨_, rfl⟩
  obtain ⟨er, her⟩ : ∃ x, x = (resB b).2 := ⟨_, rfl⟩
  rw [← hm, ← her] at HD HE
  rw [← hm] at HS
  obtain ⟨n, hn⟩ : ∃ x, x = b.length := ⟨_, rfl⟩
  rw [← hn] at HD HE
  rw [← hn]
  clear h hl hc hc2 hA hm her hn
  go_enter Try.func7, Try.ntmps7
  go_wp2_with fail
  refine (coded_any _).mono ?_
  rintro e w1 ⟨rfl, h1⟩
  go_wp2_with fail
  refine (HD.out w1 h1).mono ?_
  rintro e w2 ⟨a, rfl, MR2, h2⟩
  rw [show msgV m a = .agg #[.int .i64 m.kind, .int .i64 m.group, .int .i64 m.frm, .int .i64 m.dst, .int .i64 m.term, .int .i64 m.index, .int .i64 m.logTerm, .int .i64 m.commit, .bool m.ok, .slice a.e m.entries.length a.ec, .slice a.m m.members.length a.mc, .slice a.d m.data.length a.dc] from rfl]
  have h3 := (h1.trans (h2.mono h1.size)).alloc (h1.trans (h2.mono h1.size)).size (.cells #[.int .i64 m.kind, .int .i64 m.group, .int .i64 m.frm, .int .i64 m.dst, .int .i64 m.term, .int .i64 m.index, .int .i64 m.logTerm, .int .i64 m.commit, .bool m.ok, .slice a.e m.entries.length a.ec, .slice a.m m.members.length a.mc, .slice a.d m.data.length a.dc] 51)
  have hq := below1' w2 (.cells #[.int .i64 m.kind, .int .i64 m.group, .int .i64 m.frm, .int .i64 m.dst, .int .i64 m.term, .int .i64 m.index, .int .i64 m.logTerm, .int .i64 m.commit, .bool m.ok, .slice a.e m.entries.length a.ec, .slice a.m m.members.length a.mc, .slice a.d m.data.length a.dc] 51)
  have X2 := Box.new w2 #[.int .i64 m.kind, .int .i64 m.group, .int .i64 m.frm, .int .i64 m.dst, .int .i64 m.term, .int .i64 m.index, .int .i64 m.logTerm, .int .i64 m.commit, .bool m.ok, .slice a.e m.entries.length a.ec, .slice a.m m.members.length a.mc, .slice a.d m.data.length a.dc] 51 [.int .i64 m.kind, .int .i64 m.group, .int .i64 m.frm, .int .i64 m.dst, .int .i64 m.term, .int .i64 m.index, .int .i64 m.logTerm, .int .i64 m.commit, .bool m.ok, .slice a.e m.entries.length a.ec, .slice a.m m.members.length a.mc, .slice a.d m.data.length a.dc] rfl
  have MR3 := Lib.hid ((MR2.below hq).more hq.size)
  obtain ⟨q, hq'⟩ : ∃ x, x = w2.heap.size := ⟨_, rfl⟩
  rw [← hq'] at X2
  have HQ := Lib.hid hq'
  clear MR2 h2 h1 hq hq'
  go_wp2_with fail
  rw [← HQ.out]
  refine (HE.out _ h3).mono ?_
  rintro e w4 ⟨a', rfl, MR4, h4⟩
  rw [show msgV m a' = .agg #[.int .i64 m.kind, .int .i64 m.group, .int .i64 m.frm, .int .i64 m.dst, .int .i64 m.term, .int .i64 m.index, .int .i64 m.logTerm, .int .i64 m.commit, .bool m.ok, .slice a'.e m.entries.length a'.ec, .slice a'.m m.members.length a'.mc, .slice a'.d m.data.length a'.dc] from rfl]
  have h5 := h3.trans (h4.mono h3.size)
  have hq := below1' w4 (.cells #[.int .i64 m.kind, .int .i64 m.group, .int .i64 m.frm, .int .i64 m.dst, .int .i64 m.term, .int .i64 m.index, .int .i64 m.logTerm, .int .i64 m.commit, .bool m.ok, .slice a'.e m.entries.length a'.ec, .slice a'.m m.members.length a'.mc, .slice a'.d m.data.length a'.dc] 51)
  have h6 := h5.trans (hq.mono h5.size)
  have X4 := (X2.keep h4).keep hq
  have MR5 := (MR3.out.below h4).more h4.size
  have SM := Lib.hid (samemsg_any m a a' _ ((MR5.below hq).more hq.size) ((MR4.below hq).more hq.size) HS.out)
  have x0 := (X4 0 (.int .i64 m.kind) rfl).1
  have x1 := (X4 1 (.int .i64 m.group) rfl).1
  have x2 := (X4 2 (.int .i64 m.frm) rfl).1
  have x3 := (X4 3 (.int .i64 m.dst) rfl).1
  have x4 := (X4 4 (.int .i64 m.term) rfl).1
  have x5 := (X4 5 (.int .i64 m.index) rfl).1
  have x6 := (X4 6 (.int .i64 m.logTerm) rfl).1
  have x7 := (X4 7 (.int .i64 m.commit) rfl).1
  have x8 := (X4 8 (.bool m.ok) rfl).1
  have x9 := (X4 9 (.slice a.e m.entries.length a.ec) rfl).1
  have x10 := (X4 10 (.slice a.m m.members.length a.mc) rfl).1
  have x11 := (X4 11 (.slice a.d m.data.length a.dc) rfl).1
  clear X2 X4 MR5 MR4 MR3 h4 h5 hq HE HD
  go_wp2_with fail
  refine SM.out.mono ?_
  rintro e w7 ⟨rfl, h7⟩
  have h8 := h6.trans (h7.mono h6.size)
  clear SM x0 x1 x2 x3 x4 x5 x6 x7 x8 x9 x10 x11
  go_wp2
  go_ret
  exact ⟨rfl, h8⟩
end Go.Proofs.Ytekgmgiokmbliaa
