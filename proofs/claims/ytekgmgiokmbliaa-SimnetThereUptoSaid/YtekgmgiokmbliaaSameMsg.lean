/-
  SameMsg of two messages that are the same.
-/
import Derived.Test.YtekgmgiokmbliaaEnts
set_option linter.unusedVariables false
namespace Go.Proofs.Ytekgmgiokmbliaa
open Go.RowKit

set_option maxHeartbeats 1600000 in
set_option maxRecDepth 100000 in
theorem sameints_rd (G : List Int) (A1 A2 : Option Addr) (c1 c2 : Nat) (w : World) (h1 : RdI w w.heap.size A1 G) (h2 : RdI w w.heap.size A2 G) (hl : G.length ≤ 1048576) :
    Calls Try.prog 22 #[.slice A1 G.length c1, .slice A2 G.length c2] w fun e w' => e = .returned (.bool true) ∧ Below w.heap.size w w' := by
  have HAt : ∀ A, RdI w w.heap.size A G → Hid (∀ k (hk : k < G.length), ∃ q o, A = some ⟨q, o, none⟩ ∧ w.cell? ⟨q, o + k, none⟩ = some (.int .i64 G[k])) := fun A h k hk => by
    rcases h with h | ⟨q, o, hA, _, hc⟩
    · rw [h] at hk; simp at hk
    · exact ⟨q, o, hA, hc k hk⟩
  have H1 := HAt A1 h1
  have H2 := HAt A2 h2
  obtain ⟨n, hn⟩ : ∃ n, n = G.length := ⟨_, rfl⟩
  have HN := Lib.hid hn
  rw [← hn] at hl
  rw [← hn]
  clear h1 h2 hn HAt
  go_enter Try.func22, Try.ntmps22
  go_wp2
  go_loopw [5] (fun s5 wr => ∃ k : Nat, s5 = .int .i64 k ∧ k ≤ n ∧ Below w.heap.size w wr ∧ ∃ d, wr = w.drewN d) (fun s5 _ => n - (intOf s5).toNat)
  case atStart => exact ⟨0, rfl, by omega, Below.refl _ _, 0, rfl⟩
  case round =>
    obtain ⟨k, rfl, hk, hb, d, rfl⟩ := hrel
    by_cases hlt : k < n
    · have hkl : k < G.length := by have := HN.out; omega
      obtain ⟨q1, o1, rfl, d1⟩ := H1.out k hkl
      obtain ⟨q2, o2, rfl, d2⟩ := H2.out k hkl
      obtain ⟨y, hy⟩ : ∃ y, y = G[k] := ⟨_, rfl⟩
      rw [← hy] at d1 d2
      clear hy
      have e1 : (w.drewN d).cell? ⟨q1, o1 + k, none⟩ = some (.int .i64 y) := d1
      have e2 : (w.drewN d).cell? ⟨q2, o2 + k, none⟩ = some (.int .i64 y) := d2
      have i1 : (k : Int) < (n : Int) := by omega
      go_wp2
      go_quiet (fail)
      go_wp2
      go_roundw
      case rel => exact ⟨k + 1, by go_num, by omega, below_drewN (Below.refl _ _) _, d + nq, by simp⟩
      case measure => simp [intOf]; omega
    · have hkn : k = n := by omega
      subst hkn
      go_wp2
      go_ret
      exact ⟨rfl, hb⟩

set_option maxHeartbeats 3200000 in
set_option maxRecDepth 100000 in
theorem sameents_rd (es : List Ent) (A1 A2 : Option Addr) (c1 c2 : Nat) (w : World) (h1 : Ents w w.heap.size A1 es) (h2 : Ents w w.heap.size A2 es) (hl : es.length ≤ 1048576) :
    Calls Try.prog 51 #[.slice A1 es.length c1, .slice A2 es.length c2] w fun e w' => e = .returned (.bool true) ∧ Below w.heap.size w w' := by
  have HAt : ∀ A, Ents w w.heap.size A es → Hid (∀ k (hk : k < es.length), ∃ q o, A = some ⟨q, o, none⟩ ∧ ∃ D c, w.cell? ⟨q, o + k * 4, none⟩ = some (.int .i64 es[k].index) ∧ w.cell? ⟨q, o + k * 4 + 1, none⟩ = some (.int .i64 es[k].term) ∧ w.cell? ⟨q, o + k * 4 + 2, none⟩ = some (.int .i64 es[k].kind) ∧ w.cell? ⟨q, o + k * 4 + 3, none⟩ = some (.slice D es[k].data.length c) ∧ Rd w w.heap.size D es[k].data) := fun A h k hk => by
    rcases h with h | ⟨q, o, hA, _, hc⟩
    · rw [h] at hk; simp at hk
    · exact ⟨q, o, hA, hc k hk⟩
  have H1 := HAt A1 h1
  have H2 := HAt A2 h2
  obtain ⟨n, hn⟩ : ∃ n, n = es.length := ⟨_, rfl⟩
  have HN := Lib.hid hn
  rw [← hn] at hl
  rw [← hn]
  clear h1 h2 hn HAt
  go_enter Try.func51, Try.ntmps51
  go_wp2
  go_loopw [5] (fun s5 wr => ∃ k : Nat, s5 = .int .i64 k ∧ k ≤ n ∧ Below w.heap.size w wr ∧ ∃ d, wr = w.drewN d) (fun s5 _ => n - (intOf s5).toNat)
  case atStart => exact ⟨0, rfl, by omega, Below.refl _ _, 0, rfl⟩
  case round =>
    obtain ⟨k, rfl, hk, hb, d, rfl⟩ := hrel
    by_cases hlt : k < n
    · have hkl : k < es.length := by have := HN.out; omega
      obtain ⟨q1, o1, rfl, D1, k1, a0, a1, a2, a3, r1⟩ := H1.out k hkl
      obtain ⟨q2, o2, rfl, D2, k2, b0, b1, b2, b3, r2⟩ := H2.out k hkl
      obtain ⟨y, hy⟩ : ∃ y, y = es[k] := ⟨_, rfl⟩
      rw [← hy] at a0 a1 a2 a3 b0 b1 b2 b3 r1 r2
      clear hy
      obtain ⟨yi, yt, yk, yl⟩ := y
      simp only at a0 a1 a2 a3 b0 b1 b2 b3 r1 r2
      have t1 := fun N => str_of (w := w.drewN N) (B := w.heap.size) (A := D1) (l := yl) r1 k1
      have t2 := fun N => str_of (w := w.drewN N) (B := w.heap.size) (A := D2) (l := yl) r2 k2
      obtain ⟨m, hm⟩ : ∃ m, m = yl.length := ⟨_, rfl⟩
      rw [← hm] at a3 b3 t1 t2
      clear hm r1 r2
      have x0 : (w.drewN d).cell? ⟨q1, o1 + k * 4, none⟩ = some (.int .i64 yi) := a0
      have x1 : (w.drewN d).cell? ⟨q1, o1 + k * 4 + 1, none⟩ = some (.int .i64 yt) := a1
      have x2 : (w.drewN d).cell? ⟨q1, o1 + k * 4 + 2, none⟩ = some (.int .i64 yk) := a2
      have x3 : (w.drewN d).cell? ⟨q1, o1 + k * 4 + 3, none⟩ = some (.slice D1 m k1) := a3
      have y0 : (w.drewN d).cell? ⟨q2, o2 + k * 4, none⟩ = some (.int .i64 yi) := b0
      have y1 : (w.drewN d).cell? ⟨q2, o2 + k * 4 + 1, none⟩ = some (.int .i64 yt) := b1
      have y2 : (w.drewN d).cell? ⟨q2, o2 + k * 4 + 2, none⟩ = some (.int .i64 yk) := b2
      have y3 : (w.drewN d).cell? ⟨q2, o2 + k * 4 + 3, none⟩ = some (.slice D2 m k2) := b3
      have i1 : (k : Int) < (n : Int) := by omega
      go_wp2
      go_quiet (fail)
      go_wp2
      go_roundw
      case rel => exact ⟨k + 1, by go_num, by omega, below_drewN (Below.refl _ _) _, d + nq, by simp⟩
      case measure => simp [intOf]; omega
    · have hkn : k = n := by omega
      subst hkn
      go_wp2
      go_ret
      exact ⟨rfl, hb⟩

set_option maxHeartbeats 3200000 in
set_option maxRecDepth 100000 in
theorem samemsg_any (m : Msg) (a b : At) (w : World) (h1 : MRd w w.heap.size m a) (h2 : MRd w w.heap.size m b) (hs : Small m) :
    Calls Try.prog 29 #[msgV m a, msgV m b] w fun e w' => e = .returned (.bool true) ∧ Below w.heap.size w w' := by
  have hb := (below1' w (.cells (msgC m a) 51)).alloc (by simp) (.cells (msgC m b) 51)
  have SE := Lib.hid (fun W (hW : Below w.heap.size w W) => sameents_rd m.entries a.e b.e a.ec b.ec W ((h1.re.below hW).more hW.size) ((h2.re.below hW).more hW.size) hs.se)
  have SI := Lib.hid (fun W (hW : Below w.heap.size w W) => sameints_rd m.members a.m b.m a.mc b.mc W ((h1.rm.below hW).more hW.size) ((h2.rm.below hW).more hW.size) hs.sm)
  have T1 := Lib.hid (fun W (hW : Below w.heap.size w W) => str_of (h1.rd.below hW) a.dc)
  have T2 := Lib.hid (fun W (hW : Below w.heap.size w W) => str_of (h2.rd.below hW) b.dc)
  obtain ⟨kind, group, frm, dst, term, index, logTerm, commit, ok, es, mem, dat⟩ := m
  simp only [msgV, msgC] at hb SE SI T1 T2 ⊢
  clear h1 h2 hs
  obtain ⟨ne, hne⟩ : ∃ n, n = es.length := ⟨_, rfl⟩
  obtain ⟨nm, hnm⟩ : ∃ n, n = mem.length := ⟨_, rfl⟩
  obtain ⟨nd, hnd⟩ : ∃ n, n = dat.length := ⟨_, rfl⟩
  rw [← hne, ← hnm, ← hnd] at hb
  rw [← hne, ← hnm, ← hnd]
  rw [← hne] at SE
  rw [← hnm] at SI
  rw [← hnd] at T1 T2
  clear hne hnm hnd
  have B1 := fun (j : Nat) (x : Value) (h : (#[.int .i64 kind, .int .i64 group, .int .i64 frm, .int .i64 dst, .int .i64 term, .int .i64 index, .int .i64 logTerm, .int .i64 commit, .bool ok, .slice a.e ne a.ec, .slice a.m nm a.mc, .slice a.d nd a.dc] : Array Value)[j]? = some x) => (Cell.new w #[.int .i64 kind, .int .i64 group, .int .i64 frm, .int .i64 dst, .int .i64 term, .int .i64 index, .int .i64 logTerm, .int .i64 commit, .bool ok, .slice a.e ne a.ec, .slice a.m nm a.mc, .slice a.d nd a.dc] 51 j x h).keep (below1' (w.alloc (.cells #[.int .i64 kind, .int .i64 group, .int .i64 frm, .int .i64 dst, .int .i64 term, .int .i64 index, .int .i64 logTerm, .int .i64 commit, .bool ok, .slice a.e ne a.ec, .slice a.m nm a.mc, .slice a.d nd a.dc] 51)) (.cells #[.int .i64 kind, .int .i64 group, .int .i64 frm, .int .i64 dst, .int .i64 term, .int .i64 index, .int .i64 logTerm, .int .i64 commit, .bool ok, .slice b.e ne b.ec, .slice b.m nm b.mc, .slice b.d nd b.dc] 51))
  have B2 := fun (j : Nat) (x : Value) (h : (#[.int .i64 kind, .int .i64 group, .int .i64 frm, .int .i64 dst, .int .i64 term, .int .i64 index, .int .i64 logTerm, .int .i64 commit, .bool ok, .slice b.e ne b.ec, .slice b.m nm b.mc, .slice b.d nd b.dc] : Array Value)[j]? = some x) => Cell.new (w.alloc (.cells #[.int .i64 kind, .int .i64 group, .int .i64 frm, .int .i64 dst, .int .i64 term, .int .i64 index, .int .i64 logTerm, .int .i64 commit, .bool ok, .slice a.e ne a.ec, .slice a.m nm a.mc, .slice a.d nd a.dc] 51)) #[.int .i64 kind, .int .i64 group, .int .i64 frm, .int .i64 dst, .int .i64 term, .int .i64 index, .int .i64 logTerm, .int .i64 commit, .bool ok, .slice b.e ne b.ec, .slice b.m nm b.mc, .slice b.d nd b.dc] 51 j x h
  have hsz : (w.alloc (.cells #[.int .i64 kind, .int .i64 group, .int .i64 frm, .int .i64 dst, .int .i64 term, .int .i64 index, .int .i64 logTerm, .int .i64 commit, .bool ok, .slice a.e ne a.ec, .slice a.m nm a.mc, .slice a.d nd a.dc] 51)).heap.size = w.heap.size + 1 := by simp
  simp only [hsz] at B2
  have P0 := B1 0 (.int .i64 kind) rfl
  have P1 := B1 1 (.int .i64 group) rfl
  have P2 := B1 2 (.int .i64 frm) rfl
  have P3 := B1 3 (.int .i64 dst) rfl
  have P4 := B1 4 (.int .i64 term) rfl
  have P5 := B1 5 (.int .i64 index) rfl
  have P6 := B1 6 (.int .i64 logTerm) rfl
  have P7 := B1 7 (.int .i64 commit) rfl
  have P8 := B1 8 (.bool ok) rfl
  have P9 := B1 9 (.slice a.e ne a.ec) rfl
  have P10 := B1 10 (.slice a.m nm a.mc) rfl
  have P11 := B1 11 (.slice a.d nd a.dc) rfl
  have Q0 := B2 0 (.int .i64 kind) rfl
  have Q1 := B2 1 (.int .i64 group) rfl
  have Q2 := B2 2 (.int .i64 frm) rfl
  have Q3 := B2 3 (.int .i64 dst) rfl
  have Q4 := B2 4 (.int .i64 term) rfl
  have Q5 := B2 5 (.int .i64 index) rfl
  have Q6 := B2 6 (.int .i64 logTerm) rfl
  have Q7 := B2 7 (.int .i64 commit) rfl
  have Q8 := B2 8 (.bool ok) rfl
  have Q9 := B2 9 (.slice b.e ne b.ec) rfl
  have Q10 := B2 10 (.slice b.m nm b.mc) rfl
  have Q11 := B2 11 (.slice b.d nd b.dc) rfl
  clear B1 B2
  go_enter Try.func29, Try.ntmps29
  go_wp2_with fail
  refine (SE.out _ hb).mono ?_
  rintro e w2 ⟨rfl, h2⟩
  replace P0 := P0.keep h2
  replace Q0 := Q0.keep h2
  replace P1 := P1.keep h2
  replace Q1 := Q1.keep h2
  replace P2 := P2.keep h2
  replace Q2 := Q2.keep h2
  replace P3 := P3.keep h2
  replace Q3 := Q3.keep h2
  replace P4 := P4.keep h2
  replace Q4 := Q4.keep h2
  replace P5 := P5.keep h2
  replace Q5 := Q5.keep h2
  replace P6 := P6.keep h2
  replace Q6 := Q6.keep h2
  replace P7 := P7.keep h2
  replace Q7 := Q7.keep h2
  replace P8 := P8.keep h2
  replace Q8 := Q8.keep h2
  replace P9 := P9.keep h2
  replace Q9 := Q9.keep h2
  replace P10 := P10.keep h2
  replace Q10 := Q10.keep h2
  replace P11 := P11.keep h2
  replace Q11 := Q11.keep h2
  have x10 := P10.1
  have y10 := Q10.1
  have hb2 := hb.trans (h2.mono hb.size)
  clear hb h2 SE
  go_wp2_with fail
  refine (SI.out w2 hb2).mono ?_
  rintro e w3 ⟨rfl, h3⟩
  replace P0 := (P0.keep h3).1
  replace Q0 := (Q0.keep h3).1
  replace P1 := (P1.keep h3).1
  replace Q1 := (Q1.keep h3).1
  replace P2 := (P2.keep h3).1
  replace Q2 := (Q2.keep h3).1
  replace P3 := (P3.keep h3).1
  replace Q3 := (Q3.keep h3).1
  replace P4 := (P4.keep h3).1
  replace Q4 := (Q4.keep h3).1
  replace P5 := (P5.keep h3).1
  replace Q5 := (Q5.keep h3).1
  replace P6 := (P6.keep h3).1
  replace Q6 := (Q6.keep h3).1
  replace P7 := (P7.keep h3).1
  replace Q7 := (Q7.keep h3).1
  replace P8 := (P8.keep h3).1
  replace Q8 := (Q8.keep h3).1
  replace P9 := (P9.keep h3).1
  replace Q9 := (Q9.keep h3).1
  replace P10 := (P10.keep h3).1
  replace Q10 := (Q10.keep h3).1
  replace P11 := (P11.keep h3).1
  replace Q11 := (Q11.keep h3).1
  have hb3 := hb2.trans (h3.mono hb2.size)
  have t1 := T1.out w3 hb3
  have t2 := T2.out w3 hb3
  clear hb2 h3 SI T1 T2 x10 y10
  go_wp2
  go_ret
  exact ⟨rfl, hb3⟩
end Go.Proofs.Ytekgmgiokmbliaa
