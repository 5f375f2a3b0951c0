/-
  Plain words: filters as lists of bytes.
-/
import Derived.Test.YtogfojohflkdnaaHash
namespace Go.Proofs.Ytogfojohflkdnaa
open Go.RowKit

def step (h : Nat) : Nat := rot h ||| 1
theorem step_lt {h : Nat} (hh : h < 18446744073709551616) : step h < 18446744073709551616 := by
  have := rot_lt hh
  exact Nat.or_lt_two_pow (n := 64) (by omega) (by decide)
theorem step_even {h : Nat} (e : rot h % 2 = 0) : step h = rot h + 1 := by
  unfold step
  obtain ⟨k, hk⟩ : ∃ k, rot h = 2 ^ 1 * k := ⟨rot h / 2, by omega⟩
  rw [hk, ← Nat.two_pow_add_eq_or_of_lt (i := 1) (by decide)]
theorem step_odd {h : Nat} (e : rot h % 2 ≠ 0) : step h = rot h := by
  unfold step
  apply Nat.eq_of_testBit_eq
  intro i
  rw [Nat.testBit_or]
  cases i with
  | zero => rw [Nat.testBit_zero, Nat.testBit_zero]; simp; omega
  | succ i => rw [Nat.testBit_succ (x := 1)]; simp

/-- byte number i -/
def at8 (l : List UInt8) (i : Nat) : Nat := (l.getD i 0).toNat
def setB (l : List UInt8) (j : Nat) : List UInt8 := l.set (1 + j / 8) (by8 (at8 l (1 + j / 8) ||| 2 ^ (j % 8)))
def testB (l : List UInt8) (j : Nat) : Bool := (at8 l (1 + j / 8)).testBit (j % 8)
def addN : Nat → Nat → Nat → Nat → List UInt8 → List UInt8
  | 0, _, _, _, l => l
  | k + 1, h, s, m, l => addN k ((h + s) % 18446744073709551616) s m (setB l (h % m))
def askN : Nat → Nat → Nat → Nat → List UInt8 → Bool
  | 0, _, _, _, _ => true
  | k + 1, h, s, m, l => testB l (h % m) && askN k ((h + s) % 18446744073709551616) s m l
theorem setB_len (l : List UInt8) (j : Nat) : (setB l j).length = l.length := by simp [setB]
theorem addN_len : ∀ (k h s m : Nat) (l : List UInt8), (addN k h s m l).length = l.length
  | 0, _, _, _, _ => rfl
  | k + 1, h, s, m, l => by simp only [addN]; rw [addN_len k, setB_len]
theorem at8_lt (l : List UInt8) (i : Nat) : at8 l i < 256 := (l.getD i 0).toNat_lt
theorem or_byte_lt (x k : Nat) (hx : x < 256) (hk : k < 8) : x ||| 2 ^ k < 256 := Nat.or_lt_two_pow (n := 8) hx (Nat.pow_lt_pow_right (by decide) hk)
theorem bv8 (a : Nat) (ha : a < 256) : (BitVec.ofInt 8 (a : Int)).toNat = a := by
  rw [BitVec.ofInt_natCast, BitVec.toNat_ofNat]; exact Nat.mod_eq_of_lt (by omega)
theorem or_u8 (a b : Nat) (ha : a < 256) (hb : b < 256) : bits .or .u8 (a : Int) (b : Int) = ((a ||| b : Nat) : Int) := by
  have e1 : (BitVec.ofInt 8 (a : Int)).toNat = a := bv8 a ha
  have e2 : (BitVec.ofInt 8 (b : Int)).toNat = b := bv8 b hb
  have hx : a ||| b < 2 ^ 8 := Nat.or_lt_two_pow ha hb
  show IntKind.u8.wrap ((BitVec.ofInt 8 (a : Int) ||| BitVec.ofInt 8 (b : Int)).toNat : Int) = _
  rw [BitVec.toNat_or, e1, e2]
  show (((a ||| b : Nat) : Int) % 256) = _
  omega
theorem and_u8 (a b : Nat) (ha : a < 256) (hb : b < 256) : bits .and .u8 (a : Int) (b : Int) = ((a &&& b : Nat) : Int) := by
  have e1 : (BitVec.ofInt 8 (a : Int)).toNat = a := bv8 a ha
  have e2 : (BitVec.ofInt 8 (b : Int)).toNat = b := bv8 b hb
  have hx : a &&& b < 2 ^ 8 := Nat.and_lt_two_pow _ hb
  show IntKind.u8.wrap ((BitVec.ofInt 8 (a : Int) &&& BitVec.ofInt 8 (b : Int)).toNat : Int) = _
  rw [BitVec.toNat_and, e1, e2]
  show (((a &&& b : Nat) : Int) % 256) = _
  omega
theorem and_pow (x k : Nat) : (x &&& 2 ^ k = 0) ↔ x.testBit k = false := by
  constructor
  · intro h
    have := congrArg (Nat.testBit · k) h
    simpa [Nat.testBit_and, Nat.testBit_two_pow_self] using this
  · intro h
    apply Nat.eq_of_testBit_eq
    intro i
    rw [Nat.testBit_and, Nat.testBit_two_pow, Nat.zero_testBit]
    by_cases e : k = i
    · subst e; rw [h]; rfl
    · simp [e]
end Go.Proofs.Ytogfojohflkdnaa
