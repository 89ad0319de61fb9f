/- Plain mirrors of package pte and of the document's entries, and their laws: all hang on the lowest eight bits, 256 cases. -/
import Derived.Test.YtkcdkjmkgncihaaMath6
namespace Go.Proofs.Ytkcdkjmkgncihaa.W
open Go.RowKit
set_option linter.unusedVariables false

def an (e m : Int) : Int := bits .and .u32 e m
def leaf (e : Int) : Bool := (bits .and .u32 e 10 != 0)
def bad (e : Int) : Bool := (bits .and .u32 e 1 == 0) || (((bits .and .u32 e 4 != 0) && (bits .and .u32 e 2 == 0)) || (!(leaf e) && (bits .and .u32 e 208 != 0)))
def asked (a : Int) : Int := if a = 1 then 8 else if a = 2 then 2 else if a = 3 then 4 else 0
def opn (e m : Int) : Bool := if m = 0 then (bits .and .u32 e 16 != 0) else if m = 3 then (bits .and .u32 e 16 == 0) else false
def may (e a m : Int) : Bool := leaf e && (!(bad e) && ((bits .and .u32 e (asked a) != 0) && opn e m))
def needs (e a : Int) : Int := if a = 3 then bits .or .u32 (bits .or .u32 e 64) 128 else bits .or .u32 e 64
def cause (a : Int) (p : Bool) : Int := if a = 1 then (bif p then 12 else 1) else if a = 2 then (bif p then 13 else 5) else if a = 3 then (bif p then 15 else 7) else 2
def orAll (f : Nat → Int) : Nat → Int
  | 0 => 0
  | k + 1 => bits .or .u32 (orAll f k) (f k)
def mk (page all : Int) : Int := page % 4194304 * 1024 + all % 1024
def rbad (e : Int) : Bool := (bits .and .u32 e 1 == 0) || ((bits .and .u32 e 6 == 4) || (!(leaf e) && (bits .and .u32 e 208 != 0)))
def rmay (e a m : Int) : Bool := bif (rbad e || !(leaf e)) then false else bif (!(m == 0) && !(m == 3)) then false else (bits .and .u32 e (asked a) != 0) && ((bits .and .u32 e 16 != 0) == (m == 0))

/-- A mask of eight bits sees the lowest eight alone. -/
theorem and_low8 (e M : Int) (m0 : 0 ≤ M) (m1 : M < 256) (e0 : 0 ≤ e) (e1 : e < 4294967296) : bits .and .u32 e M = bits .and .u32 (e % 256) M := by
  obtain ⟨m, rfl⟩ := Int.eq_ofNat_of_zero_le m0
  have hm : m < 2 ^ 8 := by omega
  rw [u32_and e m e0 e1 (by omega) (by omega), u32_and (e % 256) m (by omega) (by omega) (by omega) (by omega), show (e % 256).toNat = e.toNat % 2 ^ 8 by omega]
  congr 1
  rw [Int.toNat_natCast]
  apply Nat.eq_of_testBit_eq
  intro i
  rw [Nat.testBit_and, Nat.testBit_and, Nat.testBit_mod_two_pow]
  by_cases h : i < 8
  · simp [h]
  · have : m.testBit i = false := Nat.testBit_lt_two_pow (Nat.lt_of_lt_of_le hm (Nat.pow_le_pow_right (by omega) (by omega)))
    simp [this]
theorem leaf_low (e : Int) (e0 : 0 ≤ e) (e1 : e < 4294967296) : leaf e = leaf (e % 256) := by
  unfold leaf
  rw [and_low8 e 10 (by decide) (by decide) e0 e1]
theorem bad_low (e : Int) (e0 : 0 ≤ e) (e1 : e < 4294967296) : bad e = bad (e % 256) := by
  have h1 := and_low8 e 1 (by decide) (by decide) e0 e1
  have h2 := and_low8 e 2 (by decide) (by decide) e0 e1
  have h4 := and_low8 e 4 (by decide) (by decide) e0 e1
  have h8 := and_low8 e 208 (by decide) (by decide) e0 e1
  unfold bad
  rw [leaf_low e e0 e1, h1, h2, h4, h8]
theorem rbad_low (e : Int) (e0 : 0 ≤ e) (e1 : e < 4294967296) : rbad e = rbad (e % 256) := by
  have h1 := and_low8 e 1 (by decide) (by decide) e0 e1
  have h2 := and_low8 e 6 (by decide) (by decide) e0 e1
  have h8 := and_low8 e 208 (by decide) (by decide) e0 e1
  unfold rbad
  rw [leaf_low e e0 e1, h1, h2, h8]
theorem rbad_all : ((List.range 256).all fun n => rbad (n : Int) == bad (n : Int)) = true := by decide +kernel
theorem rbad_eq (e : Int) (e0 : 0 ≤ e) (e1 : e < 4294967296) : rbad e = bad e := by
  rw [rbad_low e e0 e1, bad_low e e0 e1]
  have h := List.all_eq_true.mp rbad_all (e % 256).toNat (by simp; omega)
  rw [show ((e % 256).toNat : Int) = e % 256 by omega] at h
  simpa using h
theorem rmay_eq (e a m : Int) (e0 : 0 ≤ e) (e1 : e < 4294967296) : rmay e a m = may e a m := by
  unfold rmay may
  rw [rbad_eq e e0 e1]
  cases bad e <;> cases leaf e <;> simp [opn]
  by_cases h0 : m = 0
  · subst h0; simp
  · by_cases h3 : m = 3
    · subst h3; simp [bne]
    · simp [h0, h3]
theorem or_two (e : Int) (e0 : 0 ≤ e) (e1 : e < 4294967296) : bits .or .u32 (bits .or .u32 e 64) 128 = bits .or .u32 e 192 := by
  have hb := or_lt e 64
  rw [u32_or e 192 e0 e1 (by decide) (by decide), u32_or _ 128 hb.1 hb.2 (by decide) (by decide), u32_or e 64 e0 e1 (by decide) (by decide), Int.toNat_natCast, Nat.or_assoc]
  rfl
end Go.Proofs.Ytkcdkjmkgncihaa.W
