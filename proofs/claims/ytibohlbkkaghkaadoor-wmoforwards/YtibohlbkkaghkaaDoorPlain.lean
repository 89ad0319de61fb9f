/- Plain mirrors of package word's functions on numbers, without any Go: what each call comes to; their laws stand behind. -/
import Derived.RowKit
import Derived.IntWalk
import Derived.Laws.BitsAllLaws
namespace Go.Proofs.YtibohlbkkaghkaaDoor.W
open Go.RowKit

/-- The number that a stands for, with its sign or without. -/
def wide (a : Int) (s : Bool) : Int := wrap64 (bif s then wrap32 a else a)
def less (a b : Int) (s : Bool) : Bool := decide (wide a s < wide b s)
def right (a n : Int) (s : Bool) : Int := wide a s / 2 ^ (n % 32).toNat % 4294967296
def left (a n : Int) : Int := a * 2 ^ (n % 32).toNat % 4294967296
def sgn (a n : Int) : Int := if n < 1 then 0 else if 31 < n then a else wrap32 (a * 2 ^ (32 - n).toNat % 4294967296) / 2 ^ (32 - n).toNat % 4294967296
def within (low n : Int) : Bool := decide (0 ≤ low) && (decide (low ≤ 31) && decide (1 ≤ n))
def lowest (n : Int) : Int := if 31 < n then 4294967295 else (2 ^ n.toNat % 4294967296 - 1) % 4294967296
def bitsOf (x low n : Int) : Int := bif within low n then bits .and .u32 (x / 2 ^ low.toNat) (lowest n) else 0

def high (a b : Int) (s t : Bool) : Int := IntKind.u64.wrap (wrap64 (wide a s * wide b t)) / 4294967296 % 4294967296
def div (a b : Int) (s : Bool) : Int := if b = 0 then 4294967295 else wrap64 ((wide a s).tdiv (wide b s)) % 4294967296
def rem (a b : Int) (s : Bool) : Int := if b = 0 then a else (wide a s).tmod (wide b s) % 4294967296
def place (v low n : Int) : Int := bits .and .u32 v (lowest n) * 2 ^ low.toNat % 4294967296
def pack (L N V : Nat → Int) : Nat → Int
  | 0 => 0
  | k + 1 => bif within (L k) (N k) then bits .or .u32 (pack L N V k) (place (V k) (L k) (N k)) else pack L N V k

/-- The fields of the chapter's example. -/
def exL (j : Nat) : Int := if j = 0 then 0 else 7
def exN (j : Nat) : Int := if j = 0 then 7 else 5
def exV (j : Nat) : Int := if j = 0 then 19 else 1

theorem and31 (n : Int) : bits .and .i64 n 31 = n % 32 := by
  have h : ((BitVec.ofInt 64 n &&& BitVec.ofInt 64 31 : BitVec 64).toNat : Int) = n % 32 := by
    rw [BitVec.toNat_and]
    have h31 : (BitVec.ofInt 64 31).toNat = 31 := by decide
    rw [h31, nat_mask5, BitVec.toNat_ofInt]
    simp
    omega
  show IntKind.i64.wrap ((BitVec.ofInt 64 n &&& BitVec.ofInt 64 31 : BitVec 64).toNat : Int) = n % 32
  rw [h]
  exact IntWalk.i64_in _ (by omega)

theorem wide_ne (b : Int) (s : Bool) (h0 : 0 ≤ b) (h1 : b < 4294967296) (hb : ¬ b = 0) : ¬ wide b s = 0 := by
  cases s
  · simp only [wide, cond_false, wrap64]; omega
  · simp only [wide, cond_true, wrap64, wrap32]; omega
end Go.Proofs.YtibohlbkkaghkaaDoor.W
