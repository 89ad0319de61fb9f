/- Texts in one: Math2. -/
import Derived.Test.YtopehmpjfndgjaaJ01
/- More laws of the plain mirrors: signs extended, words turned by half, shifts as products and quotients. -/
namespace Go.Proofs.Ytopehmpjfndgjaa.W
open Go.RowKit
set_option linter.unusedVariables false

theorem and15 (n : Int) : bits .and .i64 n 15 = n % 16 := by
  have h : ((BitVec.ofInt 64 n &&& BitVec.ofInt 64 15 : BitVec 64).toNat : Int) = n % 16 := by
    rw [BitVec.toNat_and]
    have h31 : (BitVec.ofInt 64 15).toNat = 15 := by decide
    rw [h31, nat_mask4, BitVec.toNat_ofInt]
    simp
    omega
  show IntKind.i64.wrap ((BitVec.ofInt 64 n &&& BitVec.ofInt 64 15 : BitVec 64).toNat : Int) = n % 16
  rw [h]
  exact IntWalk.i64_in _ (by omega)
theorem and7 (n : Int) : bits .and .i64 n 7 = n % 8 := by
  have h : ((BitVec.ofInt 64 n &&& BitVec.ofInt 64 7 : BitVec 64).toNat : Int) = n % 8 := by
    rw [BitVec.toNat_and]
    have h31 : (BitVec.ofInt 64 7).toNat = 7 := by decide
    rw [h31, nat_mask3, BitVec.toNat_ofInt]
    simp
    omega
  show IntKind.i64.wrap ((BitVec.ofInt 64 n &&& BitVec.ofInt 64 7 : BitVec 64).toNat : Int) = n % 8
  rw [h]
  exact IntWalk.i64_in _ (by omega)

/-- The word with its highest bit turned. -/
def flip (a : Int) : Int := (a + 2147483648) % 4294967296
theorem xor_low (l : Nat) (h : l < 2 ^ 31) : l ^^^ 2 ^ 31 = 2 ^ 31 + l := by
  apply Nat.eq_of_testBit_eq
  intro j
  rw [Nat.testBit_xor, Nat.testBit_two_pow]
  rcases Nat.lt_trichotomy j 31 with hj | hj | hj
  · rw [Nat.testBit_two_pow_add_gt hj]
    have : ¬ 31 = j := by omega
    simp [this]
  · subst hj
    rw [Nat.testBit_two_pow_add_eq]
    simp
  · have hp : 2 ^ 32 ≤ 2 ^ j := Nat.pow_le_pow_right (by decide) hj
    rw [Nat.testBit_lt_two_pow (x := l) (i := j) (by omega), Nat.testBit_lt_two_pow (x := 2 ^ 31 + l) (i := j) (by omega)]
    have : ¬ 31 = j := by omega
    simp [this]
theorem xor_half (a : Int) (h0 : 0 ≤ a) (h1 : a < 4294967296) : bits .xor .u32 a 2147483648 = flip a := by
  obtain ⟨x, rfl⟩ := Int.eq_ofNat_of_zero_le h0
  rw [show (2147483648 : Int) = ((2147483648 : Nat) : Int) from rfl, u32_xor_nat x 2147483648 (by omega) (by decide)]
  unfold flip
  by_cases hx : x < 2147483648
  · have e := xor_low x (by simpa using hx)
    simp only [Nat.reducePow] at e
    rw [e]; omega
  · have e := xor_low (x - 2147483648) (by simp; omega)
    simp only [Nat.reducePow] at e
    have e2 : 2147483648 + (x - 2147483648) = x := by omega
    rw [e2] at e
    rw [← e, Nat.xor_assoc, Nat.xor_self, Nat.xor_zero]
    omega

/-- Extended from m bits, as sums and rests. -/
def sx (a m : Int) : Int := ((a + 2 ^ (m - 1).toNat) % 2 ^ m.toNat - 2 ^ (m - 1).toNat) % 4294967296
theorem sgn_sx (a m : Int) (h0 : 0 ≤ a) (h1 : a < 4294967296) (m0 : 1 ≤ m) (m1 : m ≤ 32) : sgn a m = sx a m := by
  by_cases hm : m = 32
  · subst hm; unfold sgn sx; rw [if_neg (by decide), if_pos (by decide)]; simp only [Int.reduceToNat, Int.reducePow, Int.reduceSub]; omega
  · unfold sgn sx wrap32
    rw [if_neg (by omega), if_neg (by omega)]
    rcases cases31 m (by omega) (by omega) with rfl | rfl | rfl | rfl | rfl | rfl | rfl | rfl | rfl | rfl | rfl | rfl | rfl | rfl | rfl | rfl | rfl | rfl | rfl | rfl | rfl | rfl | rfl | rfl | rfl | rfl | rfl | rfl | rfl | rfl | rfl | rfl
    all_goals simp only [Int.reduceToNat, Int.reducePow, Int.reduceSub]; omega
theorem sx_lt (a m : Int) : 0 ≤ sx a m ∧ sx a m < 4294967296 := by unfold sx; omega
theorem sx_sx (a m : Int) (m0 : 1 ≤ m) (m1 : m ≤ 32) : sx (sx a m) m = sx a m := by
  unfold sx
  by_cases hm : m = 32
  · subst hm; simp only [Int.reduceToNat, Int.reducePow, Int.reduceSub]; omega
  · rcases cases31 m (by omega) (by omega) with rfl | rfl | rfl | rfl | rfl | rfl | rfl | rfl | rfl | rfl | rfl | rfl | rfl | rfl | rfl | rfl | rfl | rfl | rfl | rfl | rfl | rfl | rfl | rfl | rfl | rfl | rfl | rfl | rfl | rfl | rfl | rfl
    all_goals simp only [Int.reduceToNat, Int.reducePow, Int.reduceSub]; omega
theorem sgn_lt (a m : Int) (h0 : 0 ≤ a) (h1 : a < 4294967296) : 0 ≤ sgn a m ∧ sgn a m < 4294967296 := by
  by_cases hm : m < 1
  · rw [sgn, if_pos hm]; omega
  · by_cases h : 31 < m
    · rw [sgn, if_neg hm, if_pos h]; omega
    · rw [sgn_sx a m h0 h1 (by omega) (by omega)]; exact sx_lt a m
theorem sgn_sgn (a m : Int) (h0 : 0 ≤ a) (h1 : a < 4294967296) (m0 : 1 ≤ m) (m1 : m ≤ 32) : sgn (sgn a m) m = sgn a m := by
  have h := sgn_lt a m h0 h1
  rw [sgn_sx (sgn a m) m h.1 h.2 m0 m1, sgn_sx a m h0 h1 m0 m1, sx_sx a m m0 m1]
theorem sx_low (a m : Int) (m0 : 1 ≤ m) (m1 : m ≤ 32) : sx a m % 2 ^ m.toNat = a % 2 ^ m.toNat := by
  unfold sx
  by_cases hm : m = 32
  · subst hm; simp only [Int.reduceToNat, Int.reducePow, Int.reduceSub]; omega
  · rcases cases31 m (by omega) (by omega) with rfl | rfl | rfl | rfl | rfl | rfl | rfl | rfl | rfl | rfl | rfl | rfl | rfl | rfl | rfl | rfl | rfl | rfl | rfl | rfl | rfl | rfl | rfl | rfl | rfl | rfl | rfl | rfl | rfl | rfl | rfl | rfl
    all_goals simp only [Int.reduceToNat, Int.reducePow, Int.reduceSub]; omega
theorem sgn_low (a m : Int) (h0 : 0 ≤ a) (h1 : a < 4294967296) (m0 : 1 ≤ m) (m1 : m ≤ 32) : bitsOf (sgn a m) 0 m = bitsOf a 0 m := by
  have h := sgn_lt a m h0 h1
  rw [bitsOf_eq _ 0 m h.1 h.2 (by omega) (by omega) m0, bitsOf_eq a 0 m h0 h1 (by omega) (by omega) m0, show min m.toNat 32 = m.toNat from by omega]
  have := sx_low a m m0 m1
  rw [sgn_sx a m h0 h1 m0 m1]
  simpa using this
theorem sx_ends (a m : Int) (m0 : 1 ≤ m) (m1 : m ≤ 32) : sx a m < 2 ^ (m - 1).toNat ∨ 4294967296 - 2 ^ (m - 1).toNat ≤ sx a m := by
  unfold sx
  by_cases hm : m = 32
  · subst hm; simp only [Int.reduceToNat, Int.reducePow, Int.reduceSub]; omega
  · rcases cases31 m (by omega) (by omega) with rfl | rfl | rfl | rfl | rfl | rfl | rfl | rfl | rfl | rfl | rfl | rfl | rfl | rfl | rfl | rfl | rfl | rfl | rfl | rfl | rfl | rfl | rfl | rfl | rfl | rfl | rfl | rfl | rfl | rfl | rfl | rfl
    all_goals simp only [Int.reduceToNat, Int.reducePow, Int.reduceSub]; omega
theorem bit_ends (x j : Int) (h0 : 0 ≤ x) (h1 : x < 4294967296) (j0 : 0 ≤ j) (j1 : j ≤ 31) : (x < 2 ^ j.toNat → bitsOf x j 1 = 0) ∧ (4294967296 - 2 ^ j.toNat ≤ x → bitsOf x j 1 = 1) := by
  rw [bitsOf_eq x j 1 h0 h1 j0 j1 (by omega)]
  rcases cases31 j j0 j1 with rfl | rfl | rfl | rfl | rfl | rfl | rfl | rfl | rfl | rfl | rfl | rfl | rfl | rfl | rfl | rfl | rfl | rfl | rfl | rfl | rfl | rfl | rfl | rfl | rfl | rfl | rfl | rfl | rfl | rfl | rfl | rfl
  all_goals simp only [Int.reduceToNat, Int.reducePow, Nat.reduceLeDiff, Nat.min_eq_left]; omega
theorem sgn_top (a m j : Int) (h0 : 0 ≤ a) (h1 : a < 4294967296) (m0 : 0 ≤ m) (m1 : m ≤ 31) (j0 : m + 1 ≤ j) (j1 : j < 32) : bitsOf (sgn a (m + 1)) j 1 = bitsOf (sgn a (m + 1)) m 1 := by
  have h := sgn_lt a (m + 1) h0 h1
  have e1 := bit_ends _ j h.1 h.2 (by omega) (by omega)
  have e2 := bit_ends _ m h.1 h.2 (by omega) (by omega)
  have e3 := sx_ends a (m + 1) (by omega) (by omega)
  rw [← sgn_sx a (m + 1) h0 h1 (by omega) (by omega), show m + 1 - 1 = m from by omega] at e3
  have hp : (2 : Nat) ^ m.toNat ≤ 2 ^ j.toNat := Nat.pow_le_pow_right (by decide) (by omega)
  have c1 : ((2 : Int) ^ m.toNat) = ((2 ^ m.toNat : Nat) : Int) := by simp
  have c2 : ((2 : Int) ^ j.toNat) = ((2 ^ j.toNat : Nat) : Int) := by simp
  rw [c1] at e2 e3
  rw [c2] at e1
  rcases e3 with e3 | e3
  · rw [e1.1 (by omega), e2.1 e3]
  · rw [e1.2 (by omega), e2.2 e3]
theorem flip_lt (a : Int) : 0 ≤ flip a ∧ flip a < 4294967296 := by unfold flip; omega
theorem less_flip (a b : Int) (a0 : 0 ≤ a) (a1 : a < 4294967296) (b0 : 0 ≤ b) (b1 : b < 4294967296) : less a b true = less (flip a) (flip b) false := by
  have ha := flip_lt a
  have hb := flip_lt b
  unfold less
  rw [wide_w, wide_w, wide_f _ ha.1 ha.2, wide_f _ hb.1 hb.2, decide_eq_decide]
  unfold flip wrap32
  omega
theorem right_flip (a k : Int) (a0 : 0 ≤ a) (a1 : a < 4294967296) (k0 : 0 ≤ k) (k1 : k ≤ 15) : right a k true = (right (flip a) k false - right 2147483648 k false) % 4294967296 := by
  have ha := flip_lt a
  unfold right
  rw [wide_w, wide_f _ ha.1 ha.2, wide_f _ (by decide) (by decide)]
  unfold flip wrap32
  rcases cases31 k k0 (by omega) with rfl | rfl | rfl | rfl | rfl | rfl | rfl | rfl | rfl | rfl | rfl | rfl | rfl | rfl | rfl | rfl | rfl | rfl | rfl | rfl | rfl | rfl | rfl | rfl | rfl | rfl | rfl | rfl | rfl | rfl | rfl | rfl
  all_goals simp only [Int.reduceToNat, Int.reducePow, Int.reduceMod, Int.reduceDiv]; omega
theorem left_mul (a k : Int) (k0 : 0 ≤ k) (k1 : k ≤ 15) : left a k = a * (2 ^ k.toNat % 4294967296) % 4294967296 := by
  unfold left
  rcases cases31 k k0 (by omega) with rfl | rfl | rfl | rfl | rfl | rfl | rfl | rfl | rfl | rfl | rfl | rfl | rfl | rfl | rfl | rfl | rfl | rfl | rfl | rfl | rfl | rfl | rfl | rfl | rfl | rfl | rfl | rfl | rfl | rfl | rfl | rfl
  all_goals simp only [Int.reduceToNat, Int.reducePow, Int.reduceMod]
  all_goals omega
theorem and16 (a : Int) (a0 : 0 ≤ a) (a1 : a < 4294967296) : bits .and .u32 a 65535 = a % 65536 := low_and a 16 (by decide) a0 a1
end Go.Proofs.Ytopehmpjfndgjaa.W
