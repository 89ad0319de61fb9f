/- Laws on numbers for chapter 4; without any Go. -/
import Derived.Test.YtjdiepklgcdamaaDoorPlainA
import Derived.Test.YtjdiepklgcdamaaDoorMath3
import Derived.Test.YtjdiepklgcdamaaDoorMathE
namespace Go.Proofs.YtjdiepklgcdamaaDoor.W
open Go.RowKit
set_option linter.unusedVariables false
set_option linter.unusedSimpArgs false

theorem nat_and_or : ∀ n a b : Nat, a < 2 ^ n → b < 2 ^ n → (a &&& b) + (a ||| b) = a + b
  | 0, a, b, ha, hb => by
    have : a = 0 := by omega
    have : b = 0 := by omega
    subst a; subst b; rfl
  | n + 1, a, b, ha, hb => by
    have h := nat_and_or n (a / 2) (b / 2) (by rw [Nat.pow_succ] at ha; omega) (by rw [Nat.pow_succ] at hb; omega)
    have e1 : (a &&& b) / 2 = a / 2 &&& b / 2 := Nat.and_div_two
    have e2 : (a ||| b) / 2 = a / 2 ||| b / 2 := Nat.or_div_two
    have m1 : (a &&& b) % 2 = (a % 2) &&& (b % 2) := by simpa using Nat.and_mod_two_pow (n := 1) (a := a) (b := b)
    have m2 : (a ||| b) % 2 = (a % 2) ||| (b % 2) := by simpa using Nat.or_mod_two_pow (n := 1) (a := a) (b := b)
    rw [← e1, ← e2] at h
    clear e1 e2
    generalize (a &&& b) = p at *
    generalize (a ||| b) = q at *
    rcases Nat.mod_two_eq_zero_or_one a with x | x <;> rcases Nat.mod_two_eq_zero_or_one b with y | y <;> rw [x, y] at m1 m2 <;> simp only [Nat.zero_and, Nat.and_zero, Nat.and_self, Nat.zero_or, Nat.or_zero, Nat.or_self] at m1 m2 <;> omega
theorem and_or (a b : Int) (a0 : 0 ≤ a) (a1 : a < 4294967296) (b0 : 0 ≤ b) (b1 : b < 4294967296) : bits .and .u32 a b + bits .or .u32 a b = a + b := by
  obtain ⟨x, rfl⟩ := Int.eq_ofNat_of_zero_le a0
  obtain ⟨y, rfl⟩ := Int.eq_ofNat_of_zero_le b0
  rw [u32_and_nat x y (by omega) (by omega), u32_or_nat x y (by omega) (by omega)]
  have := nat_and_or 32 x y (by omega) (by omega)
  omega
theorem bit_at (x : Int) (x0 : 0 ≤ x) (x1 : x < 4294967296) (j : Nat) : bits .and .u32 (x / 2 ^ j) 1 = if tb x j then 1 else 0 := by
  have h0 : 0 ≤ x / 2 ^ j := Int.ediv_nonneg x0 (Int.le_of_lt (Int.pow_pos (by decide)))
  have h1 : x / 2 ^ j < 4294967296 := Int.lt_of_le_of_lt (Int.ediv_le_self _ x0) x1
  rw [and1 _ h0 h1]
  obtain ⟨n, rfl⟩ := Int.eq_ofNat_of_zero_le x0
  have e : ((n : Int) / 2 ^ j) % 2 = ((n / 2 ^ j % 2 : Nat) : Int) := by simp
  rw [e, tb, Int.toNat_natCast, Nat.testBit_eq_decide_div_mod_eq]
  rcases Nat.mod_two_eq_zero_or_one (n / 2 ^ j) with h | h <;> simp [h]
theorem top_tb (x : Int) (x0 : 0 ≤ x) (x1 : x < 4294967296) : tb x 31 = decide (2147483648 ≤ x) := by
  obtain ⟨n, rfl⟩ := Int.eq_ofNat_of_zero_le x0
  rw [tb, Int.toNat_natCast, Nat.testBit_eq_decide_div_mod_eq]
  by_cases h : 2147483648 ≤ (n : Int)
  · rw [decide_eq_true h, decide_eq_true_iff]; omega
  · rw [decide_eq_false h, decide_eq_false_iff_not]; omega
/-- A difference's overflow. -/
def over (a b d : Int) : Int := bits .and .u32 (bits .xor .u32 a b) (bits .xor .u32 a d)
theorem less_f (a b : Int) (a0 : 0 ≤ a) (a1 : a < 4294967296) (b0 : 0 ≤ b) (b1 : b < 4294967296) : less a b false = decide (a < b) := by
  rw [less, wide_f a a0 a1, wide_f b b0 b1]
theorem less_t (a b : Int) (a0 : 0 ≤ a) (a1 : a < 4294967296) (b0 : 0 ≤ b) (b1 : b < 4294967296) : less a b true = (decide (2147483648 ≤ (a - b) % 4294967296) != decide (2147483648 ≤ over a b ((a - b) % 4294967296))) := by
  have d0 : 0 ≤ (a - b) % 4294967296 := by omega
  have d1 : (a - b) % 4294967296 < 4294967296 := by omega
  have hx := xor_lt a b
  have hy := xor_lt a ((a - b) % 4294967296)
  have hz := and_lt (bits .xor .u32 a b) (bits .xor .u32 a ((a - b) % 4294967296))
  rw [over, ← top_tb _ hz.1 hz.2, tb_and _ _ _ hx.1 hx.2 hy.1 hy.2, tb_xor _ _ _ a0 a1 b0 b1, tb_xor _ _ _ a0 a1 d0 d1, top_tb a a0 a1, top_tb b b0 b1, top_tb _ d0 d1, less, wide_t a a0 a1, wide_t b b0 b1]
  by_cases h1 : 2147483648 ≤ a <;> by_cases h2 : 2147483648 ≤ b <;> by_cases h3 : 2147483648 ≤ (a - b) % 4294967296 <;> simp only [h1, h2, h3, decide_true, decide_false, Bool.xor_false, Bool.xor_true, Bool.not_true, Bool.not_false, Bool.and_true, Bool.and_false, bne_self_eq_false, decide_eq_true_eq, decide_eq_false_iff_not] <;> (repeat (split)) <;> simp <;> omega
theorem div31 (x : Int) (x0 : 0 ≤ x) (x1 : x < 4294967296) : (x / 2147483648 == 1) = decide (2147483648 ≤ x) := by
  by_cases h : 2147483648 ≤ x
  · rw [decide_eq_true h]; simp; omega
  · rw [decide_eq_false h]; simp; omega
theorem high_s (a b : Int) (a0 : 0 ≤ a) (a1 : a < 4294967296) (b0 : 0 ≤ b) (b1 : b < 4294967296) : high a b true false = if 2147483648 ≤ a then (high a b false false - b) % 4294967296 else high a b false false := by
  rw [high_eq, high_eq, wide_t a a0 a1, wide_f b b0 b1, wide_f a a0 a1]
  by_cases h : 2147483648 ≤ a
  · rw [if_neg (by omega), if_pos h, Int.sub_mul]; generalize a * b = p; omega
  · rw [if_pos (by omega), if_neg h]
theorem high_ss (a b : Int) (a0 : 0 ≤ a) (a1 : a < 4294967296) (b0 : 0 ≤ b) (b1 : b < 4294967296) : high a b true true = if 2147483648 ≤ b then (high a b true false - a) % 4294967296 else high a b true false := by
  rw [high_eq, high_eq, wide_t b b0 b1, wide_f b b0 b1]
  have hw := wide_bd a true a0 a1
  by_cases h : 2147483648 ≤ b
  · rw [if_neg (by omega), if_pos h, Int.mul_sub]; generalize wide a true * b = p; omega
  · rw [if_pos (by omega), if_neg h]
theorem div_back (a b : Int) (s : Bool) (a0 : 0 ≤ a) (a1 : a < 4294967296) (b0 : 0 ≤ b) (b1 : b < 4294967296) : (div a b s * b + rem a b s) % 4294967296 = a := by
  by_cases h : b = 0
  · subst h; rw [rem, if_pos rfl]; omega
  · exact (div_rem a b s a0 a1 b0 b1 h)
end Go.Proofs.YtjdiepklgcdamaaDoor.W
