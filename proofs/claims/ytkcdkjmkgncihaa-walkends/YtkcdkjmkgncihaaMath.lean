/- Laws of the plain mirrors, for words (0 to 2^32 - 1): what the parts and shifts come to in sums, quotients and rests. -/
import Derived.Test.YtkcdkjmkgncihaaPlain
import Derived.Laws.BitsAllLaws
namespace Go.Proofs.Ytkcdkjmkgncihaa.W
open Go.RowKit
set_option linter.unusedVariables false

theorem cases31 (k : Int) (h0 : 0 ≤ k) (h1 : k ≤ 31) : k = 0 ∨ k = 1 ∨ k = 2 ∨ k = 3 ∨ k = 4 ∨ k = 5 ∨ k = 6 ∨ k = 7 ∨ k = 8 ∨ k = 9 ∨ k = 10 ∨ k = 11 ∨ k = 12 ∨ k = 13 ∨ k = 14 ∨ k = 15 ∨ k = 16 ∨ k = 17 ∨ k = 18 ∨ k = 19 ∨ k = 20 ∨ k = 21 ∨ k = 22 ∨ k = 23 ∨ k = 24 ∨ k = 25 ∨ k = 26 ∨ k = 27 ∨ k = 28 ∨ k = 29 ∨ k = 30 ∨ k = 31 := by omega

theorem pow_le32 (m : Nat) (h : m ≤ 32) : (2 : Nat) ^ m ≤ 4294967296 := by
  have := Nat.pow_le_pow_right (n := 2) (by decide) h
  simpa using this

theorem wide_f (a : Int) (h0 : 0 ≤ a) (h1 : a < 4294967296) : wide a false = a := by
  simp only [wide, cond_false, wrap64]; omega
theorem wide_t (a : Int) (h0 : 0 ≤ a) (h1 : a < 4294967296) : wide a true = if a < 2147483648 then a else a - 4294967296 := by
  simp only [wide, cond_true, wrap64, wrap32]; split <;> omega

theorem low_and (a : Int) (m : Nat) (hm : m ≤ 32) (h0 : 0 ≤ a) (h1 : a < 4294967296) : bits .and .u32 a (2 ^ m - 1) = a % 2 ^ m := by
  have hp := pow_le32 m hm
  have hq : 1 ≤ (2 : Nat) ^ m := Nat.one_le_two_pow
  have e : ((2 : Int) ^ m - 1) = ((2 ^ m - 1 : Nat) : Int) := by
    rw [Int.ofNat_sub hq]; simp
  obtain ⟨x, rfl⟩ := Int.eq_ofNat_of_zero_le h0
  rw [e, u32_and_nat x (2 ^ m - 1) (by omega) (by omega), Nat.and_two_pow_sub_one_eq_mod]
  simp

theorem lowest_eq (n : Int) (h : 1 ≤ n) : lowest n = 2 ^ (min n.toNat 32) - 1 := by
  unfold lowest
  split
  · have e : min n.toNat 32 = 32 := by omega
    rw [e]; rfl
  · have e : min n.toNat 32 = n.toNat := by omega
    rw [e]
    have hp := Nat.pow_le_pow_right (n := 2) (by decide) (show n.toNat ≤ 31 by omega)
    have hq : 1 ≤ (2 : Nat) ^ n.toNat := Nat.one_le_two_pow
    have e2 : ((2 : Int) ^ n.toNat) = ((2 ^ n.toNat : Nat) : Int) := by simp
    rw [e2]
    omega

theorem bitsOf_eq (x low n : Int) (h0 : 0 ≤ x) (h1 : x < 4294967296) (l0 : 0 ≤ low) (l1 : low ≤ 31) (hn : 1 ≤ n) :
    bitsOf x low n = x / 2 ^ low.toNat % 2 ^ (min n.toNat 32) := by
  have hw : within low n = true := by simp [within, l0, l1, hn]
  rw [bitsOf, hw, cond_true, lowest_eq n hn]
  have hq : (0 : Int) < 2 ^ low.toNat := Int.pow_pos (by decide)
  refine low_and _ _ (by omega) (Int.ediv_nonneg h0 (by omega)) ?_
  have := Int.ediv_le_self (2 ^ low.toNat) h0
  omega
theorem bitsOf_out (x low n : Int) (h : low < 0 ∨ 31 < low ∨ n < 1) : bitsOf x low n = 0 := by
  have hw : within low n = false := by
    simp [within]; omega
  rw [bitsOf, hw, cond_false]

theorem left_lt (x n : Int) : 0 ≤ left x n ∧ left x n < 4294967296 := by unfold left; omega
theorem right_lt (x n : Int) (s : Bool) : 0 ≤ right x n s ∧ right x n s < 4294967296 := by unfold right; omega

theorem left_mod (x n : Int) : left x n = left x (n % 32) := by unfold left; rw [Int.emod_emod_of_dvd n (Int.dvd_refl 32)]
theorem right_mod (x n : Int) (s : Bool) : right x n s = right x (n % 32) s := by unfold right; rw [Int.emod_emod_of_dvd n (Int.dvd_refl 32)]

theorem sh_bits (x k : Int) (h0 : 0 ≤ x) (h1 : x < 4294967296) (k0 : 0 < k) (k1 : k ≤ 31) : right (left x k) k false = bitsOf x 0 (32 - k) := by
  rw [bitsOf_eq x 0 (32 - k) h0 h1 (by omega) (by omega) (by omega), show min (32 - k).toNat 32 = (32 - k).toNat from by omega]
  have hl := left_lt x k
  unfold right
  rw [wide_f _ hl.1 hl.2]
  unfold left
  rcases cases31 k (by omega) k1 with rfl | rfl | rfl | rfl | rfl | rfl | rfl | rfl | rfl | rfl | rfl | rfl | rfl | rfl | rfl | rfl | rfl | rfl | rfl | rfl | rfl | rfl | rfl | rfl | rfl | rfl | rfl | rfl | rfl | rfl | rfl | rfl
  all_goals simp only [Int.reduceToNat, Int.reducePow, Int.reduceMod, Int.reduceSub]; omega

theorem wide_w (a : Int) : wide a true = wrap32 a := by
  simp only [wide, cond_true, wrap64, wrap32]; omega
theorem sh_sgn (x k : Int) (k0 : 0 < k) (k1 : k ≤ 31) : right (left x k) k true = sgn x (32 - k) := by
  unfold right sgn
  rw [wide_w, if_neg (by omega), if_neg (by omega), show (32 : Int) - (32 - k) = k from by omega]
  unfold left
  rw [show k % 32 = k from by omega]

theorem and1 (x : Int) (h0 : 0 ≤ x) (h1 : x < 4294967296) : bits .and .u32 x 1 = x % 2 := low_and x 1 (by decide) h0 h1

theorem halves (x : Int) (h0 : 0 ≤ x) (h1 : x < 4294967296) : (right x 1 true + right x 1 true + bits .and .u32 x 1) % 4294967296 = x := by
  rw [and1 x h0 h1]
  unfold right
  rw [wide_t x h0 h1]
  simp only [Int.reduceToNat, Int.reducePow, Int.reduceMod]
  split <;> omega

theorem half_sign (x : Int) (h0 : 0 ≤ x) (h1 : x < 4294967296) : less (right x 1 true) 0 true = less x 0 true := by
  have hr := right_lt x 1 true
  unfold less
  rw [wide_t _ hr.1 hr.2, wide_t x h0 h1, wide_t 0 (by decide) (by decide)]
  unfold right
  rw [wide_t x h0 h1]
  simp only [Int.reduceToNat, Int.reducePow, Int.reduceMod]
  rw [decide_eq_decide]
  by_cases hx : x < 2147483648
  · rw [if_pos hx]; split <;> simp <;> omega
  · rw [if_neg hx]; split <;> simp <;> omega
end Go.Proofs.Ytkcdkjmkgncihaa.W
