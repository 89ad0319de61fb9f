/- Laws of the plain mirrors: they come to what the document's own answers come to. -/
import Derived.Test.YtkcdkjmkgncihaaMath3
namespace Go.Proofs.Ytkcdkjmkgncihaa.W
open Go.RowKit
set_option linter.unusedVariables false

def low (a n : Int) : Int := a % 2 ^ n.toNat
theorem pow_sub_mod (n : Int) (h1 : 1 ≤ n) (h2 : n ≤ 31) : ((2 : Int) ^ n.toNat - 1) % 4294967296 = 2 ^ n.toNat - 1 := by
  have hp := Nat.pow_le_pow_right (n := 2) (by decide) (show n.toNat ≤ 31 by omega)
  have hq : 1 ≤ (2 : Nat) ^ n.toNat := Nat.one_le_two_pow
  have e2 : ((2 : Int) ^ n.toNat) = ((2 ^ n.toNat : Nat) : Int) := by simp
  rw [e2]; omega
theorem and_low (a n : Int) (a0 : 0 ≤ a) (a1 : a < 4294967296) (h1 : 1 ≤ n) (h2 : n ≤ 31) : bits .and .u32 a ((2 ^ n.toNat - 1) % 4294967296) = low a n := by
  rw [pow_sub_mod n h1 h2]; exact low_and a n.toNat (by omega) a0 a1
theorem xor_all (n : Int) (h1 : 1 ≤ n) (h2 : n ≤ 31) : bits .xor .u32 IntKind.u32.max ((2 ^ n.toNat - 1) % 4294967296) = 4294967296 - 2 ^ n.toNat := by
  rw [pow_sub_mod n h1 h2]
  rcases cases31 n (by omega) h2 with rfl | rfl | rfl | rfl | rfl | rfl | rfl | rfl | rfl | rfl | rfl | rfl | rfl | rfl | rfl | rfl | rfl | rfl | rfl | rfl | rfl | rfl | rfl | rfl | rfl | rfl | rfl | rfl | rfl | rfl | rfl | rfl
  all_goals first | (exfalso; omega) | decide
theorem or_join (x y : Int) (m : Nat) (x0 : 0 ≤ x) (x1 : x < 4294967296) (y0 : 0 ≤ y) (y1 : y < 2 ^ m) (hm : m ≤ 32) (hx : x % 2 ^ m = 0) : bits .or .u32 y x = x + y := by
  obtain ⟨a, rfl⟩ := Int.eq_ofNat_of_zero_le x0
  obtain ⟨b, rfl⟩ := Int.eq_ofNat_of_zero_le y0
  have hp := pow_le32 m hm
  have c : ((2 : Int) ^ m) = ((2 ^ m : Nat) : Int) := by simp
  rw [c] at y1 hx
  rw [u32_or_nat b a (by omega) (by omega), Nat.or_comm, nat_join m a b (by omega) (by omega)]
  omega
theorem ref_sgn1 (a n : Int) (a0 : 0 ≤ a) (a1 : a < 4294967296) (h1 : 1 ≤ n) (h2 : n ≤ 31) (hT : (low a n / 2 ^ (n.toNat - 1) == 1) = true) :
    bits .or .u32 (low a n) (bits .xor .u32 IntKind.u32.max ((2 ^ n.toNat - 1) % 4294967296)) = sgn a n := by
  rw [xor_all n h1 h2, sgn_sx a n a0 a1 h1 (by omega)]
  have hT' : low a n / 2 ^ (n.toNat - 1) = 1 := by simpa using hT
  have hm : (4294967296 - (2 : Int) ^ n.toNat) % 2 ^ n.toNat = 0 ∧ 0 ≤ 4294967296 - (2 : Int) ^ n.toNat ∧ 4294967296 - (2 : Int) ^ n.toNat < 4294967296 := by
    rcases cases31 n (by omega) h2 with rfl | rfl | rfl | rfl | rfl | rfl | rfl | rfl | rfl | rfl | rfl | rfl | rfl | rfl | rfl | rfl | rfl | rfl | rfl | rfl | rfl | rfl | rfl | rfl | rfl | rfl | rfl | rfl | rfl | rfl | rfl | rfl
    all_goals first | (exfalso; omega) | decide
  have hl : 0 ≤ low a n ∧ low a n < 2 ^ n.toNat := by
    have hq : (0 : Int) < 2 ^ n.toNat := Int.pow_pos (by decide)
    exact ⟨Int.emod_nonneg _ (by omega), Int.emod_lt_of_pos _ hq⟩
  rw [or_join _ _ n.toNat hm.2.1 hm.2.2 hl.1 hl.2 (by omega) hm.1]
  clear hm hl hT
  unfold low at *
  unfold sx
  rcases cases31 n (by omega) h2 with rfl | rfl | rfl | rfl | rfl | rfl | rfl | rfl | rfl | rfl | rfl | rfl | rfl | rfl | rfl | rfl | rfl | rfl | rfl | rfl | rfl | rfl | rfl | rfl | rfl | rfl | rfl | rfl | rfl | rfl | rfl | rfl
  all_goals simp only [Int.reduceToNat, Int.reducePow, Int.reduceSub, Nat.reduceSub] at *; omega
theorem ref_sgn0 (a n : Int) (a0 : 0 ≤ a) (a1 : a < 4294967296) (h1 : 1 ≤ n) (h2 : n ≤ 31) (hT : (low a n / 2 ^ (n.toNat - 1) == 1) = false) : low a n = sgn a n := by
  rw [sgn_sx a n a0 a1 h1 (by omega)]
  have hT' : ¬ low a n / 2 ^ (n.toNat - 1) = 1 := by simpa using hT
  clear hT
  unfold low at *
  unfold sx
  rcases cases31 n (by omega) h2 with rfl | rfl | rfl | rfl | rfl | rfl | rfl | rfl | rfl | rfl | rfl | rfl | rfl | rfl | rfl | rfl | rfl | rfl | rfl | rfl | rfl | rfl | rfl | rfl | rfl | rfl | rfl | rfl | rfl | rfl | rfl | rfl
  all_goals simp only [Int.reduceToNat, Int.reducePow, Int.reduceSub, Nat.reduceSub] at *; omega

theorem hi1 (z : Int) : IntKind.u64.wrap (wrap64 z) / 4294967296 % 4294967296 = z / 4294967296 % 4294967296 := by
  rw [u64_wrap]; unfold wrap64; omega
theorem hi2 (z : Int) : IntKind.u64.wrap z / 4294967296 % 4294967296 = z / 4294967296 % 4294967296 := by
  rw [u64_wrap]; omega
theorem wrap64_mod (z : Int) : wrap64 z % 4294967296 = z % 4294967296 := by unfold wrap64; omega
theorem wrap32_mod (z : Int) : wrap32 z % 4294967296 = z % 4294967296 := by unfold wrap32; omega
theorem div_f (a b : Int) (a0 : 0 ≤ a) (a1 : a < 4294967296) (b0 : 0 ≤ b) (b1 : b < 4294967296) (hb : ¬ b = 0) : a / b = div a b false := by
  rw [div, if_neg hb, wrap64_mod, wide_f a a0 a1, wide_f b b0 b1, Int.tdiv_eq_ediv_of_nonneg a0]
  have h1 := Int.ediv_nonneg a0 b0
  have h2 := Int.ediv_le_self b a0
  omega
theorem rem_f (a b : Int) (a0 : 0 ≤ a) (a1 : a < 4294967296) (b0 : 0 ≤ b) (b1 : b < 4294967296) (hb : ¬ b = 0) : a % b = rem a b false := by
  rw [rem, if_neg hb, wide_f a a0 a1, wide_f b b0 b1, Int.tmod_eq_emod_of_nonneg a0]
  have h1 := Int.emod_nonneg a hb
  have h2 := Int.emod_lt_of_pos a (show 0 < b by omega)
  omega
theorem wide_m1 : wide 4294967295 true = -1 := by kernel_rfl
theorem div_m1 (a : Int) : -a % 4294967296 = div a 4294967295 true := by
  rw [div, if_neg (by decide), wrap64_mod, wide_w, wide_m1, Int.tdiv_neg, Int.tdiv_one]
  unfold wrap32; omega
theorem rem_m1 (a : Int) : 0 = rem a 4294967295 true := by
  rw [rem, if_neg (by decide), wide_m1, Int.tmod_neg, Int.tmod_one]; rfl
theorem div_t (a b : Int) (hb : ¬ b = 0) : wrap32 ((wrap32 a).tdiv (wrap32 b)) % 4294967296 = div a b true := by
  rw [div, if_neg hb, wrap64_mod, wrap32_mod, wide_w, wide_w]
theorem rem_t (a b : Int) (hb : ¬ b = 0) : (wrap32 a).tmod (wrap32 b) % 4294967296 = rem a b true := by
  rw [rem, if_neg hb, wide_w, wide_w]
theorem wrap32_ne (b : Int) (b0 : 0 ≤ b) (b1 : b < 4294967296) (hb : ¬ b = 0) : ¬ wrap32 b = 0 := by unfold wrap32; omega
theorem right_t (a n : Int) : wrap32 a / 2 ^ (n % 32).toNat % 4294967296 = right a n true := by rw [right, wide_w]
theorem right_f (a n : Int) (a0 : 0 ≤ a) (a1 : a < 4294967296) : a / 2 ^ (n % 32).toNat = right a n false := by
  rw [right, wide_f a a0 a1]
  have hq : (0 : Int) < 2 ^ (n % 32).toNat := Int.pow_pos (by decide)
  have h1 := Int.ediv_nonneg a0 (show (0 : Int) ≤ 2 ^ (n % 32).toNat by omega)
  have h2 := Int.ediv_le_self (2 ^ (n % 32).toNat) a0
  omega
theorem bits_big (a lo n : Int) (a0 : 0 ≤ a) (a1 : a < 4294967296) (l0 : 0 ≤ lo) (l1 : lo ≤ 31) (h : 32 ≤ n) : a / 2 ^ lo.toNat = bitsOf a lo n := by
  rw [bitsOf_eq a lo n a0 a1 l0 l1 (by omega), show min n.toNat 32 = 32 from by omega]
  have hq : (0 : Int) < 2 ^ lo.toNat := Int.pow_pos (by decide)
  have h1 := Int.ediv_nonneg a0 (show (0 : Int) ≤ 2 ^ lo.toNat by omega)
  have h2 := Int.ediv_le_self (2 ^ lo.toNat) a0
  simp only [Int.reducePow]
  omega
theorem bits_small (a lo n : Int) (a0 : 0 ≤ a) (a1 : a < 4294967296) (l0 : 0 ≤ lo) (l1 : lo ≤ 31) (h1 : 1 ≤ n) (h2 : n < 32) :
    bits .and .u32 (a / 2 ^ lo.toNat) ((2 ^ n.toNat - 1) % 4294967296) = bitsOf a lo n := by
  have hq : (0 : Int) < 2 ^ lo.toNat := Int.pow_pos (by decide)
  have g1 := Int.ediv_nonneg a0 (show (0 : Int) ≤ 2 ^ lo.toNat by omega)
  have g2 := Int.ediv_le_self (2 ^ lo.toNat) a0
  rw [bitsOf_eq a lo n a0 a1 l0 l1 h1, and_low _ n g1 (by omega) h1 (by omega), low, show min n.toNat 32 = n.toNat from by omega]
end Go.Proofs.Ytkcdkjmkgncihaa.W
