/- Texts in one: Math3, Math4. -/
import Derived.Test.YtopehmpjfndgjaaJ02
/- Laws of the plain mirrors: quotients and rests, with signs and without; the upper half of a product, by halves. -/
namespace Go.Proofs.Ytopehmpjfndgjaa.W
open Go.RowKit
set_option linter.unusedVariables false

theorem u64_wrap (z : Int) : IntKind.u64.wrap z = z % 18446744073709551616 := by
  simp [IntKind.wrap, IntKind.bits, IntKind.signed]
theorem high_eq (a b : Int) (s t : Bool) : high a b s t = wide a s * wide b t / 4294967296 % 4294967296 := by
  unfold high
  generalize wide a s * wide b t = z
  rw [u64_wrap]
  unfold wrap64
  omega
/-- The middle, lower and upper sums of a product by halves. -/
def mid (a b : Int) : Int := (a / 65536 * (b % 65536) + a % 65536 * (b % 65536) % 4294967296 / 65536) % 4294967296
def lowp (a b : Int) : Int := (mid a b % 65536 + a % 65536 * (b / 65536)) % 4294967296
def highp (a b : Int) : Int := (a / 65536 * (b / 65536) + mid a b / 65536 + lowp a b / 65536) % 4294967296
theorem mid_lt (a b : Int) : 0 ≤ mid a b ∧ mid a b < 4294967296 := by unfold mid; omega
theorem mul_bound (x y : Int) (x0 : 0 ≤ x) (x1 : x ≤ 65535) (y0 : 0 ≤ y) (y1 : y ≤ 65535) : 0 ≤ x * y ∧ x * y ≤ 4294836225 := by
  refine ⟨Int.mul_nonneg x0 y0, ?_⟩
  have := Int.mul_le_mul x1 y1 y0 (by decide)
  omega
theorem high_halves (a b : Int) (a0 : 0 ≤ a) (a1 : a < 4294967296) (b0 : 0 ≤ b) (b1 : b < 4294967296) : a * b / 4294967296 = highp a b := by
  have ea : a = 65536 * (a / 65536) + a % 65536 := (Int.mul_ediv_add_emod a 65536).symm
  have eb : b = 65536 * (b / 65536) + b % 65536 := (Int.mul_ediv_add_emod b 65536).symm
  have hab : a * b = 4294967296 * (a / 65536 * (b / 65536)) + 65536 * (a / 65536 * (b % 65536)) + 65536 * (a % 65536 * (b / 65536)) + a % 65536 * (b % 65536) := by
    conv => lhs; rw [ea, eb]
    rw [Int.add_mul, Int.mul_add, Int.mul_add]
    have e1 : 65536 * (a / 65536) * (65536 * (b / 65536)) = 4294967296 * (a / 65536 * (b / 65536)) := by
      rw [Int.mul_assoc, Int.mul_left_comm (a / 65536), ← Int.mul_assoc 65536 65536]; rfl
    have e2 : 65536 * (a / 65536) * (b % 65536) = 65536 * (a / 65536 * (b % 65536)) := Int.mul_assoc _ _ _
    have e3 : a % 65536 * (65536 * (b / 65536)) = 65536 * (a % 65536 * (b / 65536)) := Int.mul_left_comm _ _ _
    rw [e1, e2, e3]
    omega
  have p := mul_bound (a / 65536) (b / 65536) (by omega) (by omega) (by omega) (by omega)
  have q := mul_bound (a / 65536) (b % 65536) (by omega) (by omega) (by omega) (by omega)
  have r := mul_bound (a % 65536) (b / 65536) (by omega) (by omega) (by omega) (by omega)
  have s := mul_bound (a % 65536) (b % 65536) (by omega) (by omega) (by omega) (by omega)
  rw [hab]
  unfold highp lowp mid
  generalize a / 65536 * (b / 65536) = P at *
  generalize a / 65536 * (b % 65536) = Q at *
  generalize a % 65536 * (b / 65536) = R at *
  generalize a % 65536 * (b % 65536) = S at *
  omega
theorem high_ff (a b : Int) (a0 : 0 ≤ a) (a1 : a < 4294967296) (b0 : 0 ≤ b) (b1 : b < 4294967296) : high a b false false = highp a b := by
  rw [high_eq, wide_f a a0 a1, wide_f b b0 b1, high_halves a b a0 a1 b0 b1]
  unfold highp; omega
theorem less_zero (a : Int) (a0 : 0 ≤ a) (a1 : a < 4294967296) : less a 0 true = decide (2147483648 ≤ a) := by
  unfold less
  rw [wide_w, wide_w, decide_eq_decide]
  unfold wrap32
  omega
theorem high_tf (a b : Int) (a0 : 0 ≤ a) (a1 : a < 4294967296) (b0 : 0 ≤ b) (b1 : b < 4294967296) :
    high a b true false = if 2147483648 ≤ a then (highp a b - b) % 4294967296 else highp a b := by
  rw [high_eq, wide_f b b0 b1, wide_t a a0 a1, ← high_halves a b a0 a1 b0 b1]
  by_cases h : 2147483648 ≤ a
  · rw [if_pos h, if_neg (by omega), Int.sub_mul]
    generalize a * b = z
    omega
  · rw [if_neg h, if_pos (by omega)]
    have := high_halves a b a0 a1 b0 b1
    have hl : 0 ≤ highp a b ∧ highp a b < 4294967296 := by unfold highp; omega
    rw [this]; omega
theorem high_tt (a b : Int) (a0 : 0 ≤ a) (a1 : a < 4294967296) (b0 : 0 ≤ b) (b1 : b < 4294967296) :
    high a b true true = ((if 2147483648 ≤ a then highp a b - b else highp a b) - (if 2147483648 ≤ b then a else 0)) % 4294967296 := by
  rw [high_eq, wide_t b b0 b1, wide_t a a0 a1, ← high_halves a b a0 a1 b0 b1]
  by_cases h : 2147483648 ≤ a
  · by_cases k : 2147483648 ≤ b
    · rw [if_pos h, if_pos k, if_neg (by omega), if_neg (by omega), Int.sub_mul, Int.mul_sub, Int.mul_sub]
      generalize a * b = z
      omega
    · rw [if_pos h, if_neg k, if_neg (by omega), if_pos (by omega), Int.sub_mul]
      generalize a * b = z
      omega
  · by_cases k : 2147483648 ≤ b
    · rw [if_neg h, if_pos k, if_pos (by omega), if_neg (by omega), Int.mul_sub]
      generalize a * b = z
      omega
    · rw [if_neg h, if_neg k, if_pos (by omega), if_pos (by omega)]
      generalize a * b = z
      omega

theorem mod_mix (x b y : Int) : (x % 4294967296 * b + y % 4294967296) % 4294967296 = (x * b + y) % 4294967296 := by
  rw [Int.add_emod, Int.mul_emod, Int.emod_emod, Int.emod_emod, ← Int.mul_emod, ← Int.add_emod]
theorem mod_arg (x b c y : Int) (h : b % 4294967296 = c % 4294967296) : (x * b + y) % 4294967296 = (x * c + y) % 4294967296 := by
  rw [Int.add_emod, Int.mul_emod, h, ← Int.mul_emod, ← Int.add_emod]
theorem wide_bd (a : Int) (s : Bool) (a0 : 0 ≤ a) (a1 : a < 4294967296) : -2147483648 ≤ wide a s ∧ wide a s < 4294967296 ∧ wide a s % 4294967296 = a := by
  cases s
  · rw [wide_f a a0 a1]; omega
  · rw [wide_t a a0 a1]; split <;> omega
theorem tdiv_bd (x y : Int) (h : -2147483648 ≤ x ∧ x < 4294967296) : -4294967296 ≤ x.tdiv y ∧ x.tdiv y ≤ 4294967296 := by
  have := Int.natAbs_tdiv_le_natAbs x y
  omega
theorem div_rem (a b : Int) (s : Bool) (a0 : 0 ≤ a) (a1 : a < 4294967296) (b0 : 0 ≤ b) (b1 : b < 4294967296) (hb : ¬ b = 0) :
    (div a b s * b + rem a b s) % 4294967296 = a := by
  have ha := wide_bd a s a0 a1
  have hc := wide_bd b s b0 b1
  have ht := tdiv_bd (wide a s) (wide b s) ⟨ha.1, ha.2.1⟩
  rw [div, rem, if_neg hb, if_neg hb, IntWalk.wrap64_in _ ⟨by omega, by omega⟩, mod_mix, mod_arg _ b (wide b s) _ (by omega), Int.tdiv_mul_add_tmod]
  exact ha.2.2
theorem rem_lt (a b : Int) (a0 : 0 ≤ a) (a1 : a < 4294967296) (b0 : 0 ≤ b) (b1 : b < 4294967296) (hb : ¬ b = 0) : rem a b false < b := by
  rw [rem, if_neg hb, wide_f a a0 a1, wide_f b b0 b1, Int.tmod_eq_emod_of_nonneg a0]
  have h1 := Int.emod_nonneg a hb
  have h2 := Int.emod_lt_of_pos a (show 0 < b by omega)
  omega
theorem tmod_sign (x y : Int) : (0 ≤ x → 0 ≤ x.tmod y) ∧ (x ≤ 0 → x.tmod y ≤ 0) := by
  refine ⟨fun h => Int.tmod_nonneg y h, fun h => ?_⟩
  have := Int.tmod_nonneg y (show 0 ≤ -x by omega)
  rw [Int.neg_tmod] at this
  omega
theorem rem_sign (a b : Int) (a0 : 0 ≤ a) (a1 : a < 4294967296) (b0 : 0 ≤ b) (b1 : b < 4294967296) (hb : ¬ b = 0) (hr : ¬ rem a b true = 0) :
    less (rem a b true) 0 true = less a 0 true := by
  have hs := tmod_sign (wide a true) (wide b true)
  have hn : ((wide a true).tmod (wide b true)).natAbs ≤ (wide a true).natAbs := by
    rw [Int.natAbs_tmod]; exact Nat.mod_le _ _
  have er : rem a b true = (wide a true).tmod (wide b true) % 4294967296 := by rw [rem, if_neg hb]
  rw [er] at hr
  rw [er, less_zero _ (by omega) (by omega), less_zero a a0 a1, decide_eq_decide]
  rw [wide_t a a0 a1] at *
  generalize (if a < 2147483648 then a else a - 4294967296).tmod (wide b true) = z at *
  split at hs <;> omega
end Go.Proofs.Ytopehmpjfndgjaa.W

/- Laws of the plain mirrors: they come to what the document's own answers come to. -/
namespace Go.Proofs.Ytopehmpjfndgjaa.W
open Go.RowKit
set_option linter.unusedVariables false

def low (a n : Int) : Int := a % 2 ^ n.toNat
theorem pow_sub_mod (n : Int) (h1 : 1 ≤ n) (h2 : n ≤ 31) : ((2 : Int) ^ n.toNat - 1) % 4294967296 = 2 ^ n.toNat - 1 := by
  have hp := Nat.pow_le_pow_right (n := 2) (by decide) (show n.toNat ≤ 31 by omega)
  have hq : 1 ≤ (2 : Nat) ^ n.toNat := Nat.one_le_two_pow
  have e2 : ((2 : Int) ^ n.toNat) = ((2 ^ n.toNat : Nat) : Int) := by simp
  rw [e2]; omega
theorem and_low (a n : Int) (a0 : 0 ≤ a) (a1 : a < 4294967296) (h1 : 1 ≤ n) (h2 : n ≤ 31) : bits .and .u32 a ((2 ^ n.toNat - 1) % 4294967296) = low a n := by
  rw [pow_sub_mod n h1 h2]; exact low_and a n.toNat (by omega) a0 a1
theorem xor_all (n : Int) (h1 : 1 ≤ n) (h2 : n ≤ 31) : bits .xor .u32 IntKind.u32.max ((2 ^ n.toNat - 1) % 4294967296) = 4294967296 - 2 ^ n.toNat := by
  rw [pow_sub_mod n h1 h2]
  rcases cases31 n (by omega) h2 with rfl | rfl | rfl | rfl | rfl | rfl | rfl | rfl | rfl | rfl | rfl | rfl | rfl | rfl | rfl | rfl | rfl | rfl | rfl | rfl | rfl | rfl | rfl | rfl | rfl | rfl | rfl | rfl | rfl | rfl | rfl | rfl
  all_goals first | (exfalso; omega) | decide
theorem or_join (x y : Int) (m : Nat) (x0 : 0 ≤ x) (x1 : x < 4294967296) (y0 : 0 ≤ y) (y1 : y < 2 ^ m) (hm : m ≤ 32) (hx : x % 2 ^ m = 0) : bits .or .u32 y x = x + y := by
  obtain ⟨a, rfl⟩ := Int.eq_ofNat_of_zero_le x0
  obtain ⟨b, rfl⟩ := Int.eq_ofNat_of_zero_le y0
  have hp := pow_le32 m hm
  have c : ((2 : Int) ^ m) = ((2 ^ m : Nat) : Int) := by simp
  rw [c] at y1 hx
  rw [u32_or_nat b a (by omega) (by omega), Nat.or_comm, nat_join m a b (by omega) (by omega)]
  omega
theorem ref_sgn1 (a n : Int) (a0 : 0 ≤ a) (a1 : a < 4294967296) (h1 : 1 ≤ n) (h2 : n ≤ 31) (hT : (low a n / 2 ^ (n.toNat - 1) == 1) = true) :
    bits .or .u32 (low a n) (bits .xor .u32 IntKind.u32.max ((2 ^ n.toNat - 1) % 4294967296)) = sgn a n := by
  rw [xor_all n h1 h2, sgn_sx a n a0 a1 h1 (by omega)]
  have hT' : low a n / 2 ^ (n.toNat - 1) = 1 := by simpa using hT
  have hm : (4294967296 - (2 : Int) ^ n.toNat) % 2 ^ n.toNat = 0 ∧ 0 ≤ 4294967296 - (2 : Int) ^ n.toNat ∧ 4294967296 - (2 : Int) ^ n.toNat < 4294967296 := by
    rcases cases31 n (by omega) h2 with rfl | rfl | rfl | rfl | rfl | rfl | rfl | rfl | rfl | rfl | rfl | rfl | rfl | rfl | rfl | rfl | rfl | rfl | rfl | rfl | rfl | rfl | rfl | rfl | rfl | rfl | rfl | rfl | rfl | rfl | rfl | rfl
    all_goals first | (exfalso; omega) | decide
  have hl : 0 ≤ low a n ∧ low a n < 2 ^ n.toNat := by
    have hq : (0 : Int) < 2 ^ n.toNat := Int.pow_pos (by decide)
    exact ⟨Int.emod_nonneg _ (by omega), Int.emod_lt_of_pos _ hq⟩
  rw [or_join _ _ n.toNat hm.2.1 hm.2.2 hl.1 hl.2 (by omega) hm.1]
  clear hm hl hT
  unfold low at *
  unfold sx
  rcases cases31 n (by omega) h2 with rfl | rfl | rfl | rfl | rfl | rfl | rfl | rfl | rfl | rfl | rfl | rfl | rfl | rfl | rfl | rfl | rfl | rfl | rfl | rfl | rfl | rfl | rfl | rfl | rfl | rfl | rfl | rfl | rfl | rfl | rfl | rfl
  all_goals simp only [Int.reduceToNat, Int.reducePow, Int.reduceSub, Nat.reduceSub] at *; omega
theorem ref_sgn0 (a n : Int) (a0 : 0 ≤ a) (a1 : a < 4294967296) (h1 : 1 ≤ n) (h2 : n ≤ 31) (hT : (low a n / 2 ^ (n.toNat - 1) == 1) = false) : low a n = sgn a n := by
  rw [sgn_sx a n a0 a1 h1 (by omega)]
  have hT' : ¬ low a n / 2 ^ (n.toNat - 1) = 1 := by simpa using hT
  clear hT
  unfold low at *
  unfold sx
  rcases cases31 n (by omega) h2 with rfl | rfl | rfl | rfl | rfl | rfl | rfl | rfl | rfl | rfl | rfl | rfl | rfl | rfl | rfl | rfl | rfl | rfl | rfl | rfl | rfl | rfl | rfl | rfl | rfl | rfl | rfl | rfl | rfl | rfl | rfl | rfl
  all_goals simp only [Int.reduceToNat, Int.reducePow, Int.reduceSub, Nat.reduceSub] at *; omega

theorem hi1 (z : Int) : IntKind.u64.wrap (wrap64 z) / 4294967296 % 4294967296 = z / 4294967296 % 4294967296 := by
  rw [u64_wrap]; unfold wrap64; omega
theorem hi2 (z : Int) : IntKind.u64.wrap z / 4294967296 % 4294967296 = z / 4294967296 % 4294967296 := by
  rw [u64_wrap]; omega
theorem wrap64_mod (z : Int) : wrap64 z % 4294967296 = z % 4294967296 := by unfold wrap64; omega
theorem wrap32_mod (z : Int) : wrap32 z % 4294967296 = z % 4294967296 := by unfold wrap32; omega
theorem div_f (a b : Int) (a0 : 0 ≤ a) (a1 : a < 4294967296) (b0 : 0 ≤ b) (b1 : b < 4294967296) (hb : ¬ b = 0) : a / b = div a b false := by
  rw [div, if_neg hb, wrap64_mod, wide_f a a0 a1, wide_f b b0 b1, Int.tdiv_eq_ediv_of_nonneg a0]
  have h1 := Int.ediv_nonneg a0 b0
  have h2 := Int.ediv_le_self b a0
  omega
theorem rem_f (a b : Int) (a0 : 0 ≤ a) (a1 : a < 4294967296) (b0 : 0 ≤ b) (b1 : b < 4294967296) (hb : ¬ b = 0) : a % b = rem a b false := by
  rw [rem, if_neg hb, wide_f a a0 a1, wide_f b b0 b1, Int.tmod_eq_emod_of_nonneg a0]
  have h1 := Int.emod_nonneg a hb
  have h2 := Int.emod_lt_of_pos a (show 0 < b by omega)
  omega
theorem wide_m1 : wide 4294967295 true = -1 := by kernel_rfl
theorem div_m1 (a : Int) : -a % 4294967296 = div a 4294967295 true := by
  rw [div, if_neg (by decide), wrap64_mod, wide_w, wide_m1, Int.tdiv_neg, Int.tdiv_one]
  unfold wrap32; omega
theorem rem_m1 (a : Int) : 0 = rem a 4294967295 true := by
  rw [rem, if_neg (by decide), wide_m1, Int.tmod_neg, Int.tmod_one]; rfl
theorem div_t (a b : Int) (hb : ¬ b = 0) : wrap32 ((wrap32 a).tdiv (wrap32 b)) % 4294967296 = div a b true := by
  rw [div, if_neg hb, wrap64_mod, wrap32_mod, wide_w, wide_w]
theorem rem_t (a b : Int) (hb : ¬ b = 0) : (wrap32 a).tmod (wrap32 b) % 4294967296 = rem a b true := by
  rw [rem, if_neg hb, wide_w, wide_w]
theorem wrap32_ne (b : Int) (b0 : 0 ≤ b) (b1 : b < 4294967296) (hb : ¬ b = 0) : ¬ wrap32 b = 0 := by unfold wrap32; omega
theorem right_t (a n : Int) : wrap32 a / 2 ^ (n % 32).toNat % 4294967296 = right a n true := by rw [right, wide_w]
theorem right_f (a n : Int) (a0 : 0 ≤ a) (a1 : a < 4294967296) : a / 2 ^ (n % 32).toNat = right a n false := by
  rw [right, wide_f a a0 a1]
  have hq : (0 : Int) < 2 ^ (n % 32).toNat := Int.pow_pos (by decide)
  have h1 := Int.ediv_nonneg a0 (show (0 : Int) ≤ 2 ^ (n % 32).toNat by omega)
  have h2 := Int.ediv_le_self (2 ^ (n % 32).toNat) a0
  omega
theorem bits_big (a lo n : Int) (a0 : 0 ≤ a) (a1 : a < 4294967296) (l0 : 0 ≤ lo) (l1 : lo ≤ 31) (h : 32 ≤ n) : a / 2 ^ lo.toNat = bitsOf a lo n := by
  rw [bitsOf_eq a lo n a0 a1 l0 l1 (by omega), show min n.toNat 32 = 32 from by omega]
  have hq : (0 : Int) < 2 ^ lo.toNat := Int.pow_pos (by decide)
  have h1 := Int.ediv_nonneg a0 (show (0 : Int) ≤ 2 ^ lo.toNat by omega)
  have h2 := Int.ediv_le_self (2 ^ lo.toNat) a0
  simp only [Int.reducePow]
  omega
theorem bits_small (a lo n : Int) (a0 : 0 ≤ a) (a1 : a < 4294967296) (l0 : 0 ≤ lo) (l1 : lo ≤ 31) (h1 : 1 ≤ n) (h2 : n < 32) :
    bits .and .u32 (a / 2 ^ lo.toNat) ((2 ^ n.toNat - 1) % 4294967296) = bitsOf a lo n := by
  have hq : (0 : Int) < 2 ^ lo.toNat := Int.pow_pos (by decide)
  have g1 := Int.ediv_nonneg a0 (show (0 : Int) ≤ 2 ^ lo.toNat by omega)
  have g2 := Int.ediv_le_self (2 ^ lo.toNat) a0
  rw [bitsOf_eq a lo n a0 a1 l0 l1 h1, and_low _ n g1 (by omega) h1 (by omega), low, show min n.toNat 32 = n.toNat from by omega]
end Go.Proofs.Ytopehmpjfndgjaa.W
