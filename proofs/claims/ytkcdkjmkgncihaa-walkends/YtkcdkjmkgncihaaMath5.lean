/- Laws of the plain mirrors: a word is its bits packed again; a part of a part is a part; a part by shifts. -/
import Derived.Test.YtkcdkjmkgncihaaMath4
namespace Go.Proofs.Ytkcdkjmkgncihaa.W
open Go.RowKit
set_option linter.unusedVariables false

theorem part_nat (x l n a k : Nat) (h : a + k ≤ n) : x / 2 ^ l % 2 ^ n / 2 ^ a % 2 ^ k = x / 2 ^ (l + a) % 2 ^ k := by
  apply Nat.eq_of_testBit_eq
  intro i
  simp only [Nat.testBit_mod_two_pow, Nat.testBit_div_two_pow]
  by_cases hi : i < k
  · have h2 : i + a < n := by omega
    rw [show i + a + l = i + (l + a) from by omega]
    simp [hi, h2]
  · simp [hi]
theorem shift_nat (x l n : Nat) (hn : 1 ≤ n) (h : l + n ≤ 32) : x * 2 ^ (32 - l - n) % 2 ^ 32 / 2 ^ (32 - n) = x / 2 ^ l % 2 ^ n := by
  apply Nat.eq_of_testBit_eq
  intro i
  simp only [Nat.testBit_mod_two_pow, Nat.testBit_div_two_pow, Nat.testBit_mul_two_pow]
  by_cases hi : i < n
  · have h1 : i + (32 - n) < 32 := by omega
    have h2 : 32 - l - n ≤ i + (32 - n) := by omega
    rw [show i + (32 - n) - (32 - l - n) = i + l from by omega]
    simp [hi, h1, h2]
  · have h1 : ¬ i + (32 - n) < 32 := by omega
    simp [hi, h1]
theorem part_part (x l n a k : Int) (x0 : 0 ≤ x) (x1 : x < 4294967296) (l0 : 0 ≤ l) (a0 : 0 ≤ a) (hla : l + a ≤ 31) (k1 : 1 ≤ k) (h : a + k ≤ n) (hn : n ≤ 32) :
    bitsOf (bitsOf x l n) a k = bitsOf x (l + a) k := by
  have hb : 0 ≤ bitsOf x l n ∧ bitsOf x l n < 4294967296 := by
    rw [bitsOf_eq x l n x0 x1 l0 (by omega) (by omega)]
    have hp := pow_le32 (min n.toNat 32) (by omega)
    have hq : (0 : Int) < 2 ^ (min n.toNat 32) := Int.pow_pos (by decide)
    have c : ((2 : Int) ^ (min n.toNat 32)) = ((2 ^ (min n.toNat 32) : Nat) : Int) := by simp
    refine ⟨Int.emod_nonneg _ (by omega), ?_⟩
    have := Int.emod_lt_of_pos (x / 2 ^ l.toNat) hq
    omega
  rw [bitsOf_eq _ a k hb.1 hb.2 a0 (by omega) k1, bitsOf_eq x l n x0 x1 l0 (by omega) (by omega), bitsOf_eq x (l + a) k x0 x1 (by omega) (by omega) k1]
  obtain ⟨X, rfl⟩ := Int.eq_ofNat_of_zero_le x0
  obtain ⟨L, rfl⟩ := Int.eq_ofNat_of_zero_le l0
  obtain ⟨A, rfl⟩ := Int.eq_ofNat_of_zero_le a0
  obtain ⟨K, rfl⟩ := Int.eq_ofNat_of_zero_le (show 0 ≤ k by omega)
  obtain ⟨M, rfl⟩ := Int.eq_ofNat_of_zero_le (show 0 ≤ n by omega)
  have e := part_nat X L M A K (by omega)
  simp only [Int.toNat_natCast]
  rw [show min M 32 = M from by omega, show min K 32 = K from by omega, show ((L : Int) + (A : Int)).toNat = L + A from by omega]
  have := congrArg (Nat.cast : Nat → Int) e
  simpa using this
theorem bits_shift (x l n : Int) (x0 : 0 ≤ x) (x1 : x < 4294967296) (l0 : 0 ≤ l) (n0 : 1 ≤ n) (h : l + n ≤ 32) (h2 : 1 ≤ l + n) (hn : n ≤ 31) :
    bitsOf x l n = right (left x (32 - l - n)) (32 - n) false := by
  by_cases hz : l = 0 ∧ n = 0
  · omega
  · have hl := left_lt x (32 - l - n)
    rw [bitsOf_eq x l n x0 x1 l0 (by omega) n0]
    unfold right
    rw [wide_f _ hl.1 hl.2]
    unfold left
    rw [show (32 - l - n) % 32 = 32 - l - n from by omega, show (32 - n) % 32 = 32 - n from by omega]
    obtain ⟨X, rfl⟩ := Int.eq_ofNat_of_zero_le x0
    obtain ⟨L, rfl⟩ := Int.eq_ofNat_of_zero_le l0
    obtain ⟨M, rfl⟩ := Int.eq_ofNat_of_zero_le (show 0 ≤ n by omega)
    have e := shift_nat X L M (by omega) (by omega)
    have e' := congrArg (Nat.cast : Nat → Int) e
    simp only [Int.toNat_natCast]
    rw [show min M 32 = M from by omega, show (32 - (L : Int) - (M : Int)).toNat = 32 - L - M from by omega, show (32 - (M : Int)).toNat = 32 - M from by omega]
    have e2 : (X : Int) * 2 ^ (32 - L - M) % 4294967296 / 2 ^ (32 - M) = (X : Int) / 2 ^ L % 2 ^ M := by simpa using e'
    rw [e2]
    have hp := pow_le32 M (by omega)
    have hq : (0 : Int) < 2 ^ M := Int.pow_pos (by decide)
    have c : ((2 : Int) ^ M) = ((2 ^ M : Nat) : Int) := by simp
    have g1 := Int.emod_lt_of_pos ((X : Int) / 2 ^ L) hq
    have g2 := Int.emod_nonneg ((X : Int) / 2 ^ L) (show ((2 : Int) ^ M) ≠ 0 by omega)
    omega

/-- A word's bits as fields, the highest first. -/
def bL (j : Nat) : Int := 31 - j
def bN (_ : Nat) : Int := 1
def bV (x : Int) (j : Nat) : Int := bitsOf x (31 - j) 1
def bcells (x : Int) : Nat → List Value
  | 0 => []
  | k + 1 => bcells x k ++ [.int .i64 (31 - k), .int .i64 1, .int .u32 (bitsOf x (31 - k) 1)]
theorem bcells_length (x : Int) (k : Nat) : (bcells x k).length = k * 3 := by
  induction k with
  | zero => rfl
  | succ k ih => rw [bcells, List.length_append, ih]; simp; omega
theorem bcells_get (x : Int) (k j : Nat) (h : j < k) : (bcells x k)[j * 3]? = some (.int .i64 (bL j)) ∧ (bcells x k)[j * 3 + 1]? = some (.int .i64 (bN j)) ∧ (bcells x k)[j * 3 + 2]? = some (.int .u32 (bV x j)) := by
  induction k with
  | zero => omega
  | succ k ih =>
    have hl := bcells_length x k
    rw [bcells]
    by_cases hj : j < k
    · have := ih hj
      rw [List.getElem?_append_left (by omega), List.getElem?_append_left (by omega), List.getElem?_append_left (by omega)]
      exact this
    · have : j = k := by omega
      subst this
      rw [List.getElem?_append_right (by omega), List.getElem?_append_right (by omega), List.getElem?_append_right (by omega), hl]
      simp [bL, bN, bV]
theorem bpack (x : Int) (x0 : 0 ≤ x) (x1 : x < 4294967296) (k : Nat) (hk : k ≤ 32) : pack bL bN (bV x) k = x / 2 ^ (32 - k) * 2 ^ (32 - k) := by
  induction k with
  | zero => simp only [pack, Nat.sub_zero]; omega
  | succ k ih =>
    have hw : within (bL k) (bN k) = true := by
      have h3 : 0 ≤ bL k ∧ bL k ≤ 31 ∧ 1 ≤ bN k := by unfold bL bN; omega
      simp [within, h3]
    rw [pack, hw, cond_true, ih (by omega)]
    have hb := bitsOf_eq x (31 - k) 1 x0 x1 (by omega) (by omega) (by omega)
    have hv : bV x k = x / 2 ^ (31 - k) % 2 := by
      unfold bV; rw [hb, show ((31 : Int) - (k : Int)).toNat = 31 - k from by omega]; simp
    have hv2 : 0 ≤ bV x k ∧ bV x k < 2 := by rw [hv]; omega
    have hpl : place (bV x k) (bL k) (bN k) = bV x k * 2 ^ (31 - k) := by
      unfold place
      rw [show lowest (bN k) = 1 from by kernel_rfl, and1 _ hv2.1 (by omega), show (bL k).toNat = 31 - k from by unfold bL; omega, show bV x k % 2 = bV x k from by omega]
      have hp := Nat.pow_le_pow_right (n := 2) (by decide) (show 31 - k ≤ 31 by omega)
      have c : ((2 : Int) ^ (31 - k)) = ((2 ^ (31 - k) : Nat) : Int) := by simp
      have hq : (0 : Int) ≤ 2 ^ (31 - k) := Int.pow_nonneg (by decide)
      rcases (show bV x k = 0 ∨ bV x k = 1 from by omega) with h | h
      · rw [h]; simp
      · rw [h]; omega
    rw [hpl, hv]
    have em : 32 - k = (31 - k) + 1 := by omega
    rw [show 32 - (k + 1) = 31 - k from by omega, em]
    generalize hm : 31 - k = m
    have hm31 : m ≤ 31 := by omega
    have hp := Nat.pow_le_pow_right (n := 2) (by decide) hm31
    have c : ((2 : Int) ^ m) = ((2 ^ m : Nat) : Int) := by simp
    have hq : (0 : Int) < 2 ^ m := Int.pow_pos (by decide)
    have hp2 : (2 : Int) ^ m ≤ 2147483648 := by omega
    have ep : (2 : Int) ^ (m + 1) = 2 ^ m * 2 := Int.pow_succ 2 m
    have hd : x / 2 ^ (m + 1) = x / 2 ^ m / 2 := by rw [ep, Int.ediv_ediv_of_nonneg (by omega)]
    have hx := Int.mul_ediv_add_emod x (2 ^ m)
    have hx2 := Int.emod_nonneg x (show ((2 : Int) ^ m) ≠ 0 by omega)
    have hy0 : 0 ≤ x / 2 ^ m := Int.ediv_nonneg x0 (by omega)
    have hmul : x / 2 ^ m * 2 ^ m ≤ x := by rw [Int.mul_comm]; omega
    have hsum : x / 2 ^ (m + 1) * 2 ^ (m + 1) + x / 2 ^ m % 2 * 2 ^ m = x / 2 ^ m * 2 ^ m := by
      rw [hd, ep, ← Int.mul_assoc, Int.mul_right_comm, ← Int.add_mul]
      congr 1
      omega
    have hle : x / 2 ^ m % 2 * 2 ^ m ≤ 2 ^ m ∧ 0 ≤ x / 2 ^ m % 2 * 2 ^ m := by
      rcases (show x / 2 ^ m % 2 = 0 ∨ x / 2 ^ m % 2 = 1 from by omega) with h | h
      · rw [h]; omega
      · rw [h]; omega
    have hz0 : 0 ≤ x / 2 ^ (m + 1) * 2 ^ (m + 1) := Int.mul_nonneg (by rw [hd]; omega) (by rw [ep]; omega)
    rw [← hsum]
    have := or_join (x / 2 ^ (m + 1) * 2 ^ (m + 1)) (x / 2 ^ m % 2 * 2 ^ m) (m + 1) hz0 (by omega) hle.2 (by rw [ep]; omega) (by omega) (Int.mul_emod_left _ _)
    rw [← this]
    obtain ⟨P, hP⟩ := Int.eq_ofNat_of_zero_le hz0
    obtain ⟨Q, hQ⟩ := Int.eq_ofNat_of_zero_le hle.2
    rw [hP, hQ, u32_or_nat P Q (by omega) (by omega), u32_or_nat Q P (by omega) (by omega), Nat.or_comm]
theorem bpack_all (x : Int) (x0 : 0 ≤ x) (x1 : x < 4294967296) : pack bL bN (bV x) 32 = x := by
  rw [bpack x x0 x1 32 (Nat.le_refl _)]; simp
end Go.Proofs.Ytkcdkjmkgncihaa.W
