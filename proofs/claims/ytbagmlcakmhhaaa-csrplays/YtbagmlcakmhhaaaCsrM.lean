/- Masks as sums: what package csr keeps of a word. -/
import Derived.Test.YtbagmlcakmhhaaaCsrP
import Derived.Test.YtbagmlcakmhhaaaMath
namespace Go.Proofs.Ytbagmlcakmhhaaa.W
open Go.RowKit
set_option linter.unusedVariables false

theorem nat_field (a k n : Nat) : a &&& ((2 ^ n - 1) <<< k) = (a / 2 ^ k % 2 ^ n) * 2 ^ k := by
  rw [← Nat.shiftLeft_eq]
  apply Nat.eq_of_testBit_eq
  intro i
  rw [Nat.testBit_and, Nat.testBit_shiftLeft, Nat.testBit_shiftLeft, Nat.testBit_two_pow_sub_one, Nat.testBit_mod_two_pow, ← Nat.shiftRight_eq_div_pow, Nat.testBit_shiftRight]
  by_cases h : k ≤ i
  · rw [show k + (i - k) = i by omega]
    cases a.testBit i <;> simp [h]
  · simp [h]
theorem nat_two (a m1 m2 : Nat) (i : Nat) (h1 : (a &&& m1) % 2 ^ i = 0) (h2 : m2 < 2 ^ i) : a &&& (m1 ||| m2) = (a &&& m1) + (a &&& m2) := by
  rw [Nat.and_or_distrib_left]
  exact nat_join i _ _ h1 (Nat.lt_of_le_of_lt Nat.and_le_right h2)

theorem and_8 (v : Int) (v0 : 0 ≤ v) (v1 : v < 4294967296) : bits .and .u32 v 8 = v / 8 % 2 * 8 := by
  rw [u32_and v 8 v0 v1 (by decide) (by decide)]
  have := nat_field v.toNat 3 1
  simp only [show ((2 : Nat) ^ 1 - 1) <<< 3 = 8 from rfl, show (2 : Nat) ^ 3 = 8 from rfl, show (2 : Nat) ^ 1 = 2 from rfl] at this
  rw [show (8 : Int).toNat = 8 from rfl, this]
  omega
theorem and_1800 (v : Int) (v0 : 0 ≤ v) (v1 : v < 4294967296) : bits .and .u32 v 6144 = v / 2048 % 4 * 2048 := by
  rw [u32_and v 6144 v0 v1 (by decide) (by decide)]
  have := nat_field v.toNat 11 2
  simp only [show ((2 : Nat) ^ 2 - 1) <<< 11 = 6144 from rfl, show (2 : Nat) ^ 11 = 2048 from rfl, show (2 : Nat) ^ 2 = 4 from rfl] at this
  rw [show (6144 : Int).toNat = 6144 from rfl, this]
  omega
theorem and_80 (v : Int) (v0 : 0 ≤ v) (v1 : v < 4294967296) : bits .and .u32 v 128 = v / 128 % 2 * 128 := by
  rw [u32_and v 128 v0 v1 (by decide) (by decide)]
  have := nat_field v.toNat 7 1
  simp only [show ((2 : Nat) ^ 1 - 1) <<< 7 = 128 from rfl, show (2 : Nat) ^ 7 = 128 from rfl, show (2 : Nat) ^ 1 = 2 from rfl] at this
  rw [show (128 : Int).toNat = 128 from rfl, this]
  omega
theorem and_88 (v : Int) (v0 : 0 ≤ v) (v1 : v < 4294967296) : bits .and .u32 v 136 = v / 128 % 2 * 128 + v / 8 % 2 * 8 := by
  rw [u32_and v 136 v0 v1 (by decide) (by decide)]
  have e1 := nat_field v.toNat 7 1
  have e2 := nat_field v.toNat 3 1
  simp only [show ((2 : Nat) ^ 1 - 1) <<< 7 = 128 from rfl, show (2 : Nat) ^ 7 = 128 from rfl, show ((2 : Nat) ^ 1 - 1) <<< 3 = 8 from rfl, show (2 : Nat) ^ 3 = 8 from rfl, show (2 : Nat) ^ 1 = 2 from rfl] at e1 e2
  have e3 := nat_two v.toNat 128 8 7 (by rw [e1]; omega) (by decide)
  rw [show (136 : Int).toNat = 128 ||| 8 from rfl, e3, e1, e2]
  omega
theorem and_satp (v : Int) (v0 : 0 ≤ v) (v1 : v < 4294967296) : bits .and .u32 v 2151677951 = v / 2147483648 * 2147483648 + v % 4194304 := by
  rw [u32_and v 2151677951 v0 v1 (by decide) (by decide)]
  have e1 := nat_field v.toNat 31 1
  have e2 := Nat.and_two_pow_sub_one_eq_mod v.toNat 22
  simp only [show ((2 : Nat) ^ 1 - 1) <<< 31 = 2147483648 from rfl, show (2 : Nat) ^ 31 = 2147483648 from rfl, show (2 : Nat) ^ 22 - 1 = 4194303 from rfl, show (2 : Nat) ^ 22 = 4194304 from rfl, show (2 : Nat) ^ 1 = 2 from rfl] at e1 e2
  have e3 := nat_two v.toNat 2147483648 4194303 31 (by rw [e1]; omega) (by decide)
  rw [show (2151677951 : Int).toNat = 2147483648 ||| 4194303 from rfl, e3, e1, e2]
  omega
theorem nat_fc (a : Nat) (h : a < 4294967296) : a &&& 4294967292 = a / 4 * 4 := by
  have := nat_field a 2 30
  simp only [show ((2 : Nat) ^ 30 - 1) <<< 2 = 4294967292 from rfl, show (2 : Nat) ^ 2 = 4 from rfl, show (2 : Nat) ^ 30 = 1073741824 from rfl] at this
  rw [this]
  omega
theorem and_fc (v : Int) (v0 : 0 ≤ v) (v1 : v < 4294967296) : bits .and .u32 v 4294967292 = v / 4 * 4 := by
  rw [u32_and v 4294967292 v0 v1 (by decide) (by decide), show (4294967292 : Int).toNat = 4294967292 from rfl, nat_fc _ (by omega)]
  omega
theorem and_ff (v : Int) (v0 : 0 ≤ v) (v1 : v < 4294967296) : bits .and .u32 v 4294967295 = v := by
  have := low_and v 32 (by decide) v0 v1
  rw [show ((2 : Int) ^ 32 - 1) = 4294967295 from rfl, show ((2 : Int) ^ 32) = 4294967296 from rfl] at this
  omega
theorem and_0 (v : Int) (v0 : 0 ≤ v) (v1 : v < 4294967296) : bits .and .u32 v 0 = 0 := by
  rw [u32_and v 0 v0 v1 (by decide) (by decide)]; simp
theorem algn_eq (v : Int) (v0 : 0 ≤ v) (v1 : v < 4294967296) : algn v = v / 4 * 4 := by
  unfold algn
  rw [u32_andNot v 3 v0 v1 (by decide) (by decide), show 4294967295 - (3 : Int).toNat = 4294967292 from rfl, nat_fc _ (by omega)]
  omega
theorem off_1800 (v : Int) (v0 : 0 ≤ v) (v1 : v < 4294967296) : bits .andNot .u32 v 6144 = v / 8192 * 8192 + v % 2048 := by
  rw [u32_andNot v 6144 v0 v1 (by decide) (by decide), show 4294967295 - (6144 : Int).toNat = 4294959104 ||| 2047 from rfl]
  have e1 := nat_field v.toNat 13 19
  have e2 := Nat.and_two_pow_sub_one_eq_mod v.toNat 11
  simp only [show ((2 : Nat) ^ 19 - 1) <<< 13 = 4294959104 from rfl, show (2 : Nat) ^ 13 = 8192 from rfl, show (2 : Nat) ^ 19 = 524288 from rfl, show (2 : Nat) ^ 11 - 1 = 2047 from rfl, show (2 : Nat) ^ 11 = 2048 from rfl] at e1 e2
  have e3 := nat_two v.toNat 4294959104 2047 13 (by rw [e1]; omega) (by decide)
  rw [e3, e1, e2]
  omega
theorem b3_eq (v : Int) (v0 : 0 ≤ v) (v1 : v < 4294967296) : bitsOf v 3 1 = v / 8 % 2 := by
  rw [bitsOf_eq v 3 1 v0 v1 (by decide) (by decide) (by decide)]; rfl
theorem b7_eq (v : Int) (v0 : 0 ≤ v) (v1 : v < 4294967296) : bitsOf v 7 1 = v / 128 % 2 := by
  rw [bitsOf_eq v 7 1 v0 v1 (by decide) (by decide) (by decide)]; rfl
theorem bm_eq (v : Int) (v0 : 0 ≤ v) (v1 : v < 4294967296) : bitsOf v 11 2 = v / 2048 % 4 := by
  rw [bitsOf_eq v 11 2 v0 v1 (by decide) (by decide) (by decide)]; rfl
theorem kmode_eq (v : Int) (v0 : 0 ≤ v) (v1 : v < 4294967296) : kmode v = if v / 2048 % 4 = 3 then 3 else 0 := by
  unfold kmode
  rw [bm_eq v v0 v1]
  by_cases h : v / 2048 % 4 = 3
  · rw [h]; rfl
  · have : (v / 2048 % 4 == 3) = false := by simpa using h
    rw [this, if_neg h]; rfl
theorem status_eq (e p m : Int) (he : e = 0 ∨ e = 1) (hp : p = 0 ∨ p = 1) (hm : m = 0 ∨ m = 3) : status e p m = e * 8 + p * 128 + m * 2048 := by
  rcases he with rfl | rfl <;> rcases hp with rfl | rfl <;> rcases hm with rfl | rfl <;> kernel_rfl
/-- What Mstatus keeps of a word. -/
theorem set_st (v : Int) (v0 : 0 ≤ v) (v1 : v < 4294967296) : status (bitsOf v 3 1) (bitsOf v 7 1) (kmode v) = v / 8 % 2 * 8 + v / 128 % 2 * 128 + (if v / 2048 % 4 = 3 then 3 else 0) * 2048 := by
  rw [b3_eq v v0 v1, b7_eq v v0 v1, kmode_eq v v0 v1]
  exact status_eq _ _ _ (by omega) (by omega) (by split <;> omega)
end Go.Proofs.Ytbagmlcakmhhaaa.W
