/- Words and their bytes: what package mem reads and turns. -/
import Derived.Test.YtjdiepklgcdamaaDoorMathE
import Derived.Test.YtjdiepklgcdamaaDoorMathA
namespace Go.Proofs.YtjdiepklgcdamaaDoor.W
open Go.RowKit
set_option linter.unusedVariables false

theorem nat_off (a m : Nat) (ha : a < 4294967296) (hm : m < 4294967296) : (a &&& (4294967295 - m)) + (a &&& m) = a := by
  have h := nat_and_or 32 (a &&& (4294967295 - m)) (a &&& m) (Nat.lt_of_le_of_lt Nat.and_le_left ha) (Nat.lt_of_le_of_lt Nat.and_le_left ha)
  have t : ∀ i, (4294967295 - m).testBit i = (decide (i < 32) && !m.testBit i) := by
    intro i
    rw [show 4294967295 - m = 2 ^ 32 - (m + 1) by omega]
    exact Nat.testBit_two_pow_sub_succ hm i
  have e1 : (a &&& (4294967295 - m)) &&& (a &&& m) = 0 := by
    apply Nat.eq_of_testBit_eq
    intro i
    simp only [Nat.testBit_and, t, Nat.zero_testBit]
    cases a.testBit i <;> cases m.testBit i <;> simp
  have e2 : (a &&& (4294967295 - m)) ||| (a &&& m) = a := by
    apply Nat.eq_of_testBit_eq
    intro i
    simp only [Nat.testBit_and, Nat.testBit_or, t]
    by_cases hi : i < 32
    · cases a.testBit i <;> cases m.testBit i <;> simp [hi]
    · have : a.testBit i = false := Nat.testBit_lt_two_pow (Nat.lt_of_lt_of_le ha (Nat.pow_le_pow_right (n := 2) (by decide) (show 32 ≤ i by omega)))
      simp [this]
  rw [e1, e2] at h
  omega

theorem off_eq (x m : Int) (x0 : 0 ≤ x) (x1 : x < 4294967296) (m0 : 0 ≤ m) (m1 : m < 4294967296) : bits .andNot .u32 x m = x - bits .and .u32 x m := by
  rw [u32_andNot x m x0 x1 m0 m1, u32_and x m x0 x1 m0 m1]
  have := nat_off x.toNat m.toNat (by omega) (by omega)
  omega
theorem off_lt (x m : Int) (x0 : 0 ≤ x) (x1 : x < 4294967296) (m0 : 0 ≤ m) (m1 : m < 4294967296) : 0 ≤ bits .andNot .u32 x m ∧ bits .andNot .u32 x m < 4294967296 := by
  rw [u32_andNot x m x0 x1 m0 m1]
  have : x.toNat &&& (4294967295 - m.toNat) ≤ x.toNat := Nat.and_le_left
  omega
theorem tb_off (x m : Int) (p : Nat) (x0 : 0 ≤ x) (x1 : x < 4294967296) (m0 : 0 ≤ m) (m1 : m < 4294967296) (hp : p < 32) : tb (bits .andNot .u32 x m) p = (tb x p && !tb m p) := by
  rw [u32_andNot x m x0 x1 m0 m1]
  unfold tb
  rw [Int.toNat_natCast, Nat.testBit_and, show 4294967295 - m.toNat = 2 ^ 32 - (m.toNat + 1) by omega, Nat.testBit_two_pow_sub_succ (by omega)]
  simp [hp]

/-- x with n bits at low turned to those of v. -/
def wv (x low n v : Int) : Int := bits .or .u32 (bits .andNot .u32 x (placed 4294967295 low n)) (placed v low n)
theorem wv_lt (x low n v : Int) : 0 ≤ wv x low n v ∧ wv x low n v < 4294967296 := or_lt _ _
theorem wv_sum (x low n v : Int) (x0 : 0 ≤ x) (x1 : x < 4294967296) (v0 : 0 ≤ v) (v1 : v < 4294967296) (l0 : 0 ≤ low) (l1 : low ≤ 31) (n0 : 1 ≤ n) :
    wv x low n v = x - bits .and .u32 x (placed 4294967295 low n) + placed v low n := by
  have hm := placed_lt 4294967295 low n
  have hz := placed_lt v low n
  have ho := off_lt x _ x0 x1 hm.1 hm.2
  have h := and_or (bits .andNot .u32 x (placed 4294967295 low n)) (placed v low n) ho.1 ho.2 hz.1 hz.2
  have e : bits .and .u32 (bits .andNot .u32 x (placed 4294967295 low n)) (placed v low n) = 0 := by
    have hl := and_lt (bits .andNot .u32 x (placed 4294967295 low n)) (placed v low n)
    refine eq_of_tb _ 0 hl.1 hl.2 (by decide) (by decide) fun p hp => ?_
    rw [tb_and _ _ _ ho.1 ho.2 hz.1 hz.2, tb_off _ _ _ x0 x1 hm.1 hm.2 hp, tb_placed 4294967295 low n p (by decide) (by decide) l0 l1 n0 hp, tb_placed v low n p v0 v1 l0 l1 n0 hp, tb_all (p - low.toNat) (by omega)]
    have : tb 0 p = false := by simp [tb]
    rw [this]
    cases decide (low.toNat ≤ p ∧ p - low.toNat < min n.toNat 32) <;> cases tb x p <;> cases tb v (p - low.toNat) <;> rfl
  rw [e, off_eq x _ x0 x1 hm.1 hm.2] at h
  unfold wv
  rw [off_eq x _ x0 x1 hm.1 hm.2]
  omega

theorem nat_fld (a k n : Nat) : a &&& ((2 ^ n - 1) <<< k) = (a / 2 ^ k % 2 ^ n) * 2 ^ k := by
  rw [← Nat.shiftLeft_eq]
  apply Nat.eq_of_testBit_eq
  intro i
  rw [Nat.testBit_and, Nat.testBit_shiftLeft, Nat.testBit_shiftLeft, Nat.testBit_two_pow_sub_one, Nat.testBit_mod_two_pow, ← Nat.shiftRight_eq_div_pow, Nat.testBit_shiftRight]
  by_cases h : k ≤ i
  · rw [show k + (i - k) = i by omega]
    cases a.testBit i <;> simp [h]
  · simp [h]
theorem placed_num (v low n : Int) (v0 : 0 ≤ v) (v1 : v < 4294967296) (l0 : 0 ≤ low) (l1 : low ≤ 31) (n0 : 1 ≤ n) (hn : n ≤ 32) : placed v low n = v % 2 ^ n.toNat * 2 ^ low.toNat % 4294967296 := by
  have hw : within low n = true := by simp [within, l0, l1, n0]
  unfold placed
  rw [hw, cond_true, place, lowest_eq n n0, low_and v _ (by omega) v0 v1, show min n.toNat 32 = n.toNat by omega]
theorem and_fld (x : Int) (k n m : Nat) (x0 : 0 ≤ x) (x1 : x < 4294967296) (hm : (2 ^ n - 1) <<< k = m) (hl : m < 4294967296) : bits .and .u32 x (m : Int) = x / 2 ^ k % 2 ^ n * 2 ^ k := by
  obtain ⟨a, rfl⟩ := Int.eq_ofNat_of_zero_le x0
  rw [u32_and_nat a m (by omega) hl, ← hm, nat_fld]
  simp

/-- An access that may be. -/
def al (a s : Int) : Bool := (s == 1 || (s == 2 || s == 4)) && a % s == 0
theorem al_cases (a s : Int) (h : al a s = true) : (s = 1 ∧ a % 4 = 0) ∨ (s = 1 ∧ a % 4 = 1) ∨ (s = 1 ∧ a % 4 = 2) ∨ (s = 1 ∧ a % 4 = 3) ∨ (s = 2 ∧ a % 4 = 0) ∨ (s = 2 ∧ a % 4 = 2) ∨ (s = 4 ∧ a % 4 = 0) := by
  simp only [al, Bool.and_eq_true, Bool.or_eq_true, beq_iff_eq] at h
  rcases h with ⟨rfl | rfl | rfl, h⟩ <;> omega
def pt (x a s : Int) : Int := bitsOf x (a % 4 * 8) (s * 8)
def wr (x a s v : Int) : Int := wv x (a % 4 * 8) (s * 8) v
def cc (a : Int) : Int := if a % 4 = 0 then 1 else if a % 4 = 1 then 256 else if a % 4 = 2 then 65536 else 16777216
def dd (s : Int) : Int := if s = 1 then 256 else if s = 2 then 65536 else 4294967296
theorem pt_eq (x a s : Int) (x0 : 0 ≤ x) (x1 : x < 4294967296) (h : al a s = true) : pt x a s = x / cc a % dd s := by
  rcases al_cases a s h with ⟨rfl, e⟩ | ⟨rfl, e⟩ | ⟨rfl, e⟩ | ⟨rfl, e⟩ | ⟨rfl, e⟩ | ⟨rfl, e⟩ | ⟨rfl, e⟩ <;>
    (rw [pt, e, bitsOf_eq _ _ _ x0 x1 (by decide) (by decide) (by decide)]; simp [cc, dd, e])
theorem wr_eq (x a s v : Int) (x0 : 0 ≤ x) (x1 : x < 4294967296) (v0 : 0 ≤ v) (v1 : v < 4294967296) (h : al a s = true) : wr x a s v = x - x / cc a % dd s * cc a + v % dd s * cc a := by
  rcases al_cases a s h with ⟨rfl, e⟩ | ⟨rfl, e⟩ | ⟨rfl, e⟩ | ⟨rfl, e⟩ | ⟨rfl, e⟩ | ⟨rfl, e⟩ | ⟨rfl, e⟩ <;>
    rw [wr, e, wv_sum x _ _ v x0 x1 v0 v1 (by decide) (by decide) (by decide), placed_num v _ _ v0 v1 (by decide) (by decide) (by decide) (by decide)]
  · have := and_fld x 0 8 255 x0 x1 rfl (by decide)
    rw [show placed 4294967295 (0 * 8) (1 * 8) = ((255 : Nat) : Int) by kernel_rfl, this]
    simp [cc, dd, e]; omega
  · have := and_fld x 8 8 65280 x0 x1 rfl (by decide)
    rw [show placed 4294967295 (1 * 8) (1 * 8) = ((65280 : Nat) : Int) by kernel_rfl, this]
    simp [cc, dd, e]; omega
  · have := and_fld x 16 8 16711680 x0 x1 rfl (by decide)
    rw [show placed 4294967295 (2 * 8) (1 * 8) = ((16711680 : Nat) : Int) by kernel_rfl, this]
    simp [cc, dd, e]; omega
  · have := and_fld x 24 8 4278190080 x0 x1 rfl (by decide)
    rw [show placed 4294967295 (3 * 8) (1 * 8) = ((4278190080 : Nat) : Int) by kernel_rfl, this]
    simp [cc, dd, e]; omega
  · have := and_fld x 0 16 65535 x0 x1 rfl (by decide)
    rw [show placed 4294967295 (0 * 8) (2 * 8) = ((65535 : Nat) : Int) by kernel_rfl, this]
    simp [cc, dd, e]; omega
  · have := and_fld x 16 16 4294901760 x0 x1 rfl (by decide)
    rw [show placed 4294967295 (2 * 8) (2 * 8) = ((4294901760 : Nat) : Int) by kernel_rfl, this]
    simp [cc, dd, e]; omega
  · have := and_fld x 0 32 4294967295 x0 x1 rfl (by decide)
    rw [show placed 4294967295 (0 * 8) (4 * 8) = ((4294967295 : Nat) : Int) by kernel_rfl, this]
    simp [cc, dd, e]
theorem wr_lt (x a s v : Int) : 0 ≤ wr x a s v ∧ wr x a s v < 4294967296 := wv_lt _ _ _ _
theorem pt_lt (x a s : Int) : 0 ≤ pt x a s ∧ pt x a s < 4294967296 := bitsOf_lt _ _ _
end Go.Proofs.YtjdiepklgcdamaaDoor.W
