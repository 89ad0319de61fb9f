/- What each of the document's own answers of chapter 1 returns: the same as the plain mirrors, for every word. -/
import Derived.Test.YtheajilopplchabWord
import Derived.Test.YtheajilopplchabMath4
namespace Go.Proofs.Ytheajilopplchab
open Go.ChangeShapes Go.WideShapes Go.ChangeAt Go.RowKit
set_option linter.unusedVariables false

theorem ret_bool {a b : Bool} (h : a = b) : Ending.returned (.bool a) = .returned (.bool b) := by rw [h]

theorem rsign_any (a n : Int) (w : World) (a0 : 0 ≤ a) (a1 : a < 4294967296) :
    Calls Try.prog 45 #[.int .u32 a, .int .i64 n] w fun e w' => e = .returned (.int .u32 (W.sgn a n)) ∧ w = w' := by
  by_cases h1 : n < 1
  · go_enter Try.func45, Try.ntmps45
    go_wp2
    go_ret
    exact ⟨ret_int (by rw [W.sgn, if_pos h1]), rfl⟩
  · by_cases h2 : 31 < n
    · go_enter Try.func45, Try.ntmps45
      go_wp2
      go_ret
      exact ⟨ret_int (by rw [W.sgn, if_neg (by omega), if_pos (by omega)]), rfl⟩
    · have hA := W.and_low a n a0 a1 (by omega) (by omega)
      cases hT : (W.low a n / 2 ^ (n.toNat - 1) == 1)
      · have hR : Hid (W.low a n = W.sgn a n) := W.ref_sgn0 a n a0 a1 (by omega) (by omega) hT
        go_enter Try.func45, Try.ntmps45
        go_wp2
        all_goals
          go_ret
          exact ⟨ret_int hR.out, rfl⟩
      · have hR : Hid (bits .or .u32 (W.low a n) (bits .xor .u32 IntKind.u32.max ((2 ^ n.toNat - 1) % 4294967296)) = W.sgn a n) := W.ref_sgn1 a n a0 a1 (by omega) (by omega) hT
        go_enter Try.func45, Try.ntmps45
        go_wp2
        all_goals
          go_ret
          exact ⟨ret_int hR.out, rfl⟩

theorem rbits_any (a low n : Int) (w : World) (a0 : 0 ≤ a) (a1 : a < 4294967296) :
    Calls Try.prog 59 #[.int .u32 a, .int .i64 low, .int .i64 n] w fun e w' => e = .returned (.int .u32 (W.bitsOf a low n)) ∧ w = w' := by
  by_cases l0 : low < 0
  · go_enter Try.func59, Try.ntmps59
    go_wp2
    go_ret
    exact ⟨ret_int (W.bitsOf_out a low n (by omega)).symm, rfl⟩
  · by_cases l1 : 31 < low
    · go_enter Try.func59, Try.ntmps59
      go_wp2
      go_ret
      exact ⟨ret_int (W.bitsOf_out a low n (by omega)).symm, rfl⟩
    · by_cases n0 : n < 1
      · go_enter Try.func59, Try.ntmps59
        go_wp2
        go_ret
        exact ⟨ret_int (W.bitsOf_out a low n (by omega)).symm, rfl⟩
      · by_cases n1 : 32 ≤ n
        · go_enter Try.func59, Try.ntmps59
          go_wp2
          go_ret
          exact ⟨ret_int (W.bits_big a low n a0 a1 (by omega) (by omega) n1), rfl⟩
        · go_enter Try.func59, Try.ntmps59
          go_wp2
          go_ret
          exact ⟨ret_int (W.bits_small a low n a0 a1 (by omega) (by omega) (by omega) (by omega)), rfl⟩

theorem rhigh_any (a b : Int) (x y : Bool) (w : World) (a0 : 0 ≤ a) (a1 : a < 4294967296) (b0 : 0 ≤ b) (b1 : b < 4294967296) :
    Calls Try.prog 37 #[.int .u32 a, .int .u32 b, .bool x, .bool y] w fun e w' => e = .returned (.int .u32 (W.high a b x y)) ∧ w = w' := by
  have e1 : Hid (W.high a b false false = a * b / 4294967296 % 4294967296) := (W.high_eq a b _ _).trans (by rw [W.wide_f a a0 a1, W.wide_f b b0 b1])
  have e2 : Hid (W.high a b true false = (if a < 2147483648 then a else a - 4294967296) * b / 4294967296 % 4294967296) := (W.high_eq a b _ _).trans (by rw [W.wide_t a a0 a1, W.wide_f b b0 b1])
  have e3 : Hid (W.high a b false true = a * (if b < 2147483648 then b else b - 4294967296) / 4294967296 % 4294967296) := (W.high_eq a b _ _).trans (by rw [W.wide_f a a0 a1, W.wide_t b b0 b1])
  have e4 : Hid (W.high a b true true = (if a < 2147483648 then a else a - 4294967296) * (if b < 2147483648 then b else b - 4294967296) / 4294967296 % 4294967296) := (W.high_eq a b _ _).trans (by rw [W.wide_t a a0 a1, W.wide_t b b0 b1])
  cases x
  · cases y
    · go_enter Try.func37, Try.ntmps37
      go_wp2
      go_ret
      exact ⟨ret_int (by rw [W.hi2, e1.out]), rfl⟩
    · by_cases hb : 2147483648 ≤ b
      · go_enter Try.func37, Try.ntmps37
        go_wp2
        go_ret
        exact ⟨ret_int (by rw [W.hi1, e3.out, if_neg (by omega)]), rfl⟩
      · go_enter Try.func37, Try.ntmps37
        go_wp2
        go_ret
        exact ⟨ret_int (by rw [W.hi1, e3.out, if_pos (by omega)]), rfl⟩
  · cases y
    · by_cases ha : 2147483648 ≤ a
      · go_enter Try.func37, Try.ntmps37
        go_wp2
        go_ret
        exact ⟨ret_int (by rw [W.hi1, e2.out, if_neg (by omega)]), rfl⟩
      · go_enter Try.func37, Try.ntmps37
        go_wp2
        go_ret
        exact ⟨ret_int (by rw [W.hi1, e2.out, if_pos (by omega)]), rfl⟩
    · by_cases ha : 2147483648 ≤ a
      · by_cases hb : 2147483648 ≤ b
        · go_enter Try.func37, Try.ntmps37
          go_wp2
          go_ret
          exact ⟨ret_int (by rw [W.hi1, e4.out, if_neg (by omega), if_neg (by omega)]), rfl⟩
        · go_enter Try.func37, Try.ntmps37
          go_wp2
          go_ret
          exact ⟨ret_int (by rw [W.hi1, e4.out, if_neg (by omega), if_pos (by omega)]), rfl⟩
      · by_cases hb : 2147483648 ≤ b
        · go_enter Try.func37, Try.ntmps37
          go_wp2
          go_ret
          exact ⟨ret_int (by rw [W.hi1, e4.out, if_pos (by omega), if_neg (by omega)]), rfl⟩
        · go_enter Try.func37, Try.ntmps37
          go_wp2
          go_ret
          exact ⟨ret_int (by rw [W.hi1, e4.out, if_pos (by omega), if_pos (by omega)]), rfl⟩

theorem rdiv_any (a b : Int) (x : Bool) (w : World) (a0 : 0 ≤ a) (a1 : a < 4294967296) (b0 : 0 ≤ b) (b1 : b < 4294967296) :
    Calls Try.prog 38 #[.int .u32 a, .int .u32 b, .bool x] w fun e w' => e = .returned (.int .u32 (W.div a b x)) ∧ w = w' := by
  by_cases hb : b = 0
  · have hd : Hid (W.div a b x = 4294967295) := if_pos hb
    subst hb
    go_enter Try.func38, Try.ntmps38
    go_wp2
    go_ret
    exact ⟨ret_int hd.out.symm, rfl⟩
  · have hb' : (b == 0) = false := by simpa using hb
    cases x
    · have hd : Hid (a / b = W.div a b false) := W.div_f a b a0 a1 b0 b1 hb
      go_enter Try.func38, Try.ntmps38
      go_wp2
      go_ret
      exact ⟨ret_int hd.out, rfl⟩
    · by_cases hm : b = 4294967295
      · have hd : Hid (-a % 4294967296 = W.div a b true) := by subst hm; exact W.div_m1 a
        have hm' : (b == 4294967295) = true := by simpa using hm
        clear hm
        go_enter Try.func38, Try.ntmps38
        go_wp2
        go_ret
        exact ⟨ret_int hd.out, rfl⟩
      · have hd : Hid (wrap32 ((wrap32 a).tdiv (wrap32 b)) % 4294967296 = W.div a b true) := W.div_t a b hb
        have hm' : (b == 4294967295) = false := by simpa using hm
        have hw := W.wrap32_ne b b0 b1 hb
        clear hm hb
        go_enter Try.func38, Try.ntmps38
        go_wp2
        go_ret
        exact ⟨ret_int hd.out, rfl⟩

theorem rrem_any (a b : Int) (x : Bool) (w : World) (a0 : 0 ≤ a) (a1 : a < 4294967296) (b0 : 0 ≤ b) (b1 : b < 4294967296) :
    Calls Try.prog 39 #[.int .u32 a, .int .u32 b, .bool x] w fun e w' => e = .returned (.int .u32 (W.rem a b x)) ∧ w = w' := by
  by_cases hb : b = 0
  · have hd : Hid (W.rem a b x = a) := if_pos hb
    subst hb
    go_enter Try.func39, Try.ntmps39
    go_wp2
    go_ret
    exact ⟨ret_int hd.out.symm, rfl⟩
  · have hb' : (b == 0) = false := by simpa using hb
    cases x
    · have hd : Hid (a % b = W.rem a b false) := W.rem_f a b a0 a1 b0 b1 hb
      go_enter Try.func39, Try.ntmps39
      go_wp2
      go_ret
      exact ⟨ret_int hd.out, rfl⟩
    · by_cases hm : b = 4294967295
      · have hd : Hid (0 = W.rem a b true) := by subst hm; exact W.rem_m1 a
        have hm' : (b == 4294967295) = true := by simpa using hm
        clear hm
        go_enter Try.func39, Try.ntmps39
        go_wp2
        go_ret
        exact ⟨ret_int hd.out, rfl⟩
      · have hd : Hid ((wrap32 a).tmod (wrap32 b) % 4294967296 = W.rem a b true) := W.rem_t a b hb
        have hm' : (b == 4294967295) = false := by simpa using hm
        have hw := W.wrap32_ne b b0 b1 hb
        clear hm hb
        go_enter Try.func39, Try.ntmps39
        go_wp2
        go_ret
        exact ⟨ret_int hd.out, rfl⟩

theorem rless_any (a b : Int) (x : Bool) (w : World) (a0 : 0 ≤ a) (a1 : a < 4294967296) (b0 : 0 ≤ b) (b1 : b < 4294967296) :
    Calls Try.prog 35 #[.int .u32 a, .int .u32 b, .bool x] w fun e w' => e = .returned (.bool (W.less a b x)) ∧ w = w' := by
  cases x
  · go_enter Try.func35, Try.ntmps35
    go_wp2
    go_ret
    exact ⟨ret_bool (by rw [W.less, W.wide_f a a0 a1, W.wide_f b b0 b1]), rfl⟩
  · go_enter Try.func35, Try.ntmps35
    go_wp2
    go_ret
    exact ⟨ret_bool (by rw [W.less, W.wide_w, W.wide_w]), rfl⟩

theorem rright_any (a n : Int) (x : Bool) (w : World) (a0 : 0 ≤ a) (a1 : a < 4294967296) :
    Calls Try.prog 36 #[.int .u32 a, .int .i64 n, .bool x] w fun e w' => e = .returned (.int .u32 (W.right a n x)) ∧ w = w' := by
  have := W.and31 n
  cases x
  · go_enter Try.func36, Try.ntmps36
    go_wp2
    go_ret
    exact ⟨ret_int (W.right_f a n a0 a1), rfl⟩
  · go_enter Try.func36, Try.ntmps36
    go_wp2
    go_ret
    exact ⟨ret_int (W.right_t a n), rfl⟩
end Go.Proofs.Ytheajilopplchab
