/- Texts in one: AluB. -/
import Derived.Test.YtopehmpjfndgjaaJ07
/- What Kind, Size, Extend and Cut return. -/
namespace Go.Proofs.Ytopehmpjfndgjaa
open Go.ChangeShapes Go.WideShapes Go.ChangeAt Go.RowKit
set_option linter.unusedVariables false
set_option linter.unusedSimpArgs false

theorem bits_low (x low n : Int) (w : World) :
    Calls Try.prog 46 #[.int .u32 x, .int .i64 low, .int .i64 n] w fun e w' => e = .returned (.int .u32 (W.bitsOf x low n)) ∧ Below w.heap.size w w' := by
  refine (bits_any x low n w).mono ?_
  rintro e w' ⟨rfl, k, rfl⟩
  exact ⟨rfl, below_drewN (Below.refl _ _) k⟩

set_option maxHeartbeats 1600000 in
theorem kind_any (op : Int) (w : World) :
    Calls Try.prog 26 #[.int .i64 op] w fun e w' => e = .returned (.int .i64 (W.kind op)) ∧ w = w' := by
  cases h0 : (W.known op)
  case false =>
    have hv : Hid (W.kind op = 0) := (by simp only [W.kind, h0, cond_true, cond_false, Bool.not_true, Bool.not_false] : W.kind op = 0)
    go_enter Try.func26, Try.ntmps26
    go_wp2_with (first | (go_at_call 38; refine (known_any _ _).mono ?_; rintro e w' ⟨rfl, rfl⟩) | (go_at_call 39; refine (fr_any _ _ _ _).mono ?_; rintro e w' ⟨rfl, rfl⟩))
    go_ret
    exact ⟨ret_int hv.out.symm, rfl⟩
  cases h1 : (W.fr 1 op 2)
  case true =>
    have hv : Hid (W.kind op = 1) := (by simp only [W.kind, h0, h1, cond_true, cond_false, Bool.not_true, Bool.not_false] : W.kind op = 1)
    go_enter Try.func26, Try.ntmps26
    go_wp2_with (first | (go_at_call 38; refine (known_any _ _).mono ?_; rintro e w' ⟨rfl, rfl⟩) | (go_at_call 39; refine (fr_any _ _ _ _).mono ?_; rintro e w' ⟨rfl, rfl⟩))
    go_ret
    exact ⟨ret_int hv.out.symm, rfl⟩
  cases h2 : (W.fr 19 op 37)
  case true =>
    have hv : Hid (W.kind op = 1) := (by simp only [W.kind, h0, h1, h2, cond_true, cond_false, Bool.not_true, Bool.not_false] : W.kind op = 1)
    go_enter Try.func26, Try.ntmps26
    go_wp2_with (first | (go_at_call 38; refine (known_any _ _).mono ?_; rintro e w' ⟨rfl, rfl⟩) | (go_at_call 39; refine (fr_any _ _ _ _).mono ?_; rintro e w' ⟨rfl, rfl⟩))
    go_ret
    exact ⟨ret_int hv.out.symm, rfl⟩
  cases h3 : (W.fr 51 op 58)
  case true =>
    have hv : Hid (W.kind op = 1) := (by simp only [W.kind, h0, h1, h2, h3, cond_true, cond_false, Bool.not_true, Bool.not_false] : W.kind op = 1)
    go_enter Try.func26, Try.ntmps26
    go_wp2_with (first | (go_at_call 38; refine (known_any _ _).mono ?_; rintro e w' ⟨rfl, rfl⟩) | (go_at_call 39; refine (fr_any _ _ _ _).mono ?_; rintro e w' ⟨rfl, rfl⟩))
    go_ret
    exact ⟨ret_int hv.out.symm, rfl⟩
  cases h4 : (W.fr 3 op 4)
  case true =>
    have hv : Hid (W.kind op = 2) := (by simp only [W.kind, h0, h1, h2, h3, h4, cond_true, cond_false, Bool.not_true, Bool.not_false] : W.kind op = 2)
    go_enter Try.func26, Try.ntmps26
    go_wp2_with (first | (go_at_call 38; refine (known_any _ _).mono ?_; rintro e w' ⟨rfl, rfl⟩) | (go_at_call 39; refine (fr_any _ _ _ _).mono ?_; rintro e w' ⟨rfl, rfl⟩))
    go_ret
    exact ⟨ret_int hv.out.symm, rfl⟩
  cases h5 : (W.fr 5 op 10)
  case true =>
    have hv : Hid (W.kind op = 3) := (by simp only [W.kind, h0, h1, h2, h3, h4, h5, cond_true, cond_false, Bool.not_true, Bool.not_false] : W.kind op = 3)
    go_enter Try.func26, Try.ntmps26
    go_wp2_with (first | (go_at_call 38; refine (known_any _ _).mono ?_; rintro e w' ⟨rfl, rfl⟩) | (go_at_call 39; refine (fr_any _ _ _ _).mono ?_; rintro e w' ⟨rfl, rfl⟩))
    go_ret
    exact ⟨ret_int hv.out.symm, rfl⟩
  cases h6 : (W.fr 11 op 15)
  case true =>
    have hv : Hid (W.kind op = 4) := (by simp only [W.kind, h0, h1, h2, h3, h4, h5, h6, cond_true, cond_false, Bool.not_true, Bool.not_false] : W.kind op = 4)
    go_enter Try.func26, Try.ntmps26
    go_wp2_with (first | (go_at_call 38; refine (known_any _ _).mono ?_; rintro e w' ⟨rfl, rfl⟩) | (go_at_call 39; refine (fr_any _ _ _ _).mono ?_; rintro e w' ⟨rfl, rfl⟩))
    go_ret
    exact ⟨ret_int hv.out.symm, rfl⟩
  cases h7 : (op == 59)
  case true =>
    have hv : Hid (W.kind op = 4) := (by simp only [W.kind, h0, h1, h2, h3, h4, h5, h6, h7, cond_true, cond_false, Bool.not_true, Bool.not_false] : W.kind op = 4)
    go_enter Try.func26, Try.ntmps26
    go_wp2_with (first | (go_at_call 38; refine (known_any _ _).mono ?_; rintro e w' ⟨rfl, rfl⟩) | (go_at_call 39; refine (fr_any _ _ _ _).mono ?_; rintro e w' ⟨rfl, rfl⟩))
    go_ret
    exact ⟨ret_int hv.out.symm, rfl⟩
  cases h8 : (W.fr 16 op 18)
  case true =>
    have hv : Hid (W.kind op = 5) := (by simp only [W.kind, h0, h1, h2, h3, h4, h5, h6, h7, h8, cond_true, cond_false, Bool.not_true, Bool.not_false] : W.kind op = 5)
    go_enter Try.func26, Try.ntmps26
    go_wp2_with (first | (go_at_call 38; refine (known_any _ _).mono ?_; rintro e w' ⟨rfl, rfl⟩) | (go_at_call 39; refine (fr_any _ _ _ _).mono ?_; rintro e w' ⟨rfl, rfl⟩))
    go_ret
    exact ⟨ret_int hv.out.symm, rfl⟩
  cases h9 : (W.fr 60 op 69)
  case true =>
    have hv : Hid (W.kind op = 6) := (by simp only [W.kind, h0, h1, h2, h3, h4, h5, h6, h7, h8, h9, cond_true, cond_false, Bool.not_true, Bool.not_false] : W.kind op = 6)
    go_enter Try.func26, Try.ntmps26
    go_wp2_with (first | (go_at_call 38; refine (known_any _ _).mono ?_; rintro e w' ⟨rfl, rfl⟩) | (go_at_call 39; refine (fr_any _ _ _ _).mono ?_; rintro e w' ⟨rfl, rfl⟩))
    go_ret
    exact ⟨ret_int hv.out.symm, rfl⟩
  case false =>
    have hv : Hid (W.kind op = 7) := (by simp only [W.kind, h0, h1, h2, h3, h4, h5, h6, h7, h8, h9, cond_true, cond_false, Bool.not_true, Bool.not_false] : W.kind op = 7)
    go_enter Try.func26, Try.ntmps26
    go_wp2_with (first | (go_at_call 38; refine (known_any _ _).mono ?_; rintro e w' ⟨rfl, rfl⟩) | (go_at_call 39; refine (fr_any _ _ _ _).mono ?_; rintro e w' ⟨rfl, rfl⟩))
    go_ret
    exact ⟨ret_int hv.out.symm, rfl⟩

theorem kind_11 (w : World) : Calls Try.prog 26 #[.int .i64 11] w fun e w' => e = .returned (.int .i64 4) ∧ w = w' := kind_any 11 w

theorem size_11 (w : World) : Calls Try.prog 30 #[.int .i64 11] w fun e w' => e = .returned (.int .i64 1) ∧ w = w' := by
  go_enter Try.func30, Try.ntmps30
  go_wp2_with (go_at_call 26; refine (kind_11 _).mono ?_; rintro e w' ⟨rfl, rfl⟩)
  go_ret
  exact ⟨rfl, rfl⟩

theorem lowest_11 (v : Int) (w : World) : Calls Try.prog 41 #[.int .i64 11, .int .u32 v] w fun e w' => e = .returned (.int .u32 (W.bitsOf v 0 8)) ∧ Below w.heap.size w w' := by
  go_enter Try.func41, Try.ntmps41
  go_wp2_with (first | (go_at_call 30; refine (size_11 _).mono ?_; rintro e w' ⟨rfl, rfl⟩) | (go_at_call 46; refine (bits_low _ _ _ _).mono ?_; rintro e w1 ⟨rfl, hb⟩))
  go_ret
  exact ⟨rfl, hb⟩

theorem kind_12 (w : World) : Calls Try.prog 26 #[.int .i64 12] w fun e w' => e = .returned (.int .i64 4) ∧ w = w' := kind_any 12 w

theorem size_12 (w : World) : Calls Try.prog 30 #[.int .i64 12] w fun e w' => e = .returned (.int .i64 2) ∧ w = w' := by
  go_enter Try.func30, Try.ntmps30
  go_wp2_with (go_at_call 26; refine (kind_12 _).mono ?_; rintro e w' ⟨rfl, rfl⟩)
  go_ret
  exact ⟨rfl, rfl⟩

theorem lowest_12 (v : Int) (w : World) : Calls Try.prog 41 #[.int .i64 12, .int .u32 v] w fun e w' => e = .returned (.int .u32 (W.bitsOf v 0 16)) ∧ Below w.heap.size w w' := by
  go_enter Try.func41, Try.ntmps41
  go_wp2_with (first | (go_at_call 30; refine (size_12 _).mono ?_; rintro e w' ⟨rfl, rfl⟩) | (go_at_call 46; refine (bits_low _ _ _ _).mono ?_; rintro e w1 ⟨rfl, hb⟩))
  go_ret
  exact ⟨rfl, hb⟩

theorem kind_13 (w : World) : Calls Try.prog 26 #[.int .i64 13] w fun e w' => e = .returned (.int .i64 4) ∧ w = w' := kind_any 13 w

theorem size_13 (w : World) : Calls Try.prog 30 #[.int .i64 13] w fun e w' => e = .returned (.int .i64 4) ∧ w = w' := by
  go_enter Try.func30, Try.ntmps30
  go_wp2_with (go_at_call 26; refine (kind_13 _).mono ?_; rintro e w' ⟨rfl, rfl⟩)
  go_ret
  exact ⟨rfl, rfl⟩

theorem lowest_13 (v : Int) (w : World) : Calls Try.prog 41 #[.int .i64 13, .int .u32 v] w fun e w' => e = .returned (.int .u32 (W.bitsOf v 0 32)) ∧ Below w.heap.size w w' := by
  go_enter Try.func41, Try.ntmps41
  go_wp2_with (first | (go_at_call 30; refine (size_13 _).mono ?_; rintro e w' ⟨rfl, rfl⟩) | (go_at_call 46; refine (bits_low _ _ _ _).mono ?_; rintro e w1 ⟨rfl, hb⟩))
  go_ret
  exact ⟨rfl, hb⟩

theorem kind_14 (w : World) : Calls Try.prog 26 #[.int .i64 14] w fun e w' => e = .returned (.int .i64 4) ∧ w = w' := kind_any 14 w

theorem size_14 (w : World) : Calls Try.prog 30 #[.int .i64 14] w fun e w' => e = .returned (.int .i64 1) ∧ w = w' := by
  go_enter Try.func30, Try.ntmps30
  go_wp2_with (go_at_call 26; refine (kind_14 _).mono ?_; rintro e w' ⟨rfl, rfl⟩)
  go_ret
  exact ⟨rfl, rfl⟩

theorem lowest_14 (v : Int) (w : World) : Calls Try.prog 41 #[.int .i64 14, .int .u32 v] w fun e w' => e = .returned (.int .u32 (W.bitsOf v 0 8)) ∧ Below w.heap.size w w' := by
  go_enter Try.func41, Try.ntmps41
  go_wp2_with (first | (go_at_call 30; refine (size_14 _).mono ?_; rintro e w' ⟨rfl, rfl⟩) | (go_at_call 46; refine (bits_low _ _ _ _).mono ?_; rintro e w1 ⟨rfl, hb⟩))
  go_ret
  exact ⟨rfl, hb⟩

theorem kind_15 (w : World) : Calls Try.prog 26 #[.int .i64 15] w fun e w' => e = .returned (.int .i64 4) ∧ w = w' := kind_any 15 w

theorem size_15 (w : World) : Calls Try.prog 30 #[.int .i64 15] w fun e w' => e = .returned (.int .i64 2) ∧ w = w' := by
  go_enter Try.func30, Try.ntmps30
  go_wp2_with (go_at_call 26; refine (kind_15 _).mono ?_; rintro e w' ⟨rfl, rfl⟩)
  go_ret
  exact ⟨rfl, rfl⟩

theorem lowest_15 (v : Int) (w : World) : Calls Try.prog 41 #[.int .i64 15, .int .u32 v] w fun e w' => e = .returned (.int .u32 (W.bitsOf v 0 16)) ∧ Below w.heap.size w w' := by
  go_enter Try.func41, Try.ntmps41
  go_wp2_with (first | (go_at_call 30; refine (size_15 _).mono ?_; rintro e w' ⟨rfl, rfl⟩) | (go_at_call 46; refine (bits_low _ _ _ _).mono ?_; rintro e w1 ⟨rfl, hb⟩))
  go_ret
  exact ⟨rfl, hb⟩

theorem kind_16 (w : World) : Calls Try.prog 26 #[.int .i64 16] w fun e w' => e = .returned (.int .i64 5) ∧ w = w' := kind_any 16 w

theorem size_16 (w : World) : Calls Try.prog 30 #[.int .i64 16] w fun e w' => e = .returned (.int .i64 1) ∧ w = w' := by
  go_enter Try.func30, Try.ntmps30
  go_wp2_with (go_at_call 26; refine (kind_16 _).mono ?_; rintro e w' ⟨rfl, rfl⟩)
  go_ret
  exact ⟨rfl, rfl⟩

theorem lowest_16 (v : Int) (w : World) : Calls Try.prog 41 #[.int .i64 16, .int .u32 v] w fun e w' => e = .returned (.int .u32 (W.bitsOf v 0 8)) ∧ Below w.heap.size w w' := by
  go_enter Try.func41, Try.ntmps41
  go_wp2_with (first | (go_at_call 30; refine (size_16 _).mono ?_; rintro e w' ⟨rfl, rfl⟩) | (go_at_call 46; refine (bits_low _ _ _ _).mono ?_; rintro e w1 ⟨rfl, hb⟩))
  go_ret
  exact ⟨rfl, hb⟩

theorem kind_17 (w : World) : Calls Try.prog 26 #[.int .i64 17] w fun e w' => e = .returned (.int .i64 5) ∧ w = w' := kind_any 17 w

theorem size_17 (w : World) : Calls Try.prog 30 #[.int .i64 17] w fun e w' => e = .returned (.int .i64 2) ∧ w = w' := by
  go_enter Try.func30, Try.ntmps30
  go_wp2_with (go_at_call 26; refine (kind_17 _).mono ?_; rintro e w' ⟨rfl, rfl⟩)
  go_ret
  exact ⟨rfl, rfl⟩

theorem lowest_17 (v : Int) (w : World) : Calls Try.prog 41 #[.int .i64 17, .int .u32 v] w fun e w' => e = .returned (.int .u32 (W.bitsOf v 0 16)) ∧ Below w.heap.size w w' := by
  go_enter Try.func41, Try.ntmps41
  go_wp2_with (first | (go_at_call 30; refine (size_17 _).mono ?_; rintro e w' ⟨rfl, rfl⟩) | (go_at_call 46; refine (bits_low _ _ _ _).mono ?_; rintro e w1 ⟨rfl, hb⟩))
  go_ret
  exact ⟨rfl, hb⟩

theorem kind_18 (w : World) : Calls Try.prog 26 #[.int .i64 18] w fun e w' => e = .returned (.int .i64 5) ∧ w = w' := kind_any 18 w

theorem size_18 (w : World) : Calls Try.prog 30 #[.int .i64 18] w fun e w' => e = .returned (.int .i64 4) ∧ w = w' := by
  go_enter Try.func30, Try.ntmps30
  go_wp2_with (go_at_call 26; refine (kind_18 _).mono ?_; rintro e w' ⟨rfl, rfl⟩)
  go_ret
  exact ⟨rfl, rfl⟩

theorem lowest_18 (v : Int) (w : World) : Calls Try.prog 41 #[.int .i64 18, .int .u32 v] w fun e w' => e = .returned (.int .u32 (W.bitsOf v 0 32)) ∧ Below w.heap.size w w' := by
  go_enter Try.func41, Try.ntmps41
  go_wp2_with (first | (go_at_call 30; refine (size_18 _).mono ?_; rintro e w' ⟨rfl, rfl⟩) | (go_at_call 46; refine (bits_low _ _ _ _).mono ?_; rintro e w1 ⟨rfl, hb⟩))
  go_ret
  exact ⟨rfl, hb⟩

theorem kind_59 (w : World) : Calls Try.prog 26 #[.int .i64 59] w fun e w' => e = .returned (.int .i64 4) ∧ w = w' := kind_any 59 w

theorem size_59 (w : World) : Calls Try.prog 30 #[.int .i64 59] w fun e w' => e = .returned (.int .i64 4) ∧ w = w' := by
  go_enter Try.func30, Try.ntmps30
  go_wp2_with (go_at_call 26; refine (kind_59 _).mono ?_; rintro e w' ⟨rfl, rfl⟩)
  go_ret
  exact ⟨rfl, rfl⟩

theorem lowest_59 (v : Int) (w : World) : Calls Try.prog 41 #[.int .i64 59, .int .u32 v] w fun e w' => e = .returned (.int .u32 (W.bitsOf v 0 32)) ∧ Below w.heap.size w w' := by
  go_enter Try.func41, Try.ntmps41
  go_wp2_with (first | (go_at_call 30; refine (size_59 _).mono ?_; rintro e w' ⟨rfl, rfl⟩) | (go_at_call 46; refine (bits_low _ _ _ _).mono ?_; rintro e w1 ⟨rfl, hb⟩))
  go_ret
  exact ⟨rfl, hb⟩

theorem kind_60 (w : World) : Calls Try.prog 26 #[.int .i64 60] w fun e w' => e = .returned (.int .i64 6) ∧ w = w' := kind_any 60 w

theorem size_60 (w : World) : Calls Try.prog 30 #[.int .i64 60] w fun e w' => e = .returned (.int .i64 4) ∧ w = w' := by
  go_enter Try.func30, Try.ntmps30
  go_wp2_with (go_at_call 26; refine (kind_60 _).mono ?_; rintro e w' ⟨rfl, rfl⟩)
  go_ret
  exact ⟨rfl, rfl⟩

theorem lowest_60 (v : Int) (w : World) : Calls Try.prog 41 #[.int .i64 60, .int .u32 v] w fun e w' => e = .returned (.int .u32 (W.bitsOf v 0 32)) ∧ Below w.heap.size w w' := by
  go_enter Try.func41, Try.ntmps41
  go_wp2_with (first | (go_at_call 30; refine (size_60 _).mono ?_; rintro e w' ⟨rfl, rfl⟩) | (go_at_call 46; refine (bits_low _ _ _ _).mono ?_; rintro e w1 ⟨rfl, hb⟩))
  go_ret
  exact ⟨rfl, hb⟩

theorem kind_61 (w : World) : Calls Try.prog 26 #[.int .i64 61] w fun e w' => e = .returned (.int .i64 6) ∧ w = w' := kind_any 61 w

theorem size_61 (w : World) : Calls Try.prog 30 #[.int .i64 61] w fun e w' => e = .returned (.int .i64 4) ∧ w = w' := by
  go_enter Try.func30, Try.ntmps30
  go_wp2_with (go_at_call 26; refine (kind_61 _).mono ?_; rintro e w' ⟨rfl, rfl⟩)
  go_ret
  exact ⟨rfl, rfl⟩

theorem lowest_61 (v : Int) (w : World) : Calls Try.prog 41 #[.int .i64 61, .int .u32 v] w fun e w' => e = .returned (.int .u32 (W.bitsOf v 0 32)) ∧ Below w.heap.size w w' := by
  go_enter Try.func41, Try.ntmps41
  go_wp2_with (first | (go_at_call 30; refine (size_61 _).mono ?_; rintro e w' ⟨rfl, rfl⟩) | (go_at_call 46; refine (bits_low _ _ _ _).mono ?_; rintro e w1 ⟨rfl, hb⟩))
  go_ret
  exact ⟨rfl, hb⟩

theorem kind_62 (w : World) : Calls Try.prog 26 #[.int .i64 62] w fun e w' => e = .returned (.int .i64 6) ∧ w = w' := kind_any 62 w

theorem size_62 (w : World) : Calls Try.prog 30 #[.int .i64 62] w fun e w' => e = .returned (.int .i64 4) ∧ w = w' := by
  go_enter Try.func30, Try.ntmps30
  go_wp2_with (go_at_call 26; refine (kind_62 _).mono ?_; rintro e w' ⟨rfl, rfl⟩)
  go_ret
  exact ⟨rfl, rfl⟩

theorem lowest_62 (v : Int) (w : World) : Calls Try.prog 41 #[.int .i64 62, .int .u32 v] w fun e w' => e = .returned (.int .u32 (W.bitsOf v 0 32)) ∧ Below w.heap.size w w' := by
  go_enter Try.func41, Try.ntmps41
  go_wp2_with (first | (go_at_call 30; refine (size_62 _).mono ?_; rintro e w' ⟨rfl, rfl⟩) | (go_at_call 46; refine (bits_low _ _ _ _).mono ?_; rintro e w1 ⟨rfl, hb⟩))
  go_ret
  exact ⟨rfl, hb⟩

theorem kind_63 (w : World) : Calls Try.prog 26 #[.int .i64 63] w fun e w' => e = .returned (.int .i64 6) ∧ w = w' := kind_any 63 w

theorem size_63 (w : World) : Calls Try.prog 30 #[.int .i64 63] w fun e w' => e = .returned (.int .i64 4) ∧ w = w' := by
  go_enter Try.func30, Try.ntmps30
  go_wp2_with (go_at_call 26; refine (kind_63 _).mono ?_; rintro e w' ⟨rfl, rfl⟩)
  go_ret
  exact ⟨rfl, rfl⟩

theorem lowest_63 (v : Int) (w : World) : Calls Try.prog 41 #[.int .i64 63, .int .u32 v] w fun e w' => e = .returned (.int .u32 (W.bitsOf v 0 32)) ∧ Below w.heap.size w w' := by
  go_enter Try.func41, Try.ntmps41
  go_wp2_with (first | (go_at_call 30; refine (size_63 _).mono ?_; rintro e w' ⟨rfl, rfl⟩) | (go_at_call 46; refine (bits_low _ _ _ _).mono ?_; rintro e w1 ⟨rfl, hb⟩))
  go_ret
  exact ⟨rfl, hb⟩

theorem kind_64 (w : World) : Calls Try.prog 26 #[.int .i64 64] w fun e w' => e = .returned (.int .i64 6) ∧ w = w' := kind_any 64 w

theorem size_64 (w : World) : Calls Try.prog 30 #[.int .i64 64] w fun e w' => e = .returned (.int .i64 4) ∧ w = w' := by
  go_enter Try.func30, Try.ntmps30
  go_wp2_with (go_at_call 26; refine (kind_64 _).mono ?_; rintro e w' ⟨rfl, rfl⟩)
  go_ret
  exact ⟨rfl, rfl⟩

theorem lowest_64 (v : Int) (w : World) : Calls Try.prog 41 #[.int .i64 64, .int .u32 v] w fun e w' => e = .returned (.int .u32 (W.bitsOf v 0 32)) ∧ Below w.heap.size w w' := by
  go_enter Try.func41, Try.ntmps41
  go_wp2_with (first | (go_at_call 30; refine (size_64 _).mono ?_; rintro e w' ⟨rfl, rfl⟩) | (go_at_call 46; refine (bits_low _ _ _ _).mono ?_; rintro e w1 ⟨rfl, hb⟩))
  go_ret
  exact ⟨rfl, hb⟩

theorem kind_65 (w : World) : Calls Try.prog 26 #[.int .i64 65] w fun e w' => e = .returned (.int .i64 6) ∧ w = w' := kind_any 65 w

theorem size_65 (w : World) : Calls Try.prog 30 #[.int .i64 65] w fun e w' => e = .returned (.int .i64 4) ∧ w = w' := by
  go_enter Try.func30, Try.ntmps30
  go_wp2_with (go_at_call 26; refine (kind_65 _).mono ?_; rintro e w' ⟨rfl, rfl⟩)
  go_ret
  exact ⟨rfl, rfl⟩

theorem lowest_65 (v : Int) (w : World) : Calls Try.prog 41 #[.int .i64 65, .int .u32 v] w fun e w' => e = .returned (.int .u32 (W.bitsOf v 0 32)) ∧ Below w.heap.size w w' := by
  go_enter Try.func41, Try.ntmps41
  go_wp2_with (first | (go_at_call 30; refine (size_65 _).mono ?_; rintro e w' ⟨rfl, rfl⟩) | (go_at_call 46; refine (bits_low _ _ _ _).mono ?_; rintro e w1 ⟨rfl, hb⟩))
  go_ret
  exact ⟨rfl, hb⟩

theorem kind_66 (w : World) : Calls Try.prog 26 #[.int .i64 66] w fun e w' => e = .returned (.int .i64 6) ∧ w = w' := kind_any 66 w

theorem size_66 (w : World) : Calls Try.prog 30 #[.int .i64 66] w fun e w' => e = .returned (.int .i64 4) ∧ w = w' := by
  go_enter Try.func30, Try.ntmps30
  go_wp2_with (go_at_call 26; refine (kind_66 _).mono ?_; rintro e w' ⟨rfl, rfl⟩)
  go_ret
  exact ⟨rfl, rfl⟩

theorem lowest_66 (v : Int) (w : World) : Calls Try.prog 41 #[.int .i64 66, .int .u32 v] w fun e w' => e = .returned (.int .u32 (W.bitsOf v 0 32)) ∧ Below w.heap.size w w' := by
  go_enter Try.func41, Try.ntmps41
  go_wp2_with (first | (go_at_call 30; refine (size_66 _).mono ?_; rintro e w' ⟨rfl, rfl⟩) | (go_at_call 46; refine (bits_low _ _ _ _).mono ?_; rintro e w1 ⟨rfl, hb⟩))
  go_ret
  exact ⟨rfl, hb⟩

theorem kind_67 (w : World) : Calls Try.prog 26 #[.int .i64 67] w fun e w' => e = .returned (.int .i64 6) ∧ w = w' := kind_any 67 w

theorem size_67 (w : World) : Calls Try.prog 30 #[.int .i64 67] w fun e w' => e = .returned (.int .i64 4) ∧ w = w' := by
  go_enter Try.func30, Try.ntmps30
  go_wp2_with (go_at_call 26; refine (kind_67 _).mono ?_; rintro e w' ⟨rfl, rfl⟩)
  go_ret
  exact ⟨rfl, rfl⟩

theorem lowest_67 (v : Int) (w : World) : Calls Try.prog 41 #[.int .i64 67, .int .u32 v] w fun e w' => e = .returned (.int .u32 (W.bitsOf v 0 32)) ∧ Below w.heap.size w w' := by
  go_enter Try.func41, Try.ntmps41
  go_wp2_with (first | (go_at_call 30; refine (size_67 _).mono ?_; rintro e w' ⟨rfl, rfl⟩) | (go_at_call 46; refine (bits_low _ _ _ _).mono ?_; rintro e w1 ⟨rfl, hb⟩))
  go_ret
  exact ⟨rfl, hb⟩

theorem kind_68 (w : World) : Calls Try.prog 26 #[.int .i64 68] w fun e w' => e = .returned (.int .i64 6) ∧ w = w' := kind_any 68 w

theorem size_68 (w : World) : Calls Try.prog 30 #[.int .i64 68] w fun e w' => e = .returned (.int .i64 4) ∧ w = w' := by
  go_enter Try.func30, Try.ntmps30
  go_wp2_with (go_at_call 26; refine (kind_68 _).mono ?_; rintro e w' ⟨rfl, rfl⟩)
  go_ret
  exact ⟨rfl, rfl⟩

theorem lowest_68 (v : Int) (w : World) : Calls Try.prog 41 #[.int .i64 68, .int .u32 v] w fun e w' => e = .returned (.int .u32 (W.bitsOf v 0 32)) ∧ Below w.heap.size w w' := by
  go_enter Try.func41, Try.ntmps41
  go_wp2_with (first | (go_at_call 30; refine (size_68 _).mono ?_; rintro e w' ⟨rfl, rfl⟩) | (go_at_call 46; refine (bits_low _ _ _ _).mono ?_; rintro e w1 ⟨rfl, hb⟩))
  go_ret
  exact ⟨rfl, hb⟩

theorem kind_69 (w : World) : Calls Try.prog 26 #[.int .i64 69] w fun e w' => e = .returned (.int .i64 6) ∧ w = w' := kind_any 69 w

theorem size_69 (w : World) : Calls Try.prog 30 #[.int .i64 69] w fun e w' => e = .returned (.int .i64 4) ∧ w = w' := by
  go_enter Try.func30, Try.ntmps30
  go_wp2_with (go_at_call 26; refine (kind_69 _).mono ?_; rintro e w' ⟨rfl, rfl⟩)
  go_ret
  exact ⟨rfl, rfl⟩

theorem lowest_69 (v : Int) (w : World) : Calls Try.prog 41 #[.int .i64 69, .int .u32 v] w fun e w' => e = .returned (.int .u32 (W.bitsOf v 0 32)) ∧ Below w.heap.size w w' := by
  go_enter Try.func41, Try.ntmps41
  go_wp2_with (first | (go_at_call 30; refine (size_69 _).mono ?_; rintro e w' ⟨rfl, rfl⟩) | (go_at_call 46; refine (bits_low _ _ _ _).mono ?_; rintro e w1 ⟨rfl, hb⟩))
  go_ret
  exact ⟨rfl, hb⟩

theorem cut_11 (v : Int) (w : World) : Calls Try.prog 29 #[.int .i64 11, .int .u32 v] w fun e w' => e = .returned (.int .u32 (0)) ∧ Below w.heap.size w w' := by
  have hb : Below w.heap.size w w := Below.refl _ _
  go_enter Try.func29, Try.ntmps29
  go_wp2_with (first | (go_at_call 26; refine (kind_11 _).mono ?_; rintro e w' ⟨rfl, rfl⟩) | (go_at_call 30; refine (size_11 _).mono ?_; rintro e w' ⟨rfl, rfl⟩) | (go_at_call 60; refine (sgn_any _ _ _).mono ?_; rintro e w' ⟨rfl, rfl⟩) | (go_at_call 41; refine (lowest_11 _ _).mono ?_; clear hb; rintro e w1 ⟨rfl, hb⟩))
  go_ret
  exact ⟨rfl, hb⟩

theorem cut_12 (v : Int) (w : World) : Calls Try.prog 29 #[.int .i64 12, .int .u32 v] w fun e w' => e = .returned (.int .u32 (0)) ∧ Below w.heap.size w w' := by
  have hb : Below w.heap.size w w := Below.refl _ _
  go_enter Try.func29, Try.ntmps29
  go_wp2_with (first | (go_at_call 26; refine (kind_12 _).mono ?_; rintro e w' ⟨rfl, rfl⟩) | (go_at_call 30; refine (size_12 _).mono ?_; rintro e w' ⟨rfl, rfl⟩) | (go_at_call 60; refine (sgn_any _ _ _).mono ?_; rintro e w' ⟨rfl, rfl⟩) | (go_at_call 41; refine (lowest_12 _ _).mono ?_; clear hb; rintro e w1 ⟨rfl, hb⟩))
  go_ret
  exact ⟨rfl, hb⟩

theorem cut_13 (v : Int) (w : World) : Calls Try.prog 29 #[.int .i64 13, .int .u32 v] w fun e w' => e = .returned (.int .u32 (0)) ∧ Below w.heap.size w w' := by
  have hb : Below w.heap.size w w := Below.refl _ _
  go_enter Try.func29, Try.ntmps29
  go_wp2_with (first | (go_at_call 26; refine (kind_13 _).mono ?_; rintro e w' ⟨rfl, rfl⟩) | (go_at_call 30; refine (size_13 _).mono ?_; rintro e w' ⟨rfl, rfl⟩) | (go_at_call 60; refine (sgn_any _ _ _).mono ?_; rintro e w' ⟨rfl, rfl⟩) | (go_at_call 41; refine (lowest_13 _ _).mono ?_; clear hb; rintro e w1 ⟨rfl, hb⟩))
  go_ret
  exact ⟨rfl, hb⟩

theorem cut_14 (v : Int) (w : World) : Calls Try.prog 29 #[.int .i64 14, .int .u32 v] w fun e w' => e = .returned (.int .u32 (0)) ∧ Below w.heap.size w w' := by
  have hb : Below w.heap.size w w := Below.refl _ _
  go_enter Try.func29, Try.ntmps29
  go_wp2_with (first | (go_at_call 26; refine (kind_14 _).mono ?_; rintro e w' ⟨rfl, rfl⟩) | (go_at_call 30; refine (size_14 _).mono ?_; rintro e w' ⟨rfl, rfl⟩) | (go_at_call 60; refine (sgn_any _ _ _).mono ?_; rintro e w' ⟨rfl, rfl⟩) | (go_at_call 41; refine (lowest_14 _ _).mono ?_; clear hb; rintro e w1 ⟨rfl, hb⟩))
  go_ret
  exact ⟨rfl, hb⟩

theorem cut_15 (v : Int) (w : World) : Calls Try.prog 29 #[.int .i64 15, .int .u32 v] w fun e w' => e = .returned (.int .u32 (0)) ∧ Below w.heap.size w w' := by
  have hb : Below w.heap.size w w := Below.refl _ _
  go_enter Try.func29, Try.ntmps29
  go_wp2_with (first | (go_at_call 26; refine (kind_15 _).mono ?_; rintro e w' ⟨rfl, rfl⟩) | (go_at_call 30; refine (size_15 _).mono ?_; rintro e w' ⟨rfl, rfl⟩) | (go_at_call 60; refine (sgn_any _ _ _).mono ?_; rintro e w' ⟨rfl, rfl⟩) | (go_at_call 41; refine (lowest_15 _ _).mono ?_; clear hb; rintro e w1 ⟨rfl, hb⟩))
  go_ret
  exact ⟨rfl, hb⟩

theorem cut_16 (v : Int) (w : World) : Calls Try.prog 29 #[.int .i64 16, .int .u32 v] w fun e w' => e = .returned (.int .u32 (W.bitsOf v 0 8)) ∧ Below w.heap.size w w' := by
  have hb : Below w.heap.size w w := Below.refl _ _
  go_enter Try.func29, Try.ntmps29
  go_wp2_with (first | (go_at_call 26; refine (kind_16 _).mono ?_; rintro e w' ⟨rfl, rfl⟩) | (go_at_call 30; refine (size_16 _).mono ?_; rintro e w' ⟨rfl, rfl⟩) | (go_at_call 60; refine (sgn_any _ _ _).mono ?_; rintro e w' ⟨rfl, rfl⟩) | (go_at_call 41; refine (lowest_16 _ _).mono ?_; clear hb; rintro e w1 ⟨rfl, hb⟩))
  go_ret
  exact ⟨rfl, hb⟩

theorem cut_17 (v : Int) (w : World) : Calls Try.prog 29 #[.int .i64 17, .int .u32 v] w fun e w' => e = .returned (.int .u32 (W.bitsOf v 0 16)) ∧ Below w.heap.size w w' := by
  have hb : Below w.heap.size w w := Below.refl _ _
  go_enter Try.func29, Try.ntmps29
  go_wp2_with (first | (go_at_call 26; refine (kind_17 _).mono ?_; rintro e w' ⟨rfl, rfl⟩) | (go_at_call 30; refine (size_17 _).mono ?_; rintro e w' ⟨rfl, rfl⟩) | (go_at_call 60; refine (sgn_any _ _ _).mono ?_; rintro e w' ⟨rfl, rfl⟩) | (go_at_call 41; refine (lowest_17 _ _).mono ?_; clear hb; rintro e w1 ⟨rfl, hb⟩))
  go_ret
  exact ⟨rfl, hb⟩

theorem cut_18 (v : Int) (w : World) : Calls Try.prog 29 #[.int .i64 18, .int .u32 v] w fun e w' => e = .returned (.int .u32 (W.bitsOf v 0 32)) ∧ Below w.heap.size w w' := by
  have hb : Below w.heap.size w w := Below.refl _ _
  go_enter Try.func29, Try.ntmps29
  go_wp2_with (first | (go_at_call 26; refine (kind_18 _).mono ?_; rintro e w' ⟨rfl, rfl⟩) | (go_at_call 30; refine (size_18 _).mono ?_; rintro e w' ⟨rfl, rfl⟩) | (go_at_call 60; refine (sgn_any _ _ _).mono ?_; rintro e w' ⟨rfl, rfl⟩) | (go_at_call 41; refine (lowest_18 _ _).mono ?_; clear hb; rintro e w1 ⟨rfl, hb⟩))
  go_ret
  exact ⟨rfl, hb⟩

theorem cut_59 (v : Int) (w : World) : Calls Try.prog 29 #[.int .i64 59, .int .u32 v] w fun e w' => e = .returned (.int .u32 (0)) ∧ Below w.heap.size w w' := by
  have hb : Below w.heap.size w w := Below.refl _ _
  go_enter Try.func29, Try.ntmps29
  go_wp2_with (first | (go_at_call 26; refine (kind_59 _).mono ?_; rintro e w' ⟨rfl, rfl⟩) | (go_at_call 30; refine (size_59 _).mono ?_; rintro e w' ⟨rfl, rfl⟩) | (go_at_call 60; refine (sgn_any _ _ _).mono ?_; rintro e w' ⟨rfl, rfl⟩) | (go_at_call 41; refine (lowest_59 _ _).mono ?_; clear hb; rintro e w1 ⟨rfl, hb⟩))
  go_ret
  exact ⟨rfl, hb⟩

theorem cut_60 (v : Int) (w : World) : Calls Try.prog 29 #[.int .i64 60, .int .u32 v] w fun e w' => e = .returned (.int .u32 (W.bitsOf v 0 32)) ∧ Below w.heap.size w w' := by
  have hb : Below w.heap.size w w := Below.refl _ _
  go_enter Try.func29, Try.ntmps29
  go_wp2_with (first | (go_at_call 26; refine (kind_60 _).mono ?_; rintro e w' ⟨rfl, rfl⟩) | (go_at_call 30; refine (size_60 _).mono ?_; rintro e w' ⟨rfl, rfl⟩) | (go_at_call 60; refine (sgn_any _ _ _).mono ?_; rintro e w' ⟨rfl, rfl⟩) | (go_at_call 41; refine (lowest_60 _ _).mono ?_; clear hb; rintro e w1 ⟨rfl, hb⟩))
  go_ret
  exact ⟨rfl, hb⟩

theorem cut_61 (v : Int) (w : World) : Calls Try.prog 29 #[.int .i64 61, .int .u32 v] w fun e w' => e = .returned (.int .u32 (0)) ∧ Below w.heap.size w w' := by
  have hb : Below w.heap.size w w := Below.refl _ _
  go_enter Try.func29, Try.ntmps29
  go_wp2_with (first | (go_at_call 26; refine (kind_61 _).mono ?_; rintro e w' ⟨rfl, rfl⟩) | (go_at_call 30; refine (size_61 _).mono ?_; rintro e w' ⟨rfl, rfl⟩) | (go_at_call 60; refine (sgn_any _ _ _).mono ?_; rintro e w' ⟨rfl, rfl⟩) | (go_at_call 41; refine (lowest_61 _ _).mono ?_; clear hb; rintro e w1 ⟨rfl, hb⟩))
  go_ret
  exact ⟨rfl, hb⟩

theorem cut_62 (v : Int) (w : World) : Calls Try.prog 29 #[.int .i64 62, .int .u32 v] w fun e w' => e = .returned (.int .u32 (0)) ∧ Below w.heap.size w w' := by
  have hb : Below w.heap.size w w := Below.refl _ _
  go_enter Try.func29, Try.ntmps29
  go_wp2_with (first | (go_at_call 26; refine (kind_62 _).mono ?_; rintro e w' ⟨rfl, rfl⟩) | (go_at_call 30; refine (size_62 _).mono ?_; rintro e w' ⟨rfl, rfl⟩) | (go_at_call 60; refine (sgn_any _ _ _).mono ?_; rintro e w' ⟨rfl, rfl⟩) | (go_at_call 41; refine (lowest_62 _ _).mono ?_; clear hb; rintro e w1 ⟨rfl, hb⟩))
  go_ret
  exact ⟨rfl, hb⟩

theorem cut_63 (v : Int) (w : World) : Calls Try.prog 29 #[.int .i64 63, .int .u32 v] w fun e w' => e = .returned (.int .u32 (0)) ∧ Below w.heap.size w w' := by
  have hb : Below w.heap.size w w := Below.refl _ _
  go_enter Try.func29, Try.ntmps29
  go_wp2_with (first | (go_at_call 26; refine (kind_63 _).mono ?_; rintro e w' ⟨rfl, rfl⟩) | (go_at_call 30; refine (size_63 _).mono ?_; rintro e w' ⟨rfl, rfl⟩) | (go_at_call 60; refine (sgn_any _ _ _).mono ?_; rintro e w' ⟨rfl, rfl⟩) | (go_at_call 41; refine (lowest_63 _ _).mono ?_; clear hb; rintro e w1 ⟨rfl, hb⟩))
  go_ret
  exact ⟨rfl, hb⟩

theorem cut_64 (v : Int) (w : World) : Calls Try.prog 29 #[.int .i64 64, .int .u32 v] w fun e w' => e = .returned (.int .u32 (0)) ∧ Below w.heap.size w w' := by
  have hb : Below w.heap.size w w := Below.refl _ _
  go_enter Try.func29, Try.ntmps29
  go_wp2_with (first | (go_at_call 26; refine (kind_64 _).mono ?_; rintro e w' ⟨rfl, rfl⟩) | (go_at_call 30; refine (size_64 _).mono ?_; rintro e w' ⟨rfl, rfl⟩) | (go_at_call 60; refine (sgn_any _ _ _).mono ?_; rintro e w' ⟨rfl, rfl⟩) | (go_at_call 41; refine (lowest_64 _ _).mono ?_; clear hb; rintro e w1 ⟨rfl, hb⟩))
  go_ret
  exact ⟨rfl, hb⟩

theorem cut_65 (v : Int) (w : World) : Calls Try.prog 29 #[.int .i64 65, .int .u32 v] w fun e w' => e = .returned (.int .u32 (0)) ∧ Below w.heap.size w w' := by
  have hb : Below w.heap.size w w := Below.refl _ _
  go_enter Try.func29, Try.ntmps29
  go_wp2_with (first | (go_at_call 26; refine (kind_65 _).mono ?_; rintro e w' ⟨rfl, rfl⟩) | (go_at_call 30; refine (size_65 _).mono ?_; rintro e w' ⟨rfl, rfl⟩) | (go_at_call 60; refine (sgn_any _ _ _).mono ?_; rintro e w' ⟨rfl, rfl⟩) | (go_at_call 41; refine (lowest_65 _ _).mono ?_; clear hb; rintro e w1 ⟨rfl, hb⟩))
  go_ret
  exact ⟨rfl, hb⟩

theorem cut_66 (v : Int) (w : World) : Calls Try.prog 29 #[.int .i64 66, .int .u32 v] w fun e w' => e = .returned (.int .u32 (0)) ∧ Below w.heap.size w w' := by
  have hb : Below w.heap.size w w := Below.refl _ _
  go_enter Try.func29, Try.ntmps29
  go_wp2_with (first | (go_at_call 26; refine (kind_66 _).mono ?_; rintro e w' ⟨rfl, rfl⟩) | (go_at_call 30; refine (size_66 _).mono ?_; rintro e w' ⟨rfl, rfl⟩) | (go_at_call 60; refine (sgn_any _ _ _).mono ?_; rintro e w' ⟨rfl, rfl⟩) | (go_at_call 41; refine (lowest_66 _ _).mono ?_; clear hb; rintro e w1 ⟨rfl, hb⟩))
  go_ret
  exact ⟨rfl, hb⟩

theorem cut_67 (v : Int) (w : World) : Calls Try.prog 29 #[.int .i64 67, .int .u32 v] w fun e w' => e = .returned (.int .u32 (0)) ∧ Below w.heap.size w w' := by
  have hb : Below w.heap.size w w := Below.refl _ _
  go_enter Try.func29, Try.ntmps29
  go_wp2_with (first | (go_at_call 26; refine (kind_67 _).mono ?_; rintro e w' ⟨rfl, rfl⟩) | (go_at_call 30; refine (size_67 _).mono ?_; rintro e w' ⟨rfl, rfl⟩) | (go_at_call 60; refine (sgn_any _ _ _).mono ?_; rintro e w' ⟨rfl, rfl⟩) | (go_at_call 41; refine (lowest_67 _ _).mono ?_; clear hb; rintro e w1 ⟨rfl, hb⟩))
  go_ret
  exact ⟨rfl, hb⟩

theorem cut_68 (v : Int) (w : World) : Calls Try.prog 29 #[.int .i64 68, .int .u32 v] w fun e w' => e = .returned (.int .u32 (0)) ∧ Below w.heap.size w w' := by
  have hb : Below w.heap.size w w := Below.refl _ _
  go_enter Try.func29, Try.ntmps29
  go_wp2_with (first | (go_at_call 26; refine (kind_68 _).mono ?_; rintro e w' ⟨rfl, rfl⟩) | (go_at_call 30; refine (size_68 _).mono ?_; rintro e w' ⟨rfl, rfl⟩) | (go_at_call 60; refine (sgn_any _ _ _).mono ?_; rintro e w' ⟨rfl, rfl⟩) | (go_at_call 41; refine (lowest_68 _ _).mono ?_; clear hb; rintro e w1 ⟨rfl, hb⟩))
  go_ret
  exact ⟨rfl, hb⟩

theorem cut_69 (v : Int) (w : World) : Calls Try.prog 29 #[.int .i64 69, .int .u32 v] w fun e w' => e = .returned (.int .u32 (0)) ∧ Below w.heap.size w w' := by
  have hb : Below w.heap.size w w := Below.refl _ _
  go_enter Try.func29, Try.ntmps29
  go_wp2_with (first | (go_at_call 26; refine (kind_69 _).mono ?_; rintro e w' ⟨rfl, rfl⟩) | (go_at_call 30; refine (size_69 _).mono ?_; rintro e w' ⟨rfl, rfl⟩) | (go_at_call 60; refine (sgn_any _ _ _).mono ?_; rintro e w' ⟨rfl, rfl⟩) | (go_at_call 41; refine (lowest_69 _ _).mono ?_; clear hb; rintro e w1 ⟨rfl, hb⟩))
  go_ret
  exact ⟨rfl, hb⟩

theorem cut_any (op v : Int) (w : World) : Calls Try.prog 29 #[.int .i64 op, .int .u32 v] w fun e w' => e = .returned (.int .u32 (W.cut op v)) ∧ Below w.heap.size w w' := by
  cases h : W.memB op
  · obtain ⟨h11, h12, h13, h14, h15, h16, h17, h18, h59, h60, k4, k5, k6, z0, r1, r2⟩ := W.memB_none h
    have hv : Hid (W.cut op v = 0) := (W.cut_none v h : W.cut op v = 0)
    clear h z0 r1 r2
    go_enter Try.func29, Try.ntmps29
    go_wp2_with (go_at_call 26; refine (kind_any _ _).mono ?_; rintro e w' ⟨rfl, rfl⟩)
    go_ret
    exact ⟨ret_int hv.out.symm, Below.refl _ _⟩
  · rcases W.memB_cases h with rfl | rfl | rfl | rfl | rfl | rfl | rfl | rfl | rfl | rfl | rfl | rfl | rfl | rfl | rfl | rfl | rfl | rfl | rfl
    · exact cut_11 v w
    · exact cut_12 v w
    · exact cut_13 v w
    · exact cut_14 v w
    · exact cut_15 v w
    · exact cut_16 v w
    · exact cut_17 v w
    · exact cut_18 v w
    · exact cut_59 v w
    · exact cut_60 v w
    · exact cut_61 v w
    · exact cut_62 v w
    · exact cut_63 v w
    · exact cut_64 v w
    · exact cut_65 v w
    · exact cut_66 v w
    · exact cut_67 v w
    · exact cut_68 v w
    · exact cut_69 v w

theorem size_any (op : Int) (w : World) : Calls Try.prog 30 #[.int .i64 op] w fun e w' => e = .returned (.int .i64 (W.sz op)) ∧ w = w' := by
  cases h : W.memB op
  · obtain ⟨h11, h12, h13, h14, h15, h16, h17, h18, h59, h60, k4, k5, k6, z0, r1, r2⟩ := W.memB_none h
    have hv : Hid (W.sz op = 0) := z0
    clear h z0 r1 r2
    go_enter Try.func30, Try.ntmps30
    go_wp2_with (go_at_call 26; refine (kind_any _ _).mono ?_; rintro e w' ⟨rfl, rfl⟩)
    go_ret
    exact ⟨ret_int hv.out.symm, rfl⟩
  · rcases W.memB_cases h with rfl | rfl | rfl | rfl | rfl | rfl | rfl | rfl | rfl | rfl | rfl | rfl | rfl | rfl | rfl | rfl | rfl | rfl | rfl
    · exact size_11 w
    · exact size_12 w
    · exact size_13 w
    · exact size_14 w
    · exact size_15 w
    · exact size_16 w
    · exact size_17 w
    · exact size_18 w
    · exact size_59 w
    · exact size_60 w
    · exact size_61 w
    · exact size_62 w
    · exact size_63 w
    · exact size_64 w
    · exact size_65 w
    · exact size_66 w
    · exact size_67 w
    · exact size_68 w
    · exact size_69 w

end Go.Proofs.Ytopehmpjfndgjaa
