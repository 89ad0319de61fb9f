/- Texts in one: AluA. -/
import Derived.Test.YteilpehekabccabGreatDoorJ01
import Derived.Test.YteilpehekabccabGreatDoorJ06
/- What the calls of package alu return: a contract a call, by instruction. -/
namespace Go.Proofs.YteilpehekabccabGreatDoor
open Go.ChangeShapes Go.WideShapes Go.ChangeAt Go.RowKit
set_option linter.unusedVariables false
set_option linter.unusedSimpArgs false

theorem wrap_word {b : Int} (b0 : 0 ≤ b) (b1 : b < 4294967296) : wrap64 b = b := by unfold wrap64; omega

theorem abit_any (b : Bool) (w : World) :
    Calls Tryz.prog 112 #[.bool b] w fun e w' => e = .returned (.int .u32 (W.one b)) ∧ w = w' := by
  cases b
  all_goals
    go_enter Tryz.func112, Tryz.ntmps112
    go_wp2
    go_ret
    exact ⟨rfl, rfl⟩

theorem least_any (a b : Int) (s : Bool) (w : World) :
    Calls Tryz.prog 116 #[.int .u32 a, .int .u32 b, .bool s] w fun e w' => e = .returned (.int .u32 (W.least a b s)) ∧ w = w' := by
  cases h : W.less b a s
  all_goals
    have hv : Hid (W.least a b s = bif W.less b a s then b else a) := (rfl : W.least a b s = _)
    go_enter Tryz.func116, Tryz.ntmps116
    go_wp2_with (go_at_call 110; refine (less_any _ _ _ _).mono ?_; rintro e w' ⟨rfl, rfl⟩)
    go_ret
    exact ⟨ret_int (by rw [hv.out, h]; rfl), rfl⟩

theorem most_any (a b : Int) (s : Bool) (w : World) :
    Calls Tryz.prog 117 #[.int .u32 a, .int .u32 b, .bool s] w fun e w' => e = .returned (.int .u32 (W.most a b s)) ∧ w = w' := by
  cases h : W.less a b s
  all_goals
    have hv : Hid (W.most a b s = bif W.less a b s then b else a) := (rfl : W.most a b s = _)
    go_enter Tryz.func117, Tryz.ntmps117
    go_wp2_with (go_at_call 110; refine (less_any _ _ _ _).mono ?_; rintro e w' ⟨rfl, rfl⟩)
    go_ret
    exact ⟨ret_int (by rw [hv.out, h]; rfl), rfl⟩

theorem mul_51 (a b : Int) (a0 : 0 ≤ a) (a1 : a < 4294967296) (b0 : 0 ≤ b) (b1 : b < 4294967296) (w : World) :
    Calls Tryz.prog 114 #[.int .i64 51, .int .u32 a, .int .u32 b] w fun e w' => e = .returned (.tuple #[.int .u32 (a * b % 4294967296), .bool true]) ∧ w = w' := by
  have hwb := wrap_word b0 b1
  have hwa := wrap_word a0 a1
  go_enter Tryz.func114, Tryz.ntmps114
  go_wp2_with (first | (go_at_call 125; refine (high_any _ _ _ _ _).mono ?_; rintro e w' ⟨rfl, rfl⟩) | (go_at_call 126; refine (div_any _ _ _ b0 b1 _).mono ?_; rintro e w' ⟨rfl, rfl⟩) | (go_at_call 127; refine (rem_any _ _ _ b0 b1 _).mono ?_; rintro e w' ⟨rfl, rfl⟩))
  exact bodyPost_ret (v := .tuple #[.int .u32 (a * b % 4294967296), .bool true]) (by simp [results, Tryz.results114, go_sem]) rfl ⟨rfl, rfl⟩

theorem mul_52 (a b : Int) (a0 : 0 ≤ a) (a1 : a < 4294967296) (b0 : 0 ≤ b) (b1 : b < 4294967296) (w : World) :
    Calls Tryz.prog 114 #[.int .i64 52, .int .u32 a, .int .u32 b] w fun e w' => e = .returned (.tuple #[.int .u32 (W.high a b true true), .bool true]) ∧ w = w' := by
  have hwb := wrap_word b0 b1
  have hwa := wrap_word a0 a1
  go_enter Tryz.func114, Tryz.ntmps114
  go_wp2_with (first | (go_at_call 125; refine (high_any _ _ _ _ _).mono ?_; rintro e w' ⟨rfl, rfl⟩) | (go_at_call 126; refine (div_any _ _ _ b0 b1 _).mono ?_; rintro e w' ⟨rfl, rfl⟩) | (go_at_call 127; refine (rem_any _ _ _ b0 b1 _).mono ?_; rintro e w' ⟨rfl, rfl⟩))
  exact bodyPost_ret (v := .tuple #[.int .u32 (W.high a b true true), .bool true]) (by simp [results, Tryz.results114, go_sem]) rfl ⟨rfl, rfl⟩

theorem mul_53 (a b : Int) (a0 : 0 ≤ a) (a1 : a < 4294967296) (b0 : 0 ≤ b) (b1 : b < 4294967296) (w : World) :
    Calls Tryz.prog 114 #[.int .i64 53, .int .u32 a, .int .u32 b] w fun e w' => e = .returned (.tuple #[.int .u32 (W.high a b true false), .bool true]) ∧ w = w' := by
  have hwb := wrap_word b0 b1
  have hwa := wrap_word a0 a1
  go_enter Tryz.func114, Tryz.ntmps114
  go_wp2_with (first | (go_at_call 125; refine (high_any _ _ _ _ _).mono ?_; rintro e w' ⟨rfl, rfl⟩) | (go_at_call 126; refine (div_any _ _ _ b0 b1 _).mono ?_; rintro e w' ⟨rfl, rfl⟩) | (go_at_call 127; refine (rem_any _ _ _ b0 b1 _).mono ?_; rintro e w' ⟨rfl, rfl⟩))
  exact bodyPost_ret (v := .tuple #[.int .u32 (W.high a b true false), .bool true]) (by simp [results, Tryz.results114, go_sem]) rfl ⟨rfl, rfl⟩

theorem mul_54 (a b : Int) (a0 : 0 ≤ a) (a1 : a < 4294967296) (b0 : 0 ≤ b) (b1 : b < 4294967296) (w : World) :
    Calls Tryz.prog 114 #[.int .i64 54, .int .u32 a, .int .u32 b] w fun e w' => e = .returned (.tuple #[.int .u32 (W.high a b false false), .bool true]) ∧ w = w' := by
  have hwb := wrap_word b0 b1
  have hwa := wrap_word a0 a1
  go_enter Tryz.func114, Tryz.ntmps114
  go_wp2_with (first | (go_at_call 125; refine (high_any _ _ _ _ _).mono ?_; rintro e w' ⟨rfl, rfl⟩) | (go_at_call 126; refine (div_any _ _ _ b0 b1 _).mono ?_; rintro e w' ⟨rfl, rfl⟩) | (go_at_call 127; refine (rem_any _ _ _ b0 b1 _).mono ?_; rintro e w' ⟨rfl, rfl⟩))
  exact bodyPost_ret (v := .tuple #[.int .u32 (W.high a b false false), .bool true]) (by simp [results, Tryz.results114, go_sem]) rfl ⟨rfl, rfl⟩

theorem mul_55 (a b : Int) (a0 : 0 ≤ a) (a1 : a < 4294967296) (b0 : 0 ≤ b) (b1 : b < 4294967296) (w : World) :
    Calls Tryz.prog 114 #[.int .i64 55, .int .u32 a, .int .u32 b] w fun e w' => e = .returned (.tuple #[.int .u32 (W.div a b true), .bool true]) ∧ w = w' := by
  have hwb := wrap_word b0 b1
  have hwa := wrap_word a0 a1
  go_enter Tryz.func114, Tryz.ntmps114
  go_wp2_with (first | (go_at_call 125; refine (high_any _ _ _ _ _).mono ?_; rintro e w' ⟨rfl, rfl⟩) | (go_at_call 126; refine (div_any _ _ _ b0 b1 _).mono ?_; rintro e w' ⟨rfl, rfl⟩) | (go_at_call 127; refine (rem_any _ _ _ b0 b1 _).mono ?_; rintro e w' ⟨rfl, rfl⟩))
  exact bodyPost_ret (v := .tuple #[.int .u32 (W.div a b true), .bool true]) (by simp [results, Tryz.results114, go_sem]) rfl ⟨rfl, rfl⟩

theorem mul_56 (a b : Int) (a0 : 0 ≤ a) (a1 : a < 4294967296) (b0 : 0 ≤ b) (b1 : b < 4294967296) (w : World) :
    Calls Tryz.prog 114 #[.int .i64 56, .int .u32 a, .int .u32 b] w fun e w' => e = .returned (.tuple #[.int .u32 (W.div a b false), .bool true]) ∧ w = w' := by
  have hwb := wrap_word b0 b1
  have hwa := wrap_word a0 a1
  go_enter Tryz.func114, Tryz.ntmps114
  go_wp2_with (first | (go_at_call 125; refine (high_any _ _ _ _ _).mono ?_; rintro e w' ⟨rfl, rfl⟩) | (go_at_call 126; refine (div_any _ _ _ b0 b1 _).mono ?_; rintro e w' ⟨rfl, rfl⟩) | (go_at_call 127; refine (rem_any _ _ _ b0 b1 _).mono ?_; rintro e w' ⟨rfl, rfl⟩))
  exact bodyPost_ret (v := .tuple #[.int .u32 (W.div a b false), .bool true]) (by simp [results, Tryz.results114, go_sem]) rfl ⟨rfl, rfl⟩

theorem mul_57 (a b : Int) (a0 : 0 ≤ a) (a1 : a < 4294967296) (b0 : 0 ≤ b) (b1 : b < 4294967296) (w : World) :
    Calls Tryz.prog 114 #[.int .i64 57, .int .u32 a, .int .u32 b] w fun e w' => e = .returned (.tuple #[.int .u32 (W.rem a b true), .bool true]) ∧ w = w' := by
  have hwb := wrap_word b0 b1
  have hwa := wrap_word a0 a1
  go_enter Tryz.func114, Tryz.ntmps114
  go_wp2_with (first | (go_at_call 125; refine (high_any _ _ _ _ _).mono ?_; rintro e w' ⟨rfl, rfl⟩) | (go_at_call 126; refine (div_any _ _ _ b0 b1 _).mono ?_; rintro e w' ⟨rfl, rfl⟩) | (go_at_call 127; refine (rem_any _ _ _ b0 b1 _).mono ?_; rintro e w' ⟨rfl, rfl⟩))
  exact bodyPost_ret (v := .tuple #[.int .u32 (W.rem a b true), .bool true]) (by simp [results, Tryz.results114, go_sem]) rfl ⟨rfl, rfl⟩

theorem mul_58 (a b : Int) (a0 : 0 ≤ a) (a1 : a < 4294967296) (b0 : 0 ≤ b) (b1 : b < 4294967296) (w : World) :
    Calls Tryz.prog 114 #[.int .i64 58, .int .u32 a, .int .u32 b] w fun e w' => e = .returned (.tuple #[.int .u32 (W.rem a b false), .bool true]) ∧ w = w' := by
  have hwb := wrap_word b0 b1
  have hwa := wrap_word a0 a1
  go_enter Tryz.func114, Tryz.ntmps114
  go_wp2_with (first | (go_at_call 125; refine (high_any _ _ _ _ _).mono ?_; rintro e w' ⟨rfl, rfl⟩) | (go_at_call 126; refine (div_any _ _ _ b0 b1 _).mono ?_; rintro e w' ⟨rfl, rfl⟩) | (go_at_call 127; refine (rem_any _ _ _ b0 b1 _).mono ?_; rintro e w' ⟨rfl, rfl⟩))
  exact bodyPost_ret (v := .tuple #[.int .u32 (W.rem a b false), .bool true]) (by simp [results, Tryz.results114, go_sem]) rfl ⟨rfl, rfl⟩

theorem mul_none (op a b : Int) (a0 : 0 ≤ a) (a1 : a < 4294967296) (b0 : 0 ≤ b) (b1 : b < 4294967296) (h : W.doB op = false) (w : World) :
    Calls Tryz.prog 114 #[.int .i64 op, .int .u32 a, .int .u32 b] w fun e w' => e = .returned (.tuple #[.int .u32 0, .bool false]) ∧ w = w' := by
  obtain ⟨h19, h20, h21, h22, h23, h24, h25, h26, h27, h28, h29, h30, h31, h32, h33, h34, h35, h36, h37, h51, h52, h53, h54, h55, h56, h57, h58⟩ := W.doB_none h
  have H : Hid (W.doB op = false) := h
  clear h
  go_enter Tryz.func114, Tryz.ntmps114
  go_wp2
  exact bodyPost_ret (v := .tuple #[.int .u32 0, .bool false]) (by simp [results, Tryz.results114, go_sem]) rfl ⟨rfl, rfl⟩

theorem do_19 (a b : Int) (a0 : 0 ≤ a) (a1 : a < 4294967296) (b0 : 0 ≤ b) (b1 : b < 4294967296) (w : World) :
    Calls Tryz.prog 90 #[.int .i64 19, .int .u32 a, .int .u32 b] w fun e w' => e = .returned (.tuple #[.int .u32 ((a + b) % 4294967296), .bool true]) ∧ w = w' := by
  have hwb := wrap_word b0 b1
  have hwa := wrap_word a0 a1
  go_enter Tryz.func90, Tryz.ntmps90
  go_wp2_with (first | (go_at_call 111; refine (left_any _ _ _).mono ?_; rintro e w' ⟨rfl, rfl⟩) | (go_at_call 113; refine (right_any _ _ _ _).mono ?_; rintro e w' ⟨rfl, rfl⟩) | (go_at_call 110; refine (less_any _ _ _ _).mono ?_; rintro e w' ⟨rfl, rfl⟩) | (go_at_call 112; refine (abit_any _ _).mono ?_; rintro e w' ⟨rfl, rfl⟩))
  exact bodyPost_ret (v := .tuple #[.int .u32 ((a + b) % 4294967296), .bool true]) (by simp [results, Tryz.results90, go_sem]) rfl ⟨rfl, rfl⟩

theorem do_20 (a b : Int) (a0 : 0 ≤ a) (a1 : a < 4294967296) (b0 : 0 ≤ b) (b1 : b < 4294967296) (w : World) :
    Calls Tryz.prog 90 #[.int .i64 20, .int .u32 a, .int .u32 b] w fun e w' => e = .returned (.tuple #[.int .u32 (W.one (W.less a b true)), .bool true]) ∧ w = w' := by
  have hwb := wrap_word b0 b1
  have hwa := wrap_word a0 a1
  go_enter Tryz.func90, Tryz.ntmps90
  go_wp2_with (first | (go_at_call 111; refine (left_any _ _ _).mono ?_; rintro e w' ⟨rfl, rfl⟩) | (go_at_call 113; refine (right_any _ _ _ _).mono ?_; rintro e w' ⟨rfl, rfl⟩) | (go_at_call 110; refine (less_any _ _ _ _).mono ?_; rintro e w' ⟨rfl, rfl⟩) | (go_at_call 112; refine (abit_any _ _).mono ?_; rintro e w' ⟨rfl, rfl⟩))
  exact bodyPost_ret (v := .tuple #[.int .u32 (W.one (W.less a b true)), .bool true]) (by simp [results, Tryz.results90, go_sem]) rfl ⟨rfl, rfl⟩

theorem do_21 (a b : Int) (a0 : 0 ≤ a) (a1 : a < 4294967296) (b0 : 0 ≤ b) (b1 : b < 4294967296) (w : World) :
    Calls Tryz.prog 90 #[.int .i64 21, .int .u32 a, .int .u32 b] w fun e w' => e = .returned (.tuple #[.int .u32 (W.one (W.less a b false)), .bool true]) ∧ w = w' := by
  have hwb := wrap_word b0 b1
  have hwa := wrap_word a0 a1
  go_enter Tryz.func90, Tryz.ntmps90
  go_wp2_with (first | (go_at_call 111; refine (left_any _ _ _).mono ?_; rintro e w' ⟨rfl, rfl⟩) | (go_at_call 113; refine (right_any _ _ _ _).mono ?_; rintro e w' ⟨rfl, rfl⟩) | (go_at_call 110; refine (less_any _ _ _ _).mono ?_; rintro e w' ⟨rfl, rfl⟩) | (go_at_call 112; refine (abit_any _ _).mono ?_; rintro e w' ⟨rfl, rfl⟩))
  exact bodyPost_ret (v := .tuple #[.int .u32 (W.one (W.less a b false)), .bool true]) (by simp [results, Tryz.results90, go_sem]) rfl ⟨rfl, rfl⟩

theorem do_22 (a b : Int) (a0 : 0 ≤ a) (a1 : a < 4294967296) (b0 : 0 ≤ b) (b1 : b < 4294967296) (w : World) :
    Calls Tryz.prog 90 #[.int .i64 22, .int .u32 a, .int .u32 b] w fun e w' => e = .returned (.tuple #[.int .u32 (bits .xor .u32 a b), .bool true]) ∧ w = w' := by
  have hwb := wrap_word b0 b1
  have hwa := wrap_word a0 a1
  go_enter Tryz.func90, Tryz.ntmps90
  go_wp2_with (first | (go_at_call 111; refine (left_any _ _ _).mono ?_; rintro e w' ⟨rfl, rfl⟩) | (go_at_call 113; refine (right_any _ _ _ _).mono ?_; rintro e w' ⟨rfl, rfl⟩) | (go_at_call 110; refine (less_any _ _ _ _).mono ?_; rintro e w' ⟨rfl, rfl⟩) | (go_at_call 112; refine (abit_any _ _).mono ?_; rintro e w' ⟨rfl, rfl⟩))
  exact bodyPost_ret (v := .tuple #[.int .u32 (bits .xor .u32 a b), .bool true]) (by simp [results, Tryz.results90, go_sem]) rfl ⟨rfl, rfl⟩

theorem do_23 (a b : Int) (a0 : 0 ≤ a) (a1 : a < 4294967296) (b0 : 0 ≤ b) (b1 : b < 4294967296) (w : World) :
    Calls Tryz.prog 90 #[.int .i64 23, .int .u32 a, .int .u32 b] w fun e w' => e = .returned (.tuple #[.int .u32 (bits .or .u32 a b), .bool true]) ∧ w = w' := by
  have hwb := wrap_word b0 b1
  have hwa := wrap_word a0 a1
  go_enter Tryz.func90, Tryz.ntmps90
  go_wp2_with (first | (go_at_call 111; refine (left_any _ _ _).mono ?_; rintro e w' ⟨rfl, rfl⟩) | (go_at_call 113; refine (right_any _ _ _ _).mono ?_; rintro e w' ⟨rfl, rfl⟩) | (go_at_call 110; refine (less_any _ _ _ _).mono ?_; rintro e w' ⟨rfl, rfl⟩) | (go_at_call 112; refine (abit_any _ _).mono ?_; rintro e w' ⟨rfl, rfl⟩))
  exact bodyPost_ret (v := .tuple #[.int .u32 (bits .or .u32 a b), .bool true]) (by simp [results, Tryz.results90, go_sem]) rfl ⟨rfl, rfl⟩

theorem do_24 (a b : Int) (a0 : 0 ≤ a) (a1 : a < 4294967296) (b0 : 0 ≤ b) (b1 : b < 4294967296) (w : World) :
    Calls Tryz.prog 90 #[.int .i64 24, .int .u32 a, .int .u32 b] w fun e w' => e = .returned (.tuple #[.int .u32 (bits .and .u32 a b), .bool true]) ∧ w = w' := by
  have hwb := wrap_word b0 b1
  have hwa := wrap_word a0 a1
  go_enter Tryz.func90, Tryz.ntmps90
  go_wp2_with (first | (go_at_call 111; refine (left_any _ _ _).mono ?_; rintro e w' ⟨rfl, rfl⟩) | (go_at_call 113; refine (right_any _ _ _ _).mono ?_; rintro e w' ⟨rfl, rfl⟩) | (go_at_call 110; refine (less_any _ _ _ _).mono ?_; rintro e w' ⟨rfl, rfl⟩) | (go_at_call 112; refine (abit_any _ _).mono ?_; rintro e w' ⟨rfl, rfl⟩))
  exact bodyPost_ret (v := .tuple #[.int .u32 (bits .and .u32 a b), .bool true]) (by simp [results, Tryz.results90, go_sem]) rfl ⟨rfl, rfl⟩

theorem do_25 (a b : Int) (a0 : 0 ≤ a) (a1 : a < 4294967296) (b0 : 0 ≤ b) (b1 : b < 4294967296) (w : World) :
    Calls Tryz.prog 90 #[.int .i64 25, .int .u32 a, .int .u32 b] w fun e w' => e = .returned (.tuple #[.int .u32 (W.left a b), .bool true]) ∧ w = w' := by
  have hwb := wrap_word b0 b1
  have hwa := wrap_word a0 a1
  go_enter Tryz.func90, Tryz.ntmps90
  go_wp2_with (first | (go_at_call 111; refine (left_any _ _ _).mono ?_; rintro e w' ⟨rfl, rfl⟩) | (go_at_call 113; refine (right_any _ _ _ _).mono ?_; rintro e w' ⟨rfl, rfl⟩) | (go_at_call 110; refine (less_any _ _ _ _).mono ?_; rintro e w' ⟨rfl, rfl⟩) | (go_at_call 112; refine (abit_any _ _).mono ?_; rintro e w' ⟨rfl, rfl⟩))
  exact bodyPost_ret (v := .tuple #[.int .u32 (W.left a b), .bool true]) (by simp [results, Tryz.results90, go_sem]) rfl ⟨rfl, rfl⟩

theorem do_26 (a b : Int) (a0 : 0 ≤ a) (a1 : a < 4294967296) (b0 : 0 ≤ b) (b1 : b < 4294967296) (w : World) :
    Calls Tryz.prog 90 #[.int .i64 26, .int .u32 a, .int .u32 b] w fun e w' => e = .returned (.tuple #[.int .u32 (W.right a b false), .bool true]) ∧ w = w' := by
  have hwb := wrap_word b0 b1
  have hwa := wrap_word a0 a1
  go_enter Tryz.func90, Tryz.ntmps90
  go_wp2_with (first | (go_at_call 111; refine (left_any _ _ _).mono ?_; rintro e w' ⟨rfl, rfl⟩) | (go_at_call 113; refine (right_any _ _ _ _).mono ?_; rintro e w' ⟨rfl, rfl⟩) | (go_at_call 110; refine (less_any _ _ _ _).mono ?_; rintro e w' ⟨rfl, rfl⟩) | (go_at_call 112; refine (abit_any _ _).mono ?_; rintro e w' ⟨rfl, rfl⟩))
  exact bodyPost_ret (v := .tuple #[.int .u32 (W.right a b false), .bool true]) (by simp [results, Tryz.results90, go_sem]) rfl ⟨rfl, rfl⟩

theorem do_27 (a b : Int) (a0 : 0 ≤ a) (a1 : a < 4294967296) (b0 : 0 ≤ b) (b1 : b < 4294967296) (w : World) :
    Calls Tryz.prog 90 #[.int .i64 27, .int .u32 a, .int .u32 b] w fun e w' => e = .returned (.tuple #[.int .u32 (W.right a b true), .bool true]) ∧ w = w' := by
  have hwb := wrap_word b0 b1
  have hwa := wrap_word a0 a1
  go_enter Tryz.func90, Tryz.ntmps90
  go_wp2_with (first | (go_at_call 111; refine (left_any _ _ _).mono ?_; rintro e w' ⟨rfl, rfl⟩) | (go_at_call 113; refine (right_any _ _ _ _).mono ?_; rintro e w' ⟨rfl, rfl⟩) | (go_at_call 110; refine (less_any _ _ _ _).mono ?_; rintro e w' ⟨rfl, rfl⟩) | (go_at_call 112; refine (abit_any _ _).mono ?_; rintro e w' ⟨rfl, rfl⟩))
  exact bodyPost_ret (v := .tuple #[.int .u32 (W.right a b true), .bool true]) (by simp [results, Tryz.results90, go_sem]) rfl ⟨rfl, rfl⟩

theorem do_28 (a b : Int) (a0 : 0 ≤ a) (a1 : a < 4294967296) (b0 : 0 ≤ b) (b1 : b < 4294967296) (w : World) :
    Calls Tryz.prog 90 #[.int .i64 28, .int .u32 a, .int .u32 b] w fun e w' => e = .returned (.tuple #[.int .u32 ((a + b) % 4294967296), .bool true]) ∧ w = w' := by
  have hwb := wrap_word b0 b1
  have hwa := wrap_word a0 a1
  go_enter Tryz.func90, Tryz.ntmps90
  go_wp2_with (first | (go_at_call 111; refine (left_any _ _ _).mono ?_; rintro e w' ⟨rfl, rfl⟩) | (go_at_call 113; refine (right_any _ _ _ _).mono ?_; rintro e w' ⟨rfl, rfl⟩) | (go_at_call 110; refine (less_any _ _ _ _).mono ?_; rintro e w' ⟨rfl, rfl⟩) | (go_at_call 112; refine (abit_any _ _).mono ?_; rintro e w' ⟨rfl, rfl⟩))
  exact bodyPost_ret (v := .tuple #[.int .u32 ((a + b) % 4294967296), .bool true]) (by simp [results, Tryz.results90, go_sem]) rfl ⟨rfl, rfl⟩

theorem do_29 (a b : Int) (a0 : 0 ≤ a) (a1 : a < 4294967296) (b0 : 0 ≤ b) (b1 : b < 4294967296) (w : World) :
    Calls Tryz.prog 90 #[.int .i64 29, .int .u32 a, .int .u32 b] w fun e w' => e = .returned (.tuple #[.int .u32 ((a - b) % 4294967296), .bool true]) ∧ w = w' := by
  have hwb := wrap_word b0 b1
  have hwa := wrap_word a0 a1
  go_enter Tryz.func90, Tryz.ntmps90
  go_wp2_with (first | (go_at_call 111; refine (left_any _ _ _).mono ?_; rintro e w' ⟨rfl, rfl⟩) | (go_at_call 113; refine (right_any _ _ _ _).mono ?_; rintro e w' ⟨rfl, rfl⟩) | (go_at_call 110; refine (less_any _ _ _ _).mono ?_; rintro e w' ⟨rfl, rfl⟩) | (go_at_call 112; refine (abit_any _ _).mono ?_; rintro e w' ⟨rfl, rfl⟩))
  exact bodyPost_ret (v := .tuple #[.int .u32 ((a - b) % 4294967296), .bool true]) (by simp [results, Tryz.results90, go_sem]) rfl ⟨rfl, rfl⟩

theorem do_30 (a b : Int) (a0 : 0 ≤ a) (a1 : a < 4294967296) (b0 : 0 ≤ b) (b1 : b < 4294967296) (w : World) :
    Calls Tryz.prog 90 #[.int .i64 30, .int .u32 a, .int .u32 b] w fun e w' => e = .returned (.tuple #[.int .u32 (W.left a b), .bool true]) ∧ w = w' := by
  have hwb := wrap_word b0 b1
  have hwa := wrap_word a0 a1
  go_enter Tryz.func90, Tryz.ntmps90
  go_wp2_with (first | (go_at_call 111; refine (left_any _ _ _).mono ?_; rintro e w' ⟨rfl, rfl⟩) | (go_at_call 113; refine (right_any _ _ _ _).mono ?_; rintro e w' ⟨rfl, rfl⟩) | (go_at_call 110; refine (less_any _ _ _ _).mono ?_; rintro e w' ⟨rfl, rfl⟩) | (go_at_call 112; refine (abit_any _ _).mono ?_; rintro e w' ⟨rfl, rfl⟩))
  exact bodyPost_ret (v := .tuple #[.int .u32 (W.left a b), .bool true]) (by simp [results, Tryz.results90, go_sem]) rfl ⟨rfl, rfl⟩

theorem do_31 (a b : Int) (a0 : 0 ≤ a) (a1 : a < 4294967296) (b0 : 0 ≤ b) (b1 : b < 4294967296) (w : World) :
    Calls Tryz.prog 90 #[.int .i64 31, .int .u32 a, .int .u32 b] w fun e w' => e = .returned (.tuple #[.int .u32 (W.one (W.less a b true)), .bool true]) ∧ w = w' := by
  have hwb := wrap_word b0 b1
  have hwa := wrap_word a0 a1
  go_enter Tryz.func90, Tryz.ntmps90
  go_wp2_with (first | (go_at_call 111; refine (left_any _ _ _).mono ?_; rintro e w' ⟨rfl, rfl⟩) | (go_at_call 113; refine (right_any _ _ _ _).mono ?_; rintro e w' ⟨rfl, rfl⟩) | (go_at_call 110; refine (less_any _ _ _ _).mono ?_; rintro e w' ⟨rfl, rfl⟩) | (go_at_call 112; refine (abit_any _ _).mono ?_; rintro e w' ⟨rfl, rfl⟩))
  exact bodyPost_ret (v := .tuple #[.int .u32 (W.one (W.less a b true)), .bool true]) (by simp [results, Tryz.results90, go_sem]) rfl ⟨rfl, rfl⟩

theorem do_32 (a b : Int) (a0 : 0 ≤ a) (a1 : a < 4294967296) (b0 : 0 ≤ b) (b1 : b < 4294967296) (w : World) :
    Calls Tryz.prog 90 #[.int .i64 32, .int .u32 a, .int .u32 b] w fun e w' => e = .returned (.tuple #[.int .u32 (W.one (W.less a b false)), .bool true]) ∧ w = w' := by
  have hwb := wrap_word b0 b1
  have hwa := wrap_word a0 a1
  go_enter Tryz.func90, Tryz.ntmps90
  go_wp2_with (first | (go_at_call 111; refine (left_any _ _ _).mono ?_; rintro e w' ⟨rfl, rfl⟩) | (go_at_call 113; refine (right_any _ _ _ _).mono ?_; rintro e w' ⟨rfl, rfl⟩) | (go_at_call 110; refine (less_any _ _ _ _).mono ?_; rintro e w' ⟨rfl, rfl⟩) | (go_at_call 112; refine (abit_any _ _).mono ?_; rintro e w' ⟨rfl, rfl⟩))
  exact bodyPost_ret (v := .tuple #[.int .u32 (W.one (W.less a b false)), .bool true]) (by simp [results, Tryz.results90, go_sem]) rfl ⟨rfl, rfl⟩

theorem do_33 (a b : Int) (a0 : 0 ≤ a) (a1 : a < 4294967296) (b0 : 0 ≤ b) (b1 : b < 4294967296) (w : World) :
    Calls Tryz.prog 90 #[.int .i64 33, .int .u32 a, .int .u32 b] w fun e w' => e = .returned (.tuple #[.int .u32 (bits .xor .u32 a b), .bool true]) ∧ w = w' := by
  have hwb := wrap_word b0 b1
  have hwa := wrap_word a0 a1
  go_enter Tryz.func90, Tryz.ntmps90
  go_wp2_with (first | (go_at_call 111; refine (left_any _ _ _).mono ?_; rintro e w' ⟨rfl, rfl⟩) | (go_at_call 113; refine (right_any _ _ _ _).mono ?_; rintro e w' ⟨rfl, rfl⟩) | (go_at_call 110; refine (less_any _ _ _ _).mono ?_; rintro e w' ⟨rfl, rfl⟩) | (go_at_call 112; refine (abit_any _ _).mono ?_; rintro e w' ⟨rfl, rfl⟩))
  exact bodyPost_ret (v := .tuple #[.int .u32 (bits .xor .u32 a b), .bool true]) (by simp [results, Tryz.results90, go_sem]) rfl ⟨rfl, rfl⟩

theorem do_34 (a b : Int) (a0 : 0 ≤ a) (a1 : a < 4294967296) (b0 : 0 ≤ b) (b1 : b < 4294967296) (w : World) :
    Calls Tryz.prog 90 #[.int .i64 34, .int .u32 a, .int .u32 b] w fun e w' => e = .returned (.tuple #[.int .u32 (W.right a b false), .bool true]) ∧ w = w' := by
  have hwb := wrap_word b0 b1
  have hwa := wrap_word a0 a1
  go_enter Tryz.func90, Tryz.ntmps90
  go_wp2_with (first | (go_at_call 111; refine (left_any _ _ _).mono ?_; rintro e w' ⟨rfl, rfl⟩) | (go_at_call 113; refine (right_any _ _ _ _).mono ?_; rintro e w' ⟨rfl, rfl⟩) | (go_at_call 110; refine (less_any _ _ _ _).mono ?_; rintro e w' ⟨rfl, rfl⟩) | (go_at_call 112; refine (abit_any _ _).mono ?_; rintro e w' ⟨rfl, rfl⟩))
  exact bodyPost_ret (v := .tuple #[.int .u32 (W.right a b false), .bool true]) (by simp [results, Tryz.results90, go_sem]) rfl ⟨rfl, rfl⟩

theorem do_35 (a b : Int) (a0 : 0 ≤ a) (a1 : a < 4294967296) (b0 : 0 ≤ b) (b1 : b < 4294967296) (w : World) :
    Calls Tryz.prog 90 #[.int .i64 35, .int .u32 a, .int .u32 b] w fun e w' => e = .returned (.tuple #[.int .u32 (W.right a b true), .bool true]) ∧ w = w' := by
  have hwb := wrap_word b0 b1
  have hwa := wrap_word a0 a1
  go_enter Tryz.func90, Tryz.ntmps90
  go_wp2_with (first | (go_at_call 111; refine (left_any _ _ _).mono ?_; rintro e w' ⟨rfl, rfl⟩) | (go_at_call 113; refine (right_any _ _ _ _).mono ?_; rintro e w' ⟨rfl, rfl⟩) | (go_at_call 110; refine (less_any _ _ _ _).mono ?_; rintro e w' ⟨rfl, rfl⟩) | (go_at_call 112; refine (abit_any _ _).mono ?_; rintro e w' ⟨rfl, rfl⟩))
  exact bodyPost_ret (v := .tuple #[.int .u32 (W.right a b true), .bool true]) (by simp [results, Tryz.results90, go_sem]) rfl ⟨rfl, rfl⟩

theorem do_36 (a b : Int) (a0 : 0 ≤ a) (a1 : a < 4294967296) (b0 : 0 ≤ b) (b1 : b < 4294967296) (w : World) :
    Calls Tryz.prog 90 #[.int .i64 36, .int .u32 a, .int .u32 b] w fun e w' => e = .returned (.tuple #[.int .u32 (bits .or .u32 a b), .bool true]) ∧ w = w' := by
  have hwb := wrap_word b0 b1
  have hwa := wrap_word a0 a1
  go_enter Tryz.func90, Tryz.ntmps90
  go_wp2_with (first | (go_at_call 111; refine (left_any _ _ _).mono ?_; rintro e w' ⟨rfl, rfl⟩) | (go_at_call 113; refine (right_any _ _ _ _).mono ?_; rintro e w' ⟨rfl, rfl⟩) | (go_at_call 110; refine (less_any _ _ _ _).mono ?_; rintro e w' ⟨rfl, rfl⟩) | (go_at_call 112; refine (abit_any _ _).mono ?_; rintro e w' ⟨rfl, rfl⟩))
  exact bodyPost_ret (v := .tuple #[.int .u32 (bits .or .u32 a b), .bool true]) (by simp [results, Tryz.results90, go_sem]) rfl ⟨rfl, rfl⟩

theorem do_37 (a b : Int) (a0 : 0 ≤ a) (a1 : a < 4294967296) (b0 : 0 ≤ b) (b1 : b < 4294967296) (w : World) :
    Calls Tryz.prog 90 #[.int .i64 37, .int .u32 a, .int .u32 b] w fun e w' => e = .returned (.tuple #[.int .u32 (bits .and .u32 a b), .bool true]) ∧ w = w' := by
  have hwb := wrap_word b0 b1
  have hwa := wrap_word a0 a1
  go_enter Tryz.func90, Tryz.ntmps90
  go_wp2_with (first | (go_at_call 111; refine (left_any _ _ _).mono ?_; rintro e w' ⟨rfl, rfl⟩) | (go_at_call 113; refine (right_any _ _ _ _).mono ?_; rintro e w' ⟨rfl, rfl⟩) | (go_at_call 110; refine (less_any _ _ _ _).mono ?_; rintro e w' ⟨rfl, rfl⟩) | (go_at_call 112; refine (abit_any _ _).mono ?_; rintro e w' ⟨rfl, rfl⟩))
  exact bodyPost_ret (v := .tuple #[.int .u32 (bits .and .u32 a b), .bool true]) (by simp [results, Tryz.results90, go_sem]) rfl ⟨rfl, rfl⟩

theorem do_51 (a b : Int) (a0 : 0 ≤ a) (a1 : a < 4294967296) (b0 : 0 ≤ b) (b1 : b < 4294967296) (w : World) :
    Calls Tryz.prog 90 #[.int .i64 51, .int .u32 a, .int .u32 b] w fun e w' => e = .returned (.tuple #[.int .u32 (a * b % 4294967296), .bool true]) ∧ w = w' := by
  have hwb := wrap_word b0 b1
  have hwa := wrap_word a0 a1
  go_enter Tryz.func90, Tryz.ntmps90
  go_wp2_with (first | (go_at_call 114; refine (mul_51 a b a0 a1 b0 b1 _).mono ?_; rintro e w' ⟨rfl, rfl⟩))
  exact bodyPost_ret (v := .tuple #[.int .u32 (a * b % 4294967296), .bool true]) (by simp [results, Tryz.results90, go_sem]) rfl ⟨rfl, rfl⟩

theorem do_52 (a b : Int) (a0 : 0 ≤ a) (a1 : a < 4294967296) (b0 : 0 ≤ b) (b1 : b < 4294967296) (w : World) :
    Calls Tryz.prog 90 #[.int .i64 52, .int .u32 a, .int .u32 b] w fun e w' => e = .returned (.tuple #[.int .u32 (W.high a b true true), .bool true]) ∧ w = w' := by
  have hwb := wrap_word b0 b1
  have hwa := wrap_word a0 a1
  go_enter Tryz.func90, Tryz.ntmps90
  go_wp2_with (first | (go_at_call 114; refine (mul_52 a b a0 a1 b0 b1 _).mono ?_; rintro e w' ⟨rfl, rfl⟩))
  exact bodyPost_ret (v := .tuple #[.int .u32 (W.high a b true true), .bool true]) (by simp [results, Tryz.results90, go_sem]) rfl ⟨rfl, rfl⟩

theorem do_53 (a b : Int) (a0 : 0 ≤ a) (a1 : a < 4294967296) (b0 : 0 ≤ b) (b1 : b < 4294967296) (w : World) :
    Calls Tryz.prog 90 #[.int .i64 53, .int .u32 a, .int .u32 b] w fun e w' => e = .returned (.tuple #[.int .u32 (W.high a b true false), .bool true]) ∧ w = w' := by
  have hwb := wrap_word b0 b1
  have hwa := wrap_word a0 a1
  go_enter Tryz.func90, Tryz.ntmps90
  go_wp2_with (first | (go_at_call 114; refine (mul_53 a b a0 a1 b0 b1 _).mono ?_; rintro e w' ⟨rfl, rfl⟩))
  exact bodyPost_ret (v := .tuple #[.int .u32 (W.high a b true false), .bool true]) (by simp [results, Tryz.results90, go_sem]) rfl ⟨rfl, rfl⟩

theorem do_54 (a b : Int) (a0 : 0 ≤ a) (a1 : a < 4294967296) (b0 : 0 ≤ b) (b1 : b < 4294967296) (w : World) :
    Calls Tryz.prog 90 #[.int .i64 54, .int .u32 a, .int .u32 b] w fun e w' => e = .returned (.tuple #[.int .u32 (W.high a b false false), .bool true]) ∧ w = w' := by
  have hwb := wrap_word b0 b1
  have hwa := wrap_word a0 a1
  go_enter Tryz.func90, Tryz.ntmps90
  go_wp2_with (first | (go_at_call 114; refine (mul_54 a b a0 a1 b0 b1 _).mono ?_; rintro e w' ⟨rfl, rfl⟩))
  exact bodyPost_ret (v := .tuple #[.int .u32 (W.high a b false false), .bool true]) (by simp [results, Tryz.results90, go_sem]) rfl ⟨rfl, rfl⟩

theorem do_55 (a b : Int) (a0 : 0 ≤ a) (a1 : a < 4294967296) (b0 : 0 ≤ b) (b1 : b < 4294967296) (w : World) :
    Calls Tryz.prog 90 #[.int .i64 55, .int .u32 a, .int .u32 b] w fun e w' => e = .returned (.tuple #[.int .u32 (W.div a b true), .bool true]) ∧ w = w' := by
  have hwb := wrap_word b0 b1
  have hwa := wrap_word a0 a1
  go_enter Tryz.func90, Tryz.ntmps90
  go_wp2_with (first | (go_at_call 114; refine (mul_55 a b a0 a1 b0 b1 _).mono ?_; rintro e w' ⟨rfl, rfl⟩))
  exact bodyPost_ret (v := .tuple #[.int .u32 (W.div a b true), .bool true]) (by simp [results, Tryz.results90, go_sem]) rfl ⟨rfl, rfl⟩

theorem do_56 (a b : Int) (a0 : 0 ≤ a) (a1 : a < 4294967296) (b0 : 0 ≤ b) (b1 : b < 4294967296) (w : World) :
    Calls Tryz.prog 90 #[.int .i64 56, .int .u32 a, .int .u32 b] w fun e w' => e = .returned (.tuple #[.int .u32 (W.div a b false), .bool true]) ∧ w = w' := by
  have hwb := wrap_word b0 b1
  have hwa := wrap_word a0 a1
  go_enter Tryz.func90, Tryz.ntmps90
  go_wp2_with (first | (go_at_call 114; refine (mul_56 a b a0 a1 b0 b1 _).mono ?_; rintro e w' ⟨rfl, rfl⟩))
  exact bodyPost_ret (v := .tuple #[.int .u32 (W.div a b false), .bool true]) (by simp [results, Tryz.results90, go_sem]) rfl ⟨rfl, rfl⟩

theorem do_57 (a b : Int) (a0 : 0 ≤ a) (a1 : a < 4294967296) (b0 : 0 ≤ b) (b1 : b < 4294967296) (w : World) :
    Calls Tryz.prog 90 #[.int .i64 57, .int .u32 a, .int .u32 b] w fun e w' => e = .returned (.tuple #[.int .u32 (W.rem a b true), .bool true]) ∧ w = w' := by
  have hwb := wrap_word b0 b1
  have hwa := wrap_word a0 a1
  go_enter Tryz.func90, Tryz.ntmps90
  go_wp2_with (first | (go_at_call 114; refine (mul_57 a b a0 a1 b0 b1 _).mono ?_; rintro e w' ⟨rfl, rfl⟩))
  exact bodyPost_ret (v := .tuple #[.int .u32 (W.rem a b true), .bool true]) (by simp [results, Tryz.results90, go_sem]) rfl ⟨rfl, rfl⟩

theorem do_58 (a b : Int) (a0 : 0 ≤ a) (a1 : a < 4294967296) (b0 : 0 ≤ b) (b1 : b < 4294967296) (w : World) :
    Calls Tryz.prog 90 #[.int .i64 58, .int .u32 a, .int .u32 b] w fun e w' => e = .returned (.tuple #[.int .u32 (W.rem a b false), .bool true]) ∧ w = w' := by
  have hwb := wrap_word b0 b1
  have hwa := wrap_word a0 a1
  go_enter Tryz.func90, Tryz.ntmps90
  go_wp2_with (first | (go_at_call 114; refine (mul_58 a b a0 a1 b0 b1 _).mono ?_; rintro e w' ⟨rfl, rfl⟩))
  exact bodyPost_ret (v := .tuple #[.int .u32 (W.rem a b false), .bool true]) (by simp [results, Tryz.results90, go_sem]) rfl ⟨rfl, rfl⟩

theorem do_none (op a b : Int) (a0 : 0 ≤ a) (a1 : a < 4294967296) (b0 : 0 ≤ b) (b1 : b < 4294967296) (h : W.doB op = false) (w : World) :
    Calls Tryz.prog 90 #[.int .i64 op, .int .u32 a, .int .u32 b] w fun e w' => e = .returned (.tuple #[.int .u32 0, .bool false]) ∧ w = w' := by
  obtain ⟨h19, h20, h21, h22, h23, h24, h25, h26, h27, h28, h29, h30, h31, h32, h33, h34, h35, h36, h37, h51, h52, h53, h54, h55, h56, h57, h58⟩ := W.doB_none h
  have H : Hid (W.doB op = false) := h
  clear h
  go_enter Tryz.func90, Tryz.ntmps90
  go_wp2_with (first | (go_at_call 114; refine (mul_none op a b a0 a1 b0 b1 H.out _).mono ?_; rintro e w' ⟨rfl, rfl⟩))
  exact bodyPost_ret (v := .tuple #[.int .u32 0, .bool false]) (by simp [results, Tryz.results90, go_sem]) rfl ⟨rfl, rfl⟩

theorem do_any (op a b : Int) (a0 : 0 ≤ a) (a1 : a < 4294967296) (b0 : 0 ≤ b) (b1 : b < 4294967296) (w : World) :
    Calls Tryz.prog 90 #[.int .i64 op, .int .u32 a, .int .u32 b] w fun e w' => e = .returned (.tuple #[.int .u32 (W.doV op a b), .bool (W.doB op)]) ∧ w = w' := by
  cases h : W.doB op
  · rw [W.doV_none a b h]
    exact do_none op a b a0 a1 b0 b1 h w
  · rcases W.doB_cases h with rfl | rfl | rfl | rfl | rfl | rfl | rfl | rfl | rfl | rfl | rfl | rfl | rfl | rfl | rfl | rfl | rfl | rfl | rfl | rfl | rfl | rfl | rfl | rfl | rfl | rfl | rfl
    · exact do_19 a b a0 a1 b0 b1 w
    · exact do_20 a b a0 a1 b0 b1 w
    · exact do_21 a b a0 a1 b0 b1 w
    · exact do_22 a b a0 a1 b0 b1 w
    · exact do_23 a b a0 a1 b0 b1 w
    · exact do_24 a b a0 a1 b0 b1 w
    · exact do_25 a b a0 a1 b0 b1 w
    · exact do_26 a b a0 a1 b0 b1 w
    · exact do_27 a b a0 a1 b0 b1 w
    · exact do_28 a b a0 a1 b0 b1 w
    · exact do_29 a b a0 a1 b0 b1 w
    · exact do_30 a b a0 a1 b0 b1 w
    · exact do_31 a b a0 a1 b0 b1 w
    · exact do_32 a b a0 a1 b0 b1 w
    · exact do_33 a b a0 a1 b0 b1 w
    · exact do_34 a b a0 a1 b0 b1 w
    · exact do_35 a b a0 a1 b0 b1 w
    · exact do_36 a b a0 a1 b0 b1 w
    · exact do_37 a b a0 a1 b0 b1 w
    · exact do_51 a b a0 a1 b0 b1 w
    · exact do_52 a b a0 a1 b0 b1 w
    · exact do_53 a b a0 a1 b0 b1 w
    · exact do_54 a b a0 a1 b0 b1 w
    · exact do_55 a b a0 a1 b0 b1 w
    · exact do_56 a b a0 a1 b0 b1 w
    · exact do_57 a b a0 a1 b0 b1 w
    · exact do_58 a b a0 a1 b0 b1 w

theorem tak_5 (a b : Int) (a0 : 0 ≤ a) (a1 : a < 4294967296) (b0 : 0 ≤ b) (b1 : b < 4294967296) (w : World) :
    Calls Tryz.prog 88 #[.int .i64 5, .int .u32 a, .int .u32 b] w fun e w' => e = .returned (.tuple #[.bool (a == b), .bool true]) ∧ w = w' := by
  have hwb := wrap_word b0 b1
  have hwa := wrap_word a0 a1
  go_enter Tryz.func88, Tryz.ntmps88
  go_wp2_with (first | (go_at_call 110; refine (less_any _ _ _ _).mono ?_; rintro e w' ⟨rfl, rfl⟩))
  exact bodyPost_ret (v := .tuple #[.bool (a == b), .bool true]) (by simp [results, Tryz.results88, go_sem]) rfl ⟨rfl, rfl⟩

theorem tak_6 (a b : Int) (a0 : 0 ≤ a) (a1 : a < 4294967296) (b0 : 0 ≤ b) (b1 : b < 4294967296) (w : World) :
    Calls Tryz.prog 88 #[.int .i64 6, .int .u32 a, .int .u32 b] w fun e w' => e = .returned (.tuple #[.bool (a != b), .bool true]) ∧ w = w' := by
  have hwb := wrap_word b0 b1
  have hwa := wrap_word a0 a1
  go_enter Tryz.func88, Tryz.ntmps88
  go_wp2_with (first | (go_at_call 110; refine (less_any _ _ _ _).mono ?_; rintro e w' ⟨rfl, rfl⟩))
  exact bodyPost_ret (v := .tuple #[.bool (a != b), .bool true]) (by simp [results, Tryz.results88, go_sem]) rfl ⟨rfl, rfl⟩

theorem tak_7 (a b : Int) (a0 : 0 ≤ a) (a1 : a < 4294967296) (b0 : 0 ≤ b) (b1 : b < 4294967296) (w : World) :
    Calls Tryz.prog 88 #[.int .i64 7, .int .u32 a, .int .u32 b] w fun e w' => e = .returned (.tuple #[.bool (W.less a b true), .bool true]) ∧ w = w' := by
  have hwb := wrap_word b0 b1
  have hwa := wrap_word a0 a1
  go_enter Tryz.func88, Tryz.ntmps88
  go_wp2_with (first | (go_at_call 110; refine (less_any _ _ _ _).mono ?_; rintro e w' ⟨rfl, rfl⟩))
  exact bodyPost_ret (v := .tuple #[.bool (W.less a b true), .bool true]) (by simp [results, Tryz.results88, go_sem]) rfl ⟨rfl, rfl⟩

theorem tak_8 (a b : Int) (a0 : 0 ≤ a) (a1 : a < 4294967296) (b0 : 0 ≤ b) (b1 : b < 4294967296) (w : World) :
    Calls Tryz.prog 88 #[.int .i64 8, .int .u32 a, .int .u32 b] w fun e w' => e = .returned (.tuple #[.bool (!W.less a b true), .bool true]) ∧ w = w' := by
  have hwb := wrap_word b0 b1
  have hwa := wrap_word a0 a1
  go_enter Tryz.func88, Tryz.ntmps88
  go_wp2_with (first | (go_at_call 110; refine (less_any _ _ _ _).mono ?_; rintro e w' ⟨rfl, rfl⟩))
  exact bodyPost_ret (v := .tuple #[.bool (!W.less a b true), .bool true]) (by simp [results, Tryz.results88, go_sem]) rfl ⟨rfl, rfl⟩

theorem tak_9 (a b : Int) (a0 : 0 ≤ a) (a1 : a < 4294967296) (b0 : 0 ≤ b) (b1 : b < 4294967296) (w : World) :
    Calls Tryz.prog 88 #[.int .i64 9, .int .u32 a, .int .u32 b] w fun e w' => e = .returned (.tuple #[.bool (W.less a b false), .bool true]) ∧ w = w' := by
  have hwb := wrap_word b0 b1
  have hwa := wrap_word a0 a1
  go_enter Tryz.func88, Tryz.ntmps88
  go_wp2_with (first | (go_at_call 110; refine (less_any _ _ _ _).mono ?_; rintro e w' ⟨rfl, rfl⟩))
  exact bodyPost_ret (v := .tuple #[.bool (W.less a b false), .bool true]) (by simp [results, Tryz.results88, go_sem]) rfl ⟨rfl, rfl⟩

theorem tak_10 (a b : Int) (a0 : 0 ≤ a) (a1 : a < 4294967296) (b0 : 0 ≤ b) (b1 : b < 4294967296) (w : World) :
    Calls Tryz.prog 88 #[.int .i64 10, .int .u32 a, .int .u32 b] w fun e w' => e = .returned (.tuple #[.bool (!W.less a b false), .bool true]) ∧ w = w' := by
  have hwb := wrap_word b0 b1
  have hwa := wrap_word a0 a1
  go_enter Tryz.func88, Tryz.ntmps88
  go_wp2_with (first | (go_at_call 110; refine (less_any _ _ _ _).mono ?_; rintro e w' ⟨rfl, rfl⟩))
  exact bodyPost_ret (v := .tuple #[.bool (!W.less a b false), .bool true]) (by simp [results, Tryz.results88, go_sem]) rfl ⟨rfl, rfl⟩

theorem tak_none (op a b : Int) (a0 : 0 ≤ a) (a1 : a < 4294967296) (b0 : 0 ≤ b) (b1 : b < 4294967296) (h : W.takB op = false) (w : World) :
    Calls Tryz.prog 88 #[.int .i64 op, .int .u32 a, .int .u32 b] w fun e w' => e = .returned (.tuple #[.bool false, .bool false]) ∧ w = w' := by
  obtain ⟨h5, h6, h7, h8, h9, h10⟩ := W.takB_none h
  have H : Hid (W.takB op = false) := h
  clear h
  go_enter Tryz.func88, Tryz.ntmps88
  go_wp2
  exact bodyPost_ret (v := .tuple #[.bool false, .bool false]) (by simp [results, Tryz.results88, go_sem]) rfl ⟨rfl, rfl⟩

theorem tak_any (op a b : Int) (a0 : 0 ≤ a) (a1 : a < 4294967296) (b0 : 0 ≤ b) (b1 : b < 4294967296) (w : World) :
    Calls Tryz.prog 88 #[.int .i64 op, .int .u32 a, .int .u32 b] w fun e w' => e = .returned (.tuple #[.bool (W.takV op a b), .bool (W.takB op)]) ∧ w = w' := by
  cases h : W.takB op
  · rw [W.takV_none a b h]
    exact tak_none op a b a0 a1 b0 b1 h w
  · rcases W.takB_cases h with rfl | rfl | rfl | rfl | rfl | rfl
    · exact tak_5 a b a0 a1 b0 b1 w
    · exact tak_6 a b a0 a1 b0 b1 w
    · exact tak_7 a b a0 a1 b0 b1 w
    · exact tak_8 a b a0 a1 b0 b1 w
    · exact tak_9 a b a0 a1 b0 b1 w
    · exact tak_10 a b a0 a1 b0 b1 w

theorem amo_61 (a b : Int) (a0 : 0 ≤ a) (a1 : a < 4294967296) (b0 : 0 ≤ b) (b1 : b < 4294967296) (w : World) :
    Calls Tryz.prog 96 #[.int .i64 61, .int .u32 a, .int .u32 b] w fun e w' => e = .returned (.tuple #[.int .u32 (b), .bool true]) ∧ w = w' := by
  have hwb := wrap_word b0 b1
  have hwa := wrap_word a0 a1
  go_enter Tryz.func96, Tryz.ntmps96
  go_wp2_with (first | (go_at_call 116; refine (least_any _ _ _ _).mono ?_; rintro e w' ⟨rfl, rfl⟩) | (go_at_call 117; refine (most_any _ _ _ _).mono ?_; rintro e w' ⟨rfl, rfl⟩))
  exact bodyPost_ret (v := .tuple #[.int .u32 (b), .bool true]) (by simp [results, Tryz.results96, go_sem]) rfl ⟨rfl, rfl⟩

theorem amo_62 (a b : Int) (a0 : 0 ≤ a) (a1 : a < 4294967296) (b0 : 0 ≤ b) (b1 : b < 4294967296) (w : World) :
    Calls Tryz.prog 96 #[.int .i64 62, .int .u32 a, .int .u32 b] w fun e w' => e = .returned (.tuple #[.int .u32 ((a + b) % 4294967296), .bool true]) ∧ w = w' := by
  have hwb := wrap_word b0 b1
  have hwa := wrap_word a0 a1
  go_enter Tryz.func96, Tryz.ntmps96
  go_wp2_with (first | (go_at_call 116; refine (least_any _ _ _ _).mono ?_; rintro e w' ⟨rfl, rfl⟩) | (go_at_call 117; refine (most_any _ _ _ _).mono ?_; rintro e w' ⟨rfl, rfl⟩))
  exact bodyPost_ret (v := .tuple #[.int .u32 ((a + b) % 4294967296), .bool true]) (by simp [results, Tryz.results96, go_sem]) rfl ⟨rfl, rfl⟩

theorem amo_63 (a b : Int) (a0 : 0 ≤ a) (a1 : a < 4294967296) (b0 : 0 ≤ b) (b1 : b < 4294967296) (w : World) :
    Calls Tryz.prog 96 #[.int .i64 63, .int .u32 a, .int .u32 b] w fun e w' => e = .returned (.tuple #[.int .u32 (bits .xor .u32 a b), .bool true]) ∧ w = w' := by
  have hwb := wrap_word b0 b1
  have hwa := wrap_word a0 a1
  go_enter Tryz.func96, Tryz.ntmps96
  go_wp2_with (first | (go_at_call 116; refine (least_any _ _ _ _).mono ?_; rintro e w' ⟨rfl, rfl⟩) | (go_at_call 117; refine (most_any _ _ _ _).mono ?_; rintro e w' ⟨rfl, rfl⟩))
  exact bodyPost_ret (v := .tuple #[.int .u32 (bits .xor .u32 a b), .bool true]) (by simp [results, Tryz.results96, go_sem]) rfl ⟨rfl, rfl⟩

theorem amo_64 (a b : Int) (a0 : 0 ≤ a) (a1 : a < 4294967296) (b0 : 0 ≤ b) (b1 : b < 4294967296) (w : World) :
    Calls Tryz.prog 96 #[.int .i64 64, .int .u32 a, .int .u32 b] w fun e w' => e = .returned (.tuple #[.int .u32 (bits .and .u32 a b), .bool true]) ∧ w = w' := by
  have hwb := wrap_word b0 b1
  have hwa := wrap_word a0 a1
  go_enter Tryz.func96, Tryz.ntmps96
  go_wp2_with (first | (go_at_call 116; refine (least_any _ _ _ _).mono ?_; rintro e w' ⟨rfl, rfl⟩) | (go_at_call 117; refine (most_any _ _ _ _).mono ?_; rintro e w' ⟨rfl, rfl⟩))
  exact bodyPost_ret (v := .tuple #[.int .u32 (bits .and .u32 a b), .bool true]) (by simp [results, Tryz.results96, go_sem]) rfl ⟨rfl, rfl⟩

theorem amo_65 (a b : Int) (a0 : 0 ≤ a) (a1 : a < 4294967296) (b0 : 0 ≤ b) (b1 : b < 4294967296) (w : World) :
    Calls Tryz.prog 96 #[.int .i64 65, .int .u32 a, .int .u32 b] w fun e w' => e = .returned (.tuple #[.int .u32 (bits .or .u32 a b), .bool true]) ∧ w = w' := by
  have hwb := wrap_word b0 b1
  have hwa := wrap_word a0 a1
  go_enter Tryz.func96, Tryz.ntmps96
  go_wp2_with (first | (go_at_call 116; refine (least_any _ _ _ _).mono ?_; rintro e w' ⟨rfl, rfl⟩) | (go_at_call 117; refine (most_any _ _ _ _).mono ?_; rintro e w' ⟨rfl, rfl⟩))
  exact bodyPost_ret (v := .tuple #[.int .u32 (bits .or .u32 a b), .bool true]) (by simp [results, Tryz.results96, go_sem]) rfl ⟨rfl, rfl⟩

theorem amo_66 (a b : Int) (a0 : 0 ≤ a) (a1 : a < 4294967296) (b0 : 0 ≤ b) (b1 : b < 4294967296) (w : World) :
    Calls Tryz.prog 96 #[.int .i64 66, .int .u32 a, .int .u32 b] w fun e w' => e = .returned (.tuple #[.int .u32 (W.least a b true), .bool true]) ∧ w = w' := by
  have hwb := wrap_word b0 b1
  have hwa := wrap_word a0 a1
  go_enter Tryz.func96, Tryz.ntmps96
  go_wp2_with (first | (go_at_call 116; refine (least_any _ _ _ _).mono ?_; rintro e w' ⟨rfl, rfl⟩) | (go_at_call 117; refine (most_any _ _ _ _).mono ?_; rintro e w' ⟨rfl, rfl⟩))
  exact bodyPost_ret (v := .tuple #[.int .u32 (W.least a b true), .bool true]) (by simp [results, Tryz.results96, go_sem]) rfl ⟨rfl, rfl⟩

theorem amo_67 (a b : Int) (a0 : 0 ≤ a) (a1 : a < 4294967296) (b0 : 0 ≤ b) (b1 : b < 4294967296) (w : World) :
    Calls Tryz.prog 96 #[.int .i64 67, .int .u32 a, .int .u32 b] w fun e w' => e = .returned (.tuple #[.int .u32 (W.most a b true), .bool true]) ∧ w = w' := by
  have hwb := wrap_word b0 b1
  have hwa := wrap_word a0 a1
  go_enter Tryz.func96, Tryz.ntmps96
  go_wp2_with (first | (go_at_call 116; refine (least_any _ _ _ _).mono ?_; rintro e w' ⟨rfl, rfl⟩) | (go_at_call 117; refine (most_any _ _ _ _).mono ?_; rintro e w' ⟨rfl, rfl⟩))
  exact bodyPost_ret (v := .tuple #[.int .u32 (W.most a b true), .bool true]) (by simp [results, Tryz.results96, go_sem]) rfl ⟨rfl, rfl⟩

theorem amo_68 (a b : Int) (a0 : 0 ≤ a) (a1 : a < 4294967296) (b0 : 0 ≤ b) (b1 : b < 4294967296) (w : World) :
    Calls Tryz.prog 96 #[.int .i64 68, .int .u32 a, .int .u32 b] w fun e w' => e = .returned (.tuple #[.int .u32 (W.least a b false), .bool true]) ∧ w = w' := by
  have hwb := wrap_word b0 b1
  have hwa := wrap_word a0 a1
  go_enter Tryz.func96, Tryz.ntmps96
  go_wp2_with (first | (go_at_call 116; refine (least_any _ _ _ _).mono ?_; rintro e w' ⟨rfl, rfl⟩) | (go_at_call 117; refine (most_any _ _ _ _).mono ?_; rintro e w' ⟨rfl, rfl⟩))
  exact bodyPost_ret (v := .tuple #[.int .u32 (W.least a b false), .bool true]) (by simp [results, Tryz.results96, go_sem]) rfl ⟨rfl, rfl⟩

theorem amo_69 (a b : Int) (a0 : 0 ≤ a) (a1 : a < 4294967296) (b0 : 0 ≤ b) (b1 : b < 4294967296) (w : World) :
    Calls Tryz.prog 96 #[.int .i64 69, .int .u32 a, .int .u32 b] w fun e w' => e = .returned (.tuple #[.int .u32 (W.most a b false), .bool true]) ∧ w = w' := by
  have hwb := wrap_word b0 b1
  have hwa := wrap_word a0 a1
  go_enter Tryz.func96, Tryz.ntmps96
  go_wp2_with (first | (go_at_call 116; refine (least_any _ _ _ _).mono ?_; rintro e w' ⟨rfl, rfl⟩) | (go_at_call 117; refine (most_any _ _ _ _).mono ?_; rintro e w' ⟨rfl, rfl⟩))
  exact bodyPost_ret (v := .tuple #[.int .u32 (W.most a b false), .bool true]) (by simp [results, Tryz.results96, go_sem]) rfl ⟨rfl, rfl⟩

theorem amo_none (op a b : Int) (a0 : 0 ≤ a) (a1 : a < 4294967296) (b0 : 0 ≤ b) (b1 : b < 4294967296) (h : W.amoB op = false) (w : World) :
    Calls Tryz.prog 96 #[.int .i64 op, .int .u32 a, .int .u32 b] w fun e w' => e = .returned (.tuple #[.int .u32 0, .bool false]) ∧ w = w' := by
  obtain ⟨h61, h62, h63, h64, h65, h66, h67, h68, h69⟩ := W.amoB_none h
  have H : Hid (W.amoB op = false) := h
  clear h
  go_enter Tryz.func96, Tryz.ntmps96
  go_wp2
  exact bodyPost_ret (v := .tuple #[.int .u32 0, .bool false]) (by simp [results, Tryz.results96, go_sem]) rfl ⟨rfl, rfl⟩

theorem amo_any (op a b : Int) (a0 : 0 ≤ a) (a1 : a < 4294967296) (b0 : 0 ≤ b) (b1 : b < 4294967296) (w : World) :
    Calls Tryz.prog 96 #[.int .i64 op, .int .u32 a, .int .u32 b] w fun e w' => e = .returned (.tuple #[.int .u32 (W.amoV op a b), .bool (W.amoB op)]) ∧ w = w' := by
  cases h : W.amoB op
  · rw [W.amoV_none a b h]
    exact amo_none op a b a0 a1 b0 b1 h w
  · rcases W.amoB_cases h with rfl | rfl | rfl | rfl | rfl | rfl | rfl | rfl | rfl
    · exact amo_61 a b a0 a1 b0 b1 w
    · exact amo_62 a b a0 a1 b0 b1 w
    · exact amo_63 a b a0 a1 b0 b1 w
    · exact amo_64 a b a0 a1 b0 b1 w
    · exact amo_65 a b a0 a1 b0 b1 w
    · exact amo_66 a b a0 a1 b0 b1 w
    · exact amo_67 a b a0 a1 b0 b1 w
    · exact amo_68 a b a0 a1 b0 b1 w
    · exact amo_69 a b a0 a1 b0 b1 w

end Go.Proofs.YteilpehekabccabGreatDoor
