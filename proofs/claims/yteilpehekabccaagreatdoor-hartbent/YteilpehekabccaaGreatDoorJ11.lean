/- Texts in one: AluR. -/
import Derived.Test.YteilpehekabccaaGreatDoorJ10
/- What the document's own calls of chapter 4 return. -/
namespace Go.Proofs.YteilpehekabccaaGreatDoor
open Go.ChangeShapes Go.WideShapes Go.ChangeAt Go.RowKit
set_option linter.unusedVariables false
set_option linter.unusedSimpArgs false

theorem rone_any (b : Bool) (w : World) :
    Calls Tryz.prog 123 #[.bool b] w fun e w' => e = .returned (.int .u32 (W.one b)) ∧ w = w' := by
  cases b
  all_goals
    go_enter Tryz.func123, Tryz.ntmps123
    go_wp2
    go_ret
    exact ⟨rfl, rfl⟩

theorem less_plain {a b : Int} (a0 : 0 ≤ a) (a1 : a < 4294967296) (b0 : 0 ≤ b) (b1 : b < 4294967296) : decide (a < b) = W.less a b false := by
  rw [W.less, W.wide_f a a0 a1, W.wide_f b b0 b1]

theorem and31u {b : Int} (b0 : 0 ≤ b) (b1 : b < 4294967296) : bits .and .u32 b 31 = b % 32 := W.low_and b 5 (by decide) b0 b1

theorem pl_19 (w : World) : Calls Tryz.prog 122 #[.int .i64 19] w fun e w' => e = .returned (.int .i64 28) ∧ w = w' := by
  go_enter Tryz.func122, Tryz.ntmps122
  go_wp2
  go_ret
  exact ⟨rfl, rfl⟩

theorem pl_20 (w : World) : Calls Tryz.prog 122 #[.int .i64 20] w fun e w' => e = .returned (.int .i64 31) ∧ w = w' := by
  go_enter Tryz.func122, Tryz.ntmps122
  go_wp2
  go_ret
  exact ⟨rfl, rfl⟩

theorem pl_21 (w : World) : Calls Tryz.prog 122 #[.int .i64 21] w fun e w' => e = .returned (.int .i64 32) ∧ w = w' := by
  go_enter Tryz.func122, Tryz.ntmps122
  go_wp2
  go_ret
  exact ⟨rfl, rfl⟩

theorem pl_22 (w : World) : Calls Tryz.prog 122 #[.int .i64 22] w fun e w' => e = .returned (.int .i64 33) ∧ w = w' := by
  go_enter Tryz.func122, Tryz.ntmps122
  go_wp2
  go_ret
  exact ⟨rfl, rfl⟩

theorem pl_23 (w : World) : Calls Tryz.prog 122 #[.int .i64 23] w fun e w' => e = .returned (.int .i64 36) ∧ w = w' := by
  go_enter Tryz.func122, Tryz.ntmps122
  go_wp2
  go_ret
  exact ⟨rfl, rfl⟩

theorem pl_24 (w : World) : Calls Tryz.prog 122 #[.int .i64 24] w fun e w' => e = .returned (.int .i64 37) ∧ w = w' := by
  go_enter Tryz.func122, Tryz.ntmps122
  go_wp2
  go_ret
  exact ⟨rfl, rfl⟩

theorem pl_25 (w : World) : Calls Tryz.prog 122 #[.int .i64 25] w fun e w' => e = .returned (.int .i64 30) ∧ w = w' := by
  go_enter Tryz.func122, Tryz.ntmps122
  go_wp2
  go_ret
  exact ⟨rfl, rfl⟩

theorem pl_26 (w : World) : Calls Tryz.prog 122 #[.int .i64 26] w fun e w' => e = .returned (.int .i64 34) ∧ w = w' := by
  go_enter Tryz.func122, Tryz.ntmps122
  go_wp2
  go_ret
  exact ⟨rfl, rfl⟩

theorem pl_27 (w : World) : Calls Tryz.prog 122 #[.int .i64 27] w fun e w' => e = .returned (.int .i64 35) ∧ w = w' := by
  go_enter Tryz.func122, Tryz.ntmps122
  go_wp2
  go_ret
  exact ⟨rfl, rfl⟩

theorem pl_28 (w : World) : Calls Tryz.prog 122 #[.int .i64 28] w fun e w' => e = .returned (.int .i64 28) ∧ w = w' := by
  go_enter Tryz.func122, Tryz.ntmps122
  go_wp2
  go_ret
  exact ⟨rfl, rfl⟩

theorem pl_29 (w : World) : Calls Tryz.prog 122 #[.int .i64 29] w fun e w' => e = .returned (.int .i64 29) ∧ w = w' := by
  go_enter Tryz.func122, Tryz.ntmps122
  go_wp2
  go_ret
  exact ⟨rfl, rfl⟩

theorem pl_30 (w : World) : Calls Tryz.prog 122 #[.int .i64 30] w fun e w' => e = .returned (.int .i64 30) ∧ w = w' := by
  go_enter Tryz.func122, Tryz.ntmps122
  go_wp2
  go_ret
  exact ⟨rfl, rfl⟩

theorem pl_31 (w : World) : Calls Tryz.prog 122 #[.int .i64 31] w fun e w' => e = .returned (.int .i64 31) ∧ w = w' := by
  go_enter Tryz.func122, Tryz.ntmps122
  go_wp2
  go_ret
  exact ⟨rfl, rfl⟩

theorem pl_32 (w : World) : Calls Tryz.prog 122 #[.int .i64 32] w fun e w' => e = .returned (.int .i64 32) ∧ w = w' := by
  go_enter Tryz.func122, Tryz.ntmps122
  go_wp2
  go_ret
  exact ⟨rfl, rfl⟩

theorem pl_33 (w : World) : Calls Tryz.prog 122 #[.int .i64 33] w fun e w' => e = .returned (.int .i64 33) ∧ w = w' := by
  go_enter Tryz.func122, Tryz.ntmps122
  go_wp2
  go_ret
  exact ⟨rfl, rfl⟩

theorem pl_34 (w : World) : Calls Tryz.prog 122 #[.int .i64 34] w fun e w' => e = .returned (.int .i64 34) ∧ w = w' := by
  go_enter Tryz.func122, Tryz.ntmps122
  go_wp2
  go_ret
  exact ⟨rfl, rfl⟩

theorem pl_35 (w : World) : Calls Tryz.prog 122 #[.int .i64 35] w fun e w' => e = .returned (.int .i64 35) ∧ w = w' := by
  go_enter Tryz.func122, Tryz.ntmps122
  go_wp2
  go_ret
  exact ⟨rfl, rfl⟩

theorem pl_36 (w : World) : Calls Tryz.prog 122 #[.int .i64 36] w fun e w' => e = .returned (.int .i64 36) ∧ w = w' := by
  go_enter Tryz.func122, Tryz.ntmps122
  go_wp2
  go_ret
  exact ⟨rfl, rfl⟩

theorem pl_37 (w : World) : Calls Tryz.prog 122 #[.int .i64 37] w fun e w' => e = .returned (.int .i64 37) ∧ w = w' := by
  go_enter Tryz.func122, Tryz.ntmps122
  go_wp2
  go_ret
  exact ⟨rfl, rfl⟩

theorem pl_51 (w : World) : Calls Tryz.prog 122 #[.int .i64 51] w fun e w' => e = .returned (.int .i64 51) ∧ w = w' := by
  go_enter Tryz.func122, Tryz.ntmps122
  go_wp2
  go_ret
  exact ⟨rfl, rfl⟩

theorem pl_52 (w : World) : Calls Tryz.prog 122 #[.int .i64 52] w fun e w' => e = .returned (.int .i64 52) ∧ w = w' := by
  go_enter Tryz.func122, Tryz.ntmps122
  go_wp2
  go_ret
  exact ⟨rfl, rfl⟩

theorem pl_53 (w : World) : Calls Tryz.prog 122 #[.int .i64 53] w fun e w' => e = .returned (.int .i64 53) ∧ w = w' := by
  go_enter Tryz.func122, Tryz.ntmps122
  go_wp2
  go_ret
  exact ⟨rfl, rfl⟩

theorem pl_54 (w : World) : Calls Tryz.prog 122 #[.int .i64 54] w fun e w' => e = .returned (.int .i64 54) ∧ w = w' := by
  go_enter Tryz.func122, Tryz.ntmps122
  go_wp2
  go_ret
  exact ⟨rfl, rfl⟩

theorem pl_55 (w : World) : Calls Tryz.prog 122 #[.int .i64 55] w fun e w' => e = .returned (.int .i64 55) ∧ w = w' := by
  go_enter Tryz.func122, Tryz.ntmps122
  go_wp2
  go_ret
  exact ⟨rfl, rfl⟩

theorem pl_56 (w : World) : Calls Tryz.prog 122 #[.int .i64 56] w fun e w' => e = .returned (.int .i64 56) ∧ w = w' := by
  go_enter Tryz.func122, Tryz.ntmps122
  go_wp2
  go_ret
  exact ⟨rfl, rfl⟩

theorem pl_57 (w : World) : Calls Tryz.prog 122 #[.int .i64 57] w fun e w' => e = .returned (.int .i64 57) ∧ w = w' := by
  go_enter Tryz.func122, Tryz.ntmps122
  go_wp2
  go_ret
  exact ⟨rfl, rfl⟩

theorem pl_58 (w : World) : Calls Tryz.prog 122 #[.int .i64 58] w fun e w' => e = .returned (.int .i64 58) ∧ w = w' := by
  go_enter Tryz.func122, Tryz.ntmps122
  go_wp2
  go_ret
  exact ⟨rfl, rfl⟩

theorem pl_none (op : Int) (h : W.doB op = false) (w : World) : Calls Tryz.prog 122 #[.int .i64 op] w fun e w' => e = .returned (.int .i64 op) ∧ w = w' := by
  obtain ⟨h19, h20, h21, h22, h23, h24, h25, h26, h27, h28, h29, h30, h31, h32, h33, h34, h35, h36, h37, h51, h52, h53, h54, h55, h56, h57, h58⟩ := W.doB_none h
  clear h
  go_enter Tryz.func122, Tryz.ntmps122
  go_wp2
  go_ret
  exact ⟨rfl, rfl⟩

theorem rdo_19 (a b : Int) (a0 : 0 ≤ a) (a1 : a < 4294967296) (b0 : 0 ≤ b) (b1 : b < 4294967296) (w : World) :
    Calls Tryz.prog 88 #[.int .i64 19, .int .u32 a, .int .u32 b] w fun e w' => e = .returned (.tuple #[.int .u32 ((a + b) % 4294967296), .bool true]) ∧ w = w' := by
  have hwb := and31u b0 b1
  go_enter Tryz.func88, Tryz.ntmps88
  go_wp2_with (first | (go_at_call 122; refine (pl_19 _).mono ?_; rintro e w' ⟨rfl, rfl⟩) | (go_at_call 123; refine (rone_any _ _).mono ?_; rintro e w' ⟨rfl, rfl⟩) | (go_at_call 121; refine (rless_any _ _ _ _ a0 a1 b0 b1).mono ?_; rintro e w' ⟨rfl, rfl⟩) | (go_at_call 121; refine (rless_any _ _ _ _ b0 b1 a0 a1).mono ?_; rintro e w' ⟨rfl, rfl⟩) | (go_at_call 124; refine (rright_any _ _ _ _ a0 a1).mono ?_; rintro e w' ⟨rfl, rfl⟩) | (go_at_call 125; refine (rhigh_any _ _ _ _ _ a0 a1 b0 b1).mono ?_; rintro e w' ⟨rfl, rfl⟩) | (go_at_call 126; refine (rdiv_any _ _ _ _ a0 a1 b0 b1).mono ?_; rintro e w' ⟨rfl, rfl⟩) | (go_at_call 127; refine (rrem_any _ _ _ _ a0 a1 b0 b1).mono ?_; rintro e w' ⟨rfl, rfl⟩))
  exact bodyPost_ret (v := .tuple #[.int .u32 ((a + b) % 4294967296), .bool true]) (by simp [results, Tryz.results88, go_sem]) rfl ⟨rfl, rfl⟩

theorem rdo_20 (a b : Int) (a0 : 0 ≤ a) (a1 : a < 4294967296) (b0 : 0 ≤ b) (b1 : b < 4294967296) (w : World) :
    Calls Tryz.prog 88 #[.int .i64 20, .int .u32 a, .int .u32 b] w fun e w' => e = .returned (.tuple #[.int .u32 (W.one (W.less a b true)), .bool true]) ∧ w = w' := by
  have hwb := and31u b0 b1
  go_enter Tryz.func88, Tryz.ntmps88
  go_wp2_with (first | (go_at_call 122; refine (pl_20 _).mono ?_; rintro e w' ⟨rfl, rfl⟩) | (go_at_call 123; refine (rone_any _ _).mono ?_; rintro e w' ⟨rfl, rfl⟩) | (go_at_call 121; refine (rless_any _ _ _ _ a0 a1 b0 b1).mono ?_; rintro e w' ⟨rfl, rfl⟩) | (go_at_call 121; refine (rless_any _ _ _ _ b0 b1 a0 a1).mono ?_; rintro e w' ⟨rfl, rfl⟩) | (go_at_call 124; refine (rright_any _ _ _ _ a0 a1).mono ?_; rintro e w' ⟨rfl, rfl⟩) | (go_at_call 125; refine (rhigh_any _ _ _ _ _ a0 a1 b0 b1).mono ?_; rintro e w' ⟨rfl, rfl⟩) | (go_at_call 126; refine (rdiv_any _ _ _ _ a0 a1 b0 b1).mono ?_; rintro e w' ⟨rfl, rfl⟩) | (go_at_call 127; refine (rrem_any _ _ _ _ a0 a1 b0 b1).mono ?_; rintro e w' ⟨rfl, rfl⟩))
  exact bodyPost_ret (v := .tuple #[.int .u32 (W.one (W.less a b true)), .bool true]) (by simp [results, Tryz.results88, go_sem]) rfl ⟨rfl, rfl⟩

theorem rdo_21 (a b : Int) (a0 : 0 ≤ a) (a1 : a < 4294967296) (b0 : 0 ≤ b) (b1 : b < 4294967296) (w : World) :
    Calls Tryz.prog 88 #[.int .i64 21, .int .u32 a, .int .u32 b] w fun e w' => e = .returned (.tuple #[.int .u32 (W.one (W.less a b false)), .bool true]) ∧ w = w' := by
  have hwb := and31u b0 b1
  have hq : Hid ((W.one (decide (a < b))) = (W.one (W.less a b false))) := (by rw [less_plain a0 a1 b0 b1] : (W.one (decide (a < b))) = (W.one (W.less a b false)))
  go_enter Tryz.func88, Tryz.ntmps88
  go_wp2_with (first | (go_at_call 122; refine (pl_21 _).mono ?_; rintro e w' ⟨rfl, rfl⟩) | (go_at_call 123; refine (rone_any _ _).mono ?_; rintro e w' ⟨rfl, rfl⟩) | (go_at_call 121; refine (rless_any _ _ _ _ a0 a1 b0 b1).mono ?_; rintro e w' ⟨rfl, rfl⟩) | (go_at_call 121; refine (rless_any _ _ _ _ b0 b1 a0 a1).mono ?_; rintro e w' ⟨rfl, rfl⟩) | (go_at_call 124; refine (rright_any _ _ _ _ a0 a1).mono ?_; rintro e w' ⟨rfl, rfl⟩) | (go_at_call 125; refine (rhigh_any _ _ _ _ _ a0 a1 b0 b1).mono ?_; rintro e w' ⟨rfl, rfl⟩) | (go_at_call 126; refine (rdiv_any _ _ _ _ a0 a1 b0 b1).mono ?_; rintro e w' ⟨rfl, rfl⟩) | (go_at_call 127; refine (rrem_any _ _ _ _ a0 a1 b0 b1).mono ?_; rintro e w' ⟨rfl, rfl⟩))
  exact bodyPost_ret (v := .tuple #[.int .u32 (W.one (decide (a < b))), .bool true]) (by simp [results, Tryz.results88, go_sem]) rfl ⟨by rw [hq.out], rfl⟩

theorem rdo_22 (a b : Int) (a0 : 0 ≤ a) (a1 : a < 4294967296) (b0 : 0 ≤ b) (b1 : b < 4294967296) (w : World) :
    Calls Tryz.prog 88 #[.int .i64 22, .int .u32 a, .int .u32 b] w fun e w' => e = .returned (.tuple #[.int .u32 (bits .xor .u32 a b), .bool true]) ∧ w = w' := by
  have hwb := and31u b0 b1
  go_enter Tryz.func88, Tryz.ntmps88
  go_wp2_with (first | (go_at_call 122; refine (pl_22 _).mono ?_; rintro e w' ⟨rfl, rfl⟩) | (go_at_call 123; refine (rone_any _ _).mono ?_; rintro e w' ⟨rfl, rfl⟩) | (go_at_call 121; refine (rless_any _ _ _ _ a0 a1 b0 b1).mono ?_; rintro e w' ⟨rfl, rfl⟩) | (go_at_call 121; refine (rless_any _ _ _ _ b0 b1 a0 a1).mono ?_; rintro e w' ⟨rfl, rfl⟩) | (go_at_call 124; refine (rright_any _ _ _ _ a0 a1).mono ?_; rintro e w' ⟨rfl, rfl⟩) | (go_at_call 125; refine (rhigh_any _ _ _ _ _ a0 a1 b0 b1).mono ?_; rintro e w' ⟨rfl, rfl⟩) | (go_at_call 126; refine (rdiv_any _ _ _ _ a0 a1 b0 b1).mono ?_; rintro e w' ⟨rfl, rfl⟩) | (go_at_call 127; refine (rrem_any _ _ _ _ a0 a1 b0 b1).mono ?_; rintro e w' ⟨rfl, rfl⟩))
  exact bodyPost_ret (v := .tuple #[.int .u32 (bits .xor .u32 a b), .bool true]) (by simp [results, Tryz.results88, go_sem]) rfl ⟨rfl, rfl⟩

theorem rdo_23 (a b : Int) (a0 : 0 ≤ a) (a1 : a < 4294967296) (b0 : 0 ≤ b) (b1 : b < 4294967296) (w : World) :
    Calls Tryz.prog 88 #[.int .i64 23, .int .u32 a, .int .u32 b] w fun e w' => e = .returned (.tuple #[.int .u32 (bits .or .u32 a b), .bool true]) ∧ w = w' := by
  have hwb := and31u b0 b1
  go_enter Tryz.func88, Tryz.ntmps88
  go_wp2_with (first | (go_at_call 122; refine (pl_23 _).mono ?_; rintro e w' ⟨rfl, rfl⟩) | (go_at_call 123; refine (rone_any _ _).mono ?_; rintro e w' ⟨rfl, rfl⟩) | (go_at_call 121; refine (rless_any _ _ _ _ a0 a1 b0 b1).mono ?_; rintro e w' ⟨rfl, rfl⟩) | (go_at_call 121; refine (rless_any _ _ _ _ b0 b1 a0 a1).mono ?_; rintro e w' ⟨rfl, rfl⟩) | (go_at_call 124; refine (rright_any _ _ _ _ a0 a1).mono ?_; rintro e w' ⟨rfl, rfl⟩) | (go_at_call 125; refine (rhigh_any _ _ _ _ _ a0 a1 b0 b1).mono ?_; rintro e w' ⟨rfl, rfl⟩) | (go_at_call 126; refine (rdiv_any _ _ _ _ a0 a1 b0 b1).mono ?_; rintro e w' ⟨rfl, rfl⟩) | (go_at_call 127; refine (rrem_any _ _ _ _ a0 a1 b0 b1).mono ?_; rintro e w' ⟨rfl, rfl⟩))
  exact bodyPost_ret (v := .tuple #[.int .u32 (bits .or .u32 a b), .bool true]) (by simp [results, Tryz.results88, go_sem]) rfl ⟨rfl, rfl⟩

theorem rdo_24 (a b : Int) (a0 : 0 ≤ a) (a1 : a < 4294967296) (b0 : 0 ≤ b) (b1 : b < 4294967296) (w : World) :
    Calls Tryz.prog 88 #[.int .i64 24, .int .u32 a, .int .u32 b] w fun e w' => e = .returned (.tuple #[.int .u32 (bits .and .u32 a b), .bool true]) ∧ w = w' := by
  have hwb := and31u b0 b1
  go_enter Tryz.func88, Tryz.ntmps88
  go_wp2_with (first | (go_at_call 122; refine (pl_24 _).mono ?_; rintro e w' ⟨rfl, rfl⟩) | (go_at_call 123; refine (rone_any _ _).mono ?_; rintro e w' ⟨rfl, rfl⟩) | (go_at_call 121; refine (rless_any _ _ _ _ a0 a1 b0 b1).mono ?_; rintro e w' ⟨rfl, rfl⟩) | (go_at_call 121; refine (rless_any _ _ _ _ b0 b1 a0 a1).mono ?_; rintro e w' ⟨rfl, rfl⟩) | (go_at_call 124; refine (rright_any _ _ _ _ a0 a1).mono ?_; rintro e w' ⟨rfl, rfl⟩) | (go_at_call 125; refine (rhigh_any _ _ _ _ _ a0 a1 b0 b1).mono ?_; rintro e w' ⟨rfl, rfl⟩) | (go_at_call 126; refine (rdiv_any _ _ _ _ a0 a1 b0 b1).mono ?_; rintro e w' ⟨rfl, rfl⟩) | (go_at_call 127; refine (rrem_any _ _ _ _ a0 a1 b0 b1).mono ?_; rintro e w' ⟨rfl, rfl⟩))
  exact bodyPost_ret (v := .tuple #[.int .u32 (bits .and .u32 a b), .bool true]) (by simp [results, Tryz.results88, go_sem]) rfl ⟨rfl, rfl⟩

theorem rdo_25 (a b : Int) (a0 : 0 ≤ a) (a1 : a < 4294967296) (b0 : 0 ≤ b) (b1 : b < 4294967296) (w : World) :
    Calls Tryz.prog 88 #[.int .i64 25, .int .u32 a, .int .u32 b] w fun e w' => e = .returned (.tuple #[.int .u32 (W.left a b), .bool true]) ∧ w = w' := by
  have hwb := and31u b0 b1
  have hq : Hid ((a * 2 ^ (b % 32).toNat % 4294967296) = (W.left a b)) := ((rfl : _ = W.left a b) : (a * 2 ^ (b % 32).toNat % 4294967296) = (W.left a b))
  go_enter Tryz.func88, Tryz.ntmps88
  go_wp2_with (first | (go_at_call 122; refine (pl_25 _).mono ?_; rintro e w' ⟨rfl, rfl⟩) | (go_at_call 123; refine (rone_any _ _).mono ?_; rintro e w' ⟨rfl, rfl⟩) | (go_at_call 121; refine (rless_any _ _ _ _ a0 a1 b0 b1).mono ?_; rintro e w' ⟨rfl, rfl⟩) | (go_at_call 121; refine (rless_any _ _ _ _ b0 b1 a0 a1).mono ?_; rintro e w' ⟨rfl, rfl⟩) | (go_at_call 124; refine (rright_any _ _ _ _ a0 a1).mono ?_; rintro e w' ⟨rfl, rfl⟩) | (go_at_call 125; refine (rhigh_any _ _ _ _ _ a0 a1 b0 b1).mono ?_; rintro e w' ⟨rfl, rfl⟩) | (go_at_call 126; refine (rdiv_any _ _ _ _ a0 a1 b0 b1).mono ?_; rintro e w' ⟨rfl, rfl⟩) | (go_at_call 127; refine (rrem_any _ _ _ _ a0 a1 b0 b1).mono ?_; rintro e w' ⟨rfl, rfl⟩))
  exact bodyPost_ret (v := .tuple #[.int .u32 (a * 2 ^ (b % 32).toNat % 4294967296), .bool true]) (by simp [results, Tryz.results88, go_sem]) rfl ⟨by rw [hq.out], rfl⟩

theorem rdo_26 (a b : Int) (a0 : 0 ≤ a) (a1 : a < 4294967296) (b0 : 0 ≤ b) (b1 : b < 4294967296) (w : World) :
    Calls Tryz.prog 88 #[.int .i64 26, .int .u32 a, .int .u32 b] w fun e w' => e = .returned (.tuple #[.int .u32 (W.right a b false), .bool true]) ∧ w = w' := by
  have hwb := and31u b0 b1
  have hq : Hid ((a / 2 ^ (b % 32).toNat) = (W.right a b false)) := (by rw [W.right, W.wide_f a a0 a1, Int.emod_eq_of_lt (Int.ediv_nonneg a0 (Int.le_of_lt (Int.pow_pos (by decide)))) (Int.lt_of_le_of_lt (Int.ediv_le_self _ a0) a1)] : (a / 2 ^ (b % 32).toNat) = (W.right a b false))
  go_enter Tryz.func88, Tryz.ntmps88
  go_wp2_with (first | (go_at_call 122; refine (pl_26 _).mono ?_; rintro e w' ⟨rfl, rfl⟩) | (go_at_call 123; refine (rone_any _ _).mono ?_; rintro e w' ⟨rfl, rfl⟩) | (go_at_call 121; refine (rless_any _ _ _ _ a0 a1 b0 b1).mono ?_; rintro e w' ⟨rfl, rfl⟩) | (go_at_call 121; refine (rless_any _ _ _ _ b0 b1 a0 a1).mono ?_; rintro e w' ⟨rfl, rfl⟩) | (go_at_call 124; refine (rright_any _ _ _ _ a0 a1).mono ?_; rintro e w' ⟨rfl, rfl⟩) | (go_at_call 125; refine (rhigh_any _ _ _ _ _ a0 a1 b0 b1).mono ?_; rintro e w' ⟨rfl, rfl⟩) | (go_at_call 126; refine (rdiv_any _ _ _ _ a0 a1 b0 b1).mono ?_; rintro e w' ⟨rfl, rfl⟩) | (go_at_call 127; refine (rrem_any _ _ _ _ a0 a1 b0 b1).mono ?_; rintro e w' ⟨rfl, rfl⟩))
  exact bodyPost_ret (v := .tuple #[.int .u32 (a / 2 ^ (b % 32).toNat), .bool true]) (by simp [results, Tryz.results88, go_sem]) rfl ⟨by rw [hq.out], rfl⟩

theorem rdo_27 (a b : Int) (a0 : 0 ≤ a) (a1 : a < 4294967296) (b0 : 0 ≤ b) (b1 : b < 4294967296) (w : World) :
    Calls Tryz.prog 88 #[.int .i64 27, .int .u32 a, .int .u32 b] w fun e w' => e = .returned (.tuple #[.int .u32 (W.right a b true), .bool true]) ∧ w = w' := by
  have hwb := and31u b0 b1
  have hq : Hid ((W.right a (b % 32) true) = (W.right a b true)) := ((W.right_mod a b true).symm : (W.right a (b % 32) true) = (W.right a b true))
  go_enter Tryz.func88, Tryz.ntmps88
  go_wp2_with (first | (go_at_call 122; refine (pl_27 _).mono ?_; rintro e w' ⟨rfl, rfl⟩) | (go_at_call 123; refine (rone_any _ _).mono ?_; rintro e w' ⟨rfl, rfl⟩) | (go_at_call 121; refine (rless_any _ _ _ _ a0 a1 b0 b1).mono ?_; rintro e w' ⟨rfl, rfl⟩) | (go_at_call 121; refine (rless_any _ _ _ _ b0 b1 a0 a1).mono ?_; rintro e w' ⟨rfl, rfl⟩) | (go_at_call 124; refine (rright_any _ _ _ _ a0 a1).mono ?_; rintro e w' ⟨rfl, rfl⟩) | (go_at_call 125; refine (rhigh_any _ _ _ _ _ a0 a1 b0 b1).mono ?_; rintro e w' ⟨rfl, rfl⟩) | (go_at_call 126; refine (rdiv_any _ _ _ _ a0 a1 b0 b1).mono ?_; rintro e w' ⟨rfl, rfl⟩) | (go_at_call 127; refine (rrem_any _ _ _ _ a0 a1 b0 b1).mono ?_; rintro e w' ⟨rfl, rfl⟩))
  exact bodyPost_ret (v := .tuple #[.int .u32 (W.right a (b % 32) true), .bool true]) (by simp [results, Tryz.results88, go_sem]) rfl ⟨by rw [hq.out], rfl⟩

theorem rdo_28 (a b : Int) (a0 : 0 ≤ a) (a1 : a < 4294967296) (b0 : 0 ≤ b) (b1 : b < 4294967296) (w : World) :
    Calls Tryz.prog 88 #[.int .i64 28, .int .u32 a, .int .u32 b] w fun e w' => e = .returned (.tuple #[.int .u32 ((a + b) % 4294967296), .bool true]) ∧ w = w' := by
  have hwb := and31u b0 b1
  go_enter Tryz.func88, Tryz.ntmps88
  go_wp2_with (first | (go_at_call 122; refine (pl_28 _).mono ?_; rintro e w' ⟨rfl, rfl⟩) | (go_at_call 123; refine (rone_any _ _).mono ?_; rintro e w' ⟨rfl, rfl⟩) | (go_at_call 121; refine (rless_any _ _ _ _ a0 a1 b0 b1).mono ?_; rintro e w' ⟨rfl, rfl⟩) | (go_at_call 121; refine (rless_any _ _ _ _ b0 b1 a0 a1).mono ?_; rintro e w' ⟨rfl, rfl⟩) | (go_at_call 124; refine (rright_any _ _ _ _ a0 a1).mono ?_; rintro e w' ⟨rfl, rfl⟩) | (go_at_call 125; refine (rhigh_any _ _ _ _ _ a0 a1 b0 b1).mono ?_; rintro e w' ⟨rfl, rfl⟩) | (go_at_call 126; refine (rdiv_any _ _ _ _ a0 a1 b0 b1).mono ?_; rintro e w' ⟨rfl, rfl⟩) | (go_at_call 127; refine (rrem_any _ _ _ _ a0 a1 b0 b1).mono ?_; rintro e w' ⟨rfl, rfl⟩))
  exact bodyPost_ret (v := .tuple #[.int .u32 ((a + b) % 4294967296), .bool true]) (by simp [results, Tryz.results88, go_sem]) rfl ⟨rfl, rfl⟩

theorem rdo_29 (a b : Int) (a0 : 0 ≤ a) (a1 : a < 4294967296) (b0 : 0 ≤ b) (b1 : b < 4294967296) (w : World) :
    Calls Tryz.prog 88 #[.int .i64 29, .int .u32 a, .int .u32 b] w fun e w' => e = .returned (.tuple #[.int .u32 ((a - b) % 4294967296), .bool true]) ∧ w = w' := by
  have hwb := and31u b0 b1
  go_enter Tryz.func88, Tryz.ntmps88
  go_wp2_with (first | (go_at_call 122; refine (pl_29 _).mono ?_; rintro e w' ⟨rfl, rfl⟩) | (go_at_call 123; refine (rone_any _ _).mono ?_; rintro e w' ⟨rfl, rfl⟩) | (go_at_call 121; refine (rless_any _ _ _ _ a0 a1 b0 b1).mono ?_; rintro e w' ⟨rfl, rfl⟩) | (go_at_call 121; refine (rless_any _ _ _ _ b0 b1 a0 a1).mono ?_; rintro e w' ⟨rfl, rfl⟩) | (go_at_call 124; refine (rright_any _ _ _ _ a0 a1).mono ?_; rintro e w' ⟨rfl, rfl⟩) | (go_at_call 125; refine (rhigh_any _ _ _ _ _ a0 a1 b0 b1).mono ?_; rintro e w' ⟨rfl, rfl⟩) | (go_at_call 126; refine (rdiv_any _ _ _ _ a0 a1 b0 b1).mono ?_; rintro e w' ⟨rfl, rfl⟩) | (go_at_call 127; refine (rrem_any _ _ _ _ a0 a1 b0 b1).mono ?_; rintro e w' ⟨rfl, rfl⟩))
  exact bodyPost_ret (v := .tuple #[.int .u32 ((a - b) % 4294967296), .bool true]) (by simp [results, Tryz.results88, go_sem]) rfl ⟨rfl, rfl⟩

theorem rdo_30 (a b : Int) (a0 : 0 ≤ a) (a1 : a < 4294967296) (b0 : 0 ≤ b) (b1 : b < 4294967296) (w : World) :
    Calls Tryz.prog 88 #[.int .i64 30, .int .u32 a, .int .u32 b] w fun e w' => e = .returned (.tuple #[.int .u32 (W.left a b), .bool true]) ∧ w = w' := by
  have hwb := and31u b0 b1
  have hq : Hid ((a * 2 ^ (b % 32).toNat % 4294967296) = (W.left a b)) := ((rfl : _ = W.left a b) : (a * 2 ^ (b % 32).toNat % 4294967296) = (W.left a b))
  go_enter Tryz.func88, Tryz.ntmps88
  go_wp2_with (first | (go_at_call 122; refine (pl_30 _).mono ?_; rintro e w' ⟨rfl, rfl⟩) | (go_at_call 123; refine (rone_any _ _).mono ?_; rintro e w' ⟨rfl, rfl⟩) | (go_at_call 121; refine (rless_any _ _ _ _ a0 a1 b0 b1).mono ?_; rintro e w' ⟨rfl, rfl⟩) | (go_at_call 121; refine (rless_any _ _ _ _ b0 b1 a0 a1).mono ?_; rintro e w' ⟨rfl, rfl⟩) | (go_at_call 124; refine (rright_any _ _ _ _ a0 a1).mono ?_; rintro e w' ⟨rfl, rfl⟩) | (go_at_call 125; refine (rhigh_any _ _ _ _ _ a0 a1 b0 b1).mono ?_; rintro e w' ⟨rfl, rfl⟩) | (go_at_call 126; refine (rdiv_any _ _ _ _ a0 a1 b0 b1).mono ?_; rintro e w' ⟨rfl, rfl⟩) | (go_at_call 127; refine (rrem_any _ _ _ _ a0 a1 b0 b1).mono ?_; rintro e w' ⟨rfl, rfl⟩))
  exact bodyPost_ret (v := .tuple #[.int .u32 (a * 2 ^ (b % 32).toNat % 4294967296), .bool true]) (by simp [results, Tryz.results88, go_sem]) rfl ⟨by rw [hq.out], rfl⟩

theorem rdo_31 (a b : Int) (a0 : 0 ≤ a) (a1 : a < 4294967296) (b0 : 0 ≤ b) (b1 : b < 4294967296) (w : World) :
    Calls Tryz.prog 88 #[.int .i64 31, .int .u32 a, .int .u32 b] w fun e w' => e = .returned (.tuple #[.int .u32 (W.one (W.less a b true)), .bool true]) ∧ w = w' := by
  have hwb := and31u b0 b1
  go_enter Tryz.func88, Tryz.ntmps88
  go_wp2_with (first | (go_at_call 122; refine (pl_31 _).mono ?_; rintro e w' ⟨rfl, rfl⟩) | (go_at_call 123; refine (rone_any _ _).mono ?_; rintro e w' ⟨rfl, rfl⟩) | (go_at_call 121; refine (rless_any _ _ _ _ a0 a1 b0 b1).mono ?_; rintro e w' ⟨rfl, rfl⟩) | (go_at_call 121; refine (rless_any _ _ _ _ b0 b1 a0 a1).mono ?_; rintro e w' ⟨rfl, rfl⟩) | (go_at_call 124; refine (rright_any _ _ _ _ a0 a1).mono ?_; rintro e w' ⟨rfl, rfl⟩) | (go_at_call 125; refine (rhigh_any _ _ _ _ _ a0 a1 b0 b1).mono ?_; rintro e w' ⟨rfl, rfl⟩) | (go_at_call 126; refine (rdiv_any _ _ _ _ a0 a1 b0 b1).mono ?_; rintro e w' ⟨rfl, rfl⟩) | (go_at_call 127; refine (rrem_any _ _ _ _ a0 a1 b0 b1).mono ?_; rintro e w' ⟨rfl, rfl⟩))
  exact bodyPost_ret (v := .tuple #[.int .u32 (W.one (W.less a b true)), .bool true]) (by simp [results, Tryz.results88, go_sem]) rfl ⟨rfl, rfl⟩

theorem rdo_32 (a b : Int) (a0 : 0 ≤ a) (a1 : a < 4294967296) (b0 : 0 ≤ b) (b1 : b < 4294967296) (w : World) :
    Calls Tryz.prog 88 #[.int .i64 32, .int .u32 a, .int .u32 b] w fun e w' => e = .returned (.tuple #[.int .u32 (W.one (W.less a b false)), .bool true]) ∧ w = w' := by
  have hwb := and31u b0 b1
  have hq : Hid ((W.one (decide (a < b))) = (W.one (W.less a b false))) := (by rw [less_plain a0 a1 b0 b1] : (W.one (decide (a < b))) = (W.one (W.less a b false)))
  go_enter Tryz.func88, Tryz.ntmps88
  go_wp2_with (first | (go_at_call 122; refine (pl_32 _).mono ?_; rintro e w' ⟨rfl, rfl⟩) | (go_at_call 123; refine (rone_any _ _).mono ?_; rintro e w' ⟨rfl, rfl⟩) | (go_at_call 121; refine (rless_any _ _ _ _ a0 a1 b0 b1).mono ?_; rintro e w' ⟨rfl, rfl⟩) | (go_at_call 121; refine (rless_any _ _ _ _ b0 b1 a0 a1).mono ?_; rintro e w' ⟨rfl, rfl⟩) | (go_at_call 124; refine (rright_any _ _ _ _ a0 a1).mono ?_; rintro e w' ⟨rfl, rfl⟩) | (go_at_call 125; refine (rhigh_any _ _ _ _ _ a0 a1 b0 b1).mono ?_; rintro e w' ⟨rfl, rfl⟩) | (go_at_call 126; refine (rdiv_any _ _ _ _ a0 a1 b0 b1).mono ?_; rintro e w' ⟨rfl, rfl⟩) | (go_at_call 127; refine (rrem_any _ _ _ _ a0 a1 b0 b1).mono ?_; rintro e w' ⟨rfl, rfl⟩))
  exact bodyPost_ret (v := .tuple #[.int .u32 (W.one (decide (a < b))), .bool true]) (by simp [results, Tryz.results88, go_sem]) rfl ⟨by rw [hq.out], rfl⟩

theorem rdo_33 (a b : Int) (a0 : 0 ≤ a) (a1 : a < 4294967296) (b0 : 0 ≤ b) (b1 : b < 4294967296) (w : World) :
    Calls Tryz.prog 88 #[.int .i64 33, .int .u32 a, .int .u32 b] w fun e w' => e = .returned (.tuple #[.int .u32 (bits .xor .u32 a b), .bool true]) ∧ w = w' := by
  have hwb := and31u b0 b1
  go_enter Tryz.func88, Tryz.ntmps88
  go_wp2_with (first | (go_at_call 122; refine (pl_33 _).mono ?_; rintro e w' ⟨rfl, rfl⟩) | (go_at_call 123; refine (rone_any _ _).mono ?_; rintro e w' ⟨rfl, rfl⟩) | (go_at_call 121; refine (rless_any _ _ _ _ a0 a1 b0 b1).mono ?_; rintro e w' ⟨rfl, rfl⟩) | (go_at_call 121; refine (rless_any _ _ _ _ b0 b1 a0 a1).mono ?_; rintro e w' ⟨rfl, rfl⟩) | (go_at_call 124; refine (rright_any _ _ _ _ a0 a1).mono ?_; rintro e w' ⟨rfl, rfl⟩) | (go_at_call 125; refine (rhigh_any _ _ _ _ _ a0 a1 b0 b1).mono ?_; rintro e w' ⟨rfl, rfl⟩) | (go_at_call 126; refine (rdiv_any _ _ _ _ a0 a1 b0 b1).mono ?_; rintro e w' ⟨rfl, rfl⟩) | (go_at_call 127; refine (rrem_any _ _ _ _ a0 a1 b0 b1).mono ?_; rintro e w' ⟨rfl, rfl⟩))
  exact bodyPost_ret (v := .tuple #[.int .u32 (bits .xor .u32 a b), .bool true]) (by simp [results, Tryz.results88, go_sem]) rfl ⟨rfl, rfl⟩

theorem rdo_34 (a b : Int) (a0 : 0 ≤ a) (a1 : a < 4294967296) (b0 : 0 ≤ b) (b1 : b < 4294967296) (w : World) :
    Calls Tryz.prog 88 #[.int .i64 34, .int .u32 a, .int .u32 b] w fun e w' => e = .returned (.tuple #[.int .u32 (W.right a b false), .bool true]) ∧ w = w' := by
  have hwb := and31u b0 b1
  have hq : Hid ((a / 2 ^ (b % 32).toNat) = (W.right a b false)) := (by rw [W.right, W.wide_f a a0 a1, Int.emod_eq_of_lt (Int.ediv_nonneg a0 (Int.le_of_lt (Int.pow_pos (by decide)))) (Int.lt_of_le_of_lt (Int.ediv_le_self _ a0) a1)] : (a / 2 ^ (b % 32).toNat) = (W.right a b false))
  go_enter Tryz.func88, Tryz.ntmps88
  go_wp2_with (first | (go_at_call 122; refine (pl_34 _).mono ?_; rintro e w' ⟨rfl, rfl⟩) | (go_at_call 123; refine (rone_any _ _).mono ?_; rintro e w' ⟨rfl, rfl⟩) | (go_at_call 121; refine (rless_any _ _ _ _ a0 a1 b0 b1).mono ?_; rintro e w' ⟨rfl, rfl⟩) | (go_at_call 121; refine (rless_any _ _ _ _ b0 b1 a0 a1).mono ?_; rintro e w' ⟨rfl, rfl⟩) | (go_at_call 124; refine (rright_any _ _ _ _ a0 a1).mono ?_; rintro e w' ⟨rfl, rfl⟩) | (go_at_call 125; refine (rhigh_any _ _ _ _ _ a0 a1 b0 b1).mono ?_; rintro e w' ⟨rfl, rfl⟩) | (go_at_call 126; refine (rdiv_any _ _ _ _ a0 a1 b0 b1).mono ?_; rintro e w' ⟨rfl, rfl⟩) | (go_at_call 127; refine (rrem_any _ _ _ _ a0 a1 b0 b1).mono ?_; rintro e w' ⟨rfl, rfl⟩))
  exact bodyPost_ret (v := .tuple #[.int .u32 (a / 2 ^ (b % 32).toNat), .bool true]) (by simp [results, Tryz.results88, go_sem]) rfl ⟨by rw [hq.out], rfl⟩

theorem rdo_35 (a b : Int) (a0 : 0 ≤ a) (a1 : a < 4294967296) (b0 : 0 ≤ b) (b1 : b < 4294967296) (w : World) :
    Calls Tryz.prog 88 #[.int .i64 35, .int .u32 a, .int .u32 b] w fun e w' => e = .returned (.tuple #[.int .u32 (W.right a b true), .bool true]) ∧ w = w' := by
  have hwb := and31u b0 b1
  have hq : Hid ((W.right a (b % 32) true) = (W.right a b true)) := ((W.right_mod a b true).symm : (W.right a (b % 32) true) = (W.right a b true))
  go_enter Tryz.func88, Tryz.ntmps88
  go_wp2_with (first | (go_at_call 122; refine (pl_35 _).mono ?_; rintro e w' ⟨rfl, rfl⟩) | (go_at_call 123; refine (rone_any _ _).mono ?_; rintro e w' ⟨rfl, rfl⟩) | (go_at_call 121; refine (rless_any _ _ _ _ a0 a1 b0 b1).mono ?_; rintro e w' ⟨rfl, rfl⟩) | (go_at_call 121; refine (rless_any _ _ _ _ b0 b1 a0 a1).mono ?_; rintro e w' ⟨rfl, rfl⟩) | (go_at_call 124; refine (rright_any _ _ _ _ a0 a1).mono ?_; rintro e w' ⟨rfl, rfl⟩) | (go_at_call 125; refine (rhigh_any _ _ _ _ _ a0 a1 b0 b1).mono ?_; rintro e w' ⟨rfl, rfl⟩) | (go_at_call 126; refine (rdiv_any _ _ _ _ a0 a1 b0 b1).mono ?_; rintro e w' ⟨rfl, rfl⟩) | (go_at_call 127; refine (rrem_any _ _ _ _ a0 a1 b0 b1).mono ?_; rintro e w' ⟨rfl, rfl⟩))
  exact bodyPost_ret (v := .tuple #[.int .u32 (W.right a (b % 32) true), .bool true]) (by simp [results, Tryz.results88, go_sem]) rfl ⟨by rw [hq.out], rfl⟩

theorem rdo_36 (a b : Int) (a0 : 0 ≤ a) (a1 : a < 4294967296) (b0 : 0 ≤ b) (b1 : b < 4294967296) (w : World) :
    Calls Tryz.prog 88 #[.int .i64 36, .int .u32 a, .int .u32 b] w fun e w' => e = .returned (.tuple #[.int .u32 (bits .or .u32 a b), .bool true]) ∧ w = w' := by
  have hwb := and31u b0 b1
  go_enter Tryz.func88, Tryz.ntmps88
  go_wp2_with (first | (go_at_call 122; refine (pl_36 _).mono ?_; rintro e w' ⟨rfl, rfl⟩) | (go_at_call 123; refine (rone_any _ _).mono ?_; rintro e w' ⟨rfl, rfl⟩) | (go_at_call 121; refine (rless_any _ _ _ _ a0 a1 b0 b1).mono ?_; rintro e w' ⟨rfl, rfl⟩) | (go_at_call 121; refine (rless_any _ _ _ _ b0 b1 a0 a1).mono ?_; rintro e w' ⟨rfl, rfl⟩) | (go_at_call 124; refine (rright_any _ _ _ _ a0 a1).mono ?_; rintro e w' ⟨rfl, rfl⟩) | (go_at_call 125; refine (rhigh_any _ _ _ _ _ a0 a1 b0 b1).mono ?_; rintro e w' ⟨rfl, rfl⟩) | (go_at_call 126; refine (rdiv_any _ _ _ _ a0 a1 b0 b1).mono ?_; rintro e w' ⟨rfl, rfl⟩) | (go_at_call 127; refine (rrem_any _ _ _ _ a0 a1 b0 b1).mono ?_; rintro e w' ⟨rfl, rfl⟩))
  exact bodyPost_ret (v := .tuple #[.int .u32 (bits .or .u32 a b), .bool true]) (by simp [results, Tryz.results88, go_sem]) rfl ⟨rfl, rfl⟩

theorem rdo_37 (a b : Int) (a0 : 0 ≤ a) (a1 : a < 4294967296) (b0 : 0 ≤ b) (b1 : b < 4294967296) (w : World) :
    Calls Tryz.prog 88 #[.int .i64 37, .int .u32 a, .int .u32 b] w fun e w' => e = .returned (.tuple #[.int .u32 (bits .and .u32 a b), .bool true]) ∧ w = w' := by
  have hwb := and31u b0 b1
  go_enter Tryz.func88, Tryz.ntmps88
  go_wp2_with (first | (go_at_call 122; refine (pl_37 _).mono ?_; rintro e w' ⟨rfl, rfl⟩) | (go_at_call 123; refine (rone_any _ _).mono ?_; rintro e w' ⟨rfl, rfl⟩) | (go_at_call 121; refine (rless_any _ _ _ _ a0 a1 b0 b1).mono ?_; rintro e w' ⟨rfl, rfl⟩) | (go_at_call 121; refine (rless_any _ _ _ _ b0 b1 a0 a1).mono ?_; rintro e w' ⟨rfl, rfl⟩) | (go_at_call 124; refine (rright_any _ _ _ _ a0 a1).mono ?_; rintro e w' ⟨rfl, rfl⟩) | (go_at_call 125; refine (rhigh_any _ _ _ _ _ a0 a1 b0 b1).mono ?_; rintro e w' ⟨rfl, rfl⟩) | (go_at_call 126; refine (rdiv_any _ _ _ _ a0 a1 b0 b1).mono ?_; rintro e w' ⟨rfl, rfl⟩) | (go_at_call 127; refine (rrem_any _ _ _ _ a0 a1 b0 b1).mono ?_; rintro e w' ⟨rfl, rfl⟩))
  exact bodyPost_ret (v := .tuple #[.int .u32 (bits .and .u32 a b), .bool true]) (by simp [results, Tryz.results88, go_sem]) rfl ⟨rfl, rfl⟩

theorem rdo_51 (a b : Int) (a0 : 0 ≤ a) (a1 : a < 4294967296) (b0 : 0 ≤ b) (b1 : b < 4294967296) (w : World) :
    Calls Tryz.prog 88 #[.int .i64 51, .int .u32 a, .int .u32 b] w fun e w' => e = .returned (.tuple #[.int .u32 (a * b % 4294967296), .bool true]) ∧ w = w' := by
  have hwb := and31u b0 b1
  go_enter Tryz.func88, Tryz.ntmps88
  go_wp2_with (first | (go_at_call 122; refine (pl_51 _).mono ?_; rintro e w' ⟨rfl, rfl⟩) | (go_at_call 123; refine (rone_any _ _).mono ?_; rintro e w' ⟨rfl, rfl⟩) | (go_at_call 121; refine (rless_any _ _ _ _ a0 a1 b0 b1).mono ?_; rintro e w' ⟨rfl, rfl⟩) | (go_at_call 121; refine (rless_any _ _ _ _ b0 b1 a0 a1).mono ?_; rintro e w' ⟨rfl, rfl⟩) | (go_at_call 124; refine (rright_any _ _ _ _ a0 a1).mono ?_; rintro e w' ⟨rfl, rfl⟩) | (go_at_call 125; refine (rhigh_any _ _ _ _ _ a0 a1 b0 b1).mono ?_; rintro e w' ⟨rfl, rfl⟩) | (go_at_call 126; refine (rdiv_any _ _ _ _ a0 a1 b0 b1).mono ?_; rintro e w' ⟨rfl, rfl⟩) | (go_at_call 127; refine (rrem_any _ _ _ _ a0 a1 b0 b1).mono ?_; rintro e w' ⟨rfl, rfl⟩))
  exact bodyPost_ret (v := .tuple #[.int .u32 (a * b % 4294967296), .bool true]) (by simp [results, Tryz.results88, go_sem]) rfl ⟨rfl, rfl⟩

theorem rdo_52 (a b : Int) (a0 : 0 ≤ a) (a1 : a < 4294967296) (b0 : 0 ≤ b) (b1 : b < 4294967296) (w : World) :
    Calls Tryz.prog 88 #[.int .i64 52, .int .u32 a, .int .u32 b] w fun e w' => e = .returned (.tuple #[.int .u32 (W.high a b true true), .bool true]) ∧ w = w' := by
  have hwb := and31u b0 b1
  go_enter Tryz.func88, Tryz.ntmps88
  go_wp2_with (first | (go_at_call 122; refine (pl_52 _).mono ?_; rintro e w' ⟨rfl, rfl⟩) | (go_at_call 123; refine (rone_any _ _).mono ?_; rintro e w' ⟨rfl, rfl⟩) | (go_at_call 121; refine (rless_any _ _ _ _ a0 a1 b0 b1).mono ?_; rintro e w' ⟨rfl, rfl⟩) | (go_at_call 121; refine (rless_any _ _ _ _ b0 b1 a0 a1).mono ?_; rintro e w' ⟨rfl, rfl⟩) | (go_at_call 124; refine (rright_any _ _ _ _ a0 a1).mono ?_; rintro e w' ⟨rfl, rfl⟩) | (go_at_call 125; refine (rhigh_any _ _ _ _ _ a0 a1 b0 b1).mono ?_; rintro e w' ⟨rfl, rfl⟩) | (go_at_call 126; refine (rdiv_any _ _ _ _ a0 a1 b0 b1).mono ?_; rintro e w' ⟨rfl, rfl⟩) | (go_at_call 127; refine (rrem_any _ _ _ _ a0 a1 b0 b1).mono ?_; rintro e w' ⟨rfl, rfl⟩))
  exact bodyPost_ret (v := .tuple #[.int .u32 (W.high a b true true), .bool true]) (by simp [results, Tryz.results88, go_sem]) rfl ⟨rfl, rfl⟩

theorem rdo_53 (a b : Int) (a0 : 0 ≤ a) (a1 : a < 4294967296) (b0 : 0 ≤ b) (b1 : b < 4294967296) (w : World) :
    Calls Tryz.prog 88 #[.int .i64 53, .int .u32 a, .int .u32 b] w fun e w' => e = .returned (.tuple #[.int .u32 (W.high a b true false), .bool true]) ∧ w = w' := by
  have hwb := and31u b0 b1
  go_enter Tryz.func88, Tryz.ntmps88
  go_wp2_with (first | (go_at_call 122; refine (pl_53 _).mono ?_; rintro e w' ⟨rfl, rfl⟩) | (go_at_call 123; refine (rone_any _ _).mono ?_; rintro e w' ⟨rfl, rfl⟩) | (go_at_call 121; refine (rless_any _ _ _ _ a0 a1 b0 b1).mono ?_; rintro e w' ⟨rfl, rfl⟩) | (go_at_call 121; refine (rless_any _ _ _ _ b0 b1 a0 a1).mono ?_; rintro e w' ⟨rfl, rfl⟩) | (go_at_call 124; refine (rright_any _ _ _ _ a0 a1).mono ?_; rintro e w' ⟨rfl, rfl⟩) | (go_at_call 125; refine (rhigh_any _ _ _ _ _ a0 a1 b0 b1).mono ?_; rintro e w' ⟨rfl, rfl⟩) | (go_at_call 126; refine (rdiv_any _ _ _ _ a0 a1 b0 b1).mono ?_; rintro e w' ⟨rfl, rfl⟩) | (go_at_call 127; refine (rrem_any _ _ _ _ a0 a1 b0 b1).mono ?_; rintro e w' ⟨rfl, rfl⟩))
  exact bodyPost_ret (v := .tuple #[.int .u32 (W.high a b true false), .bool true]) (by simp [results, Tryz.results88, go_sem]) rfl ⟨rfl, rfl⟩

theorem rdo_54 (a b : Int) (a0 : 0 ≤ a) (a1 : a < 4294967296) (b0 : 0 ≤ b) (b1 : b < 4294967296) (w : World) :
    Calls Tryz.prog 88 #[.int .i64 54, .int .u32 a, .int .u32 b] w fun e w' => e = .returned (.tuple #[.int .u32 (W.high a b false false), .bool true]) ∧ w = w' := by
  have hwb := and31u b0 b1
  go_enter Tryz.func88, Tryz.ntmps88
  go_wp2_with (first | (go_at_call 122; refine (pl_54 _).mono ?_; rintro e w' ⟨rfl, rfl⟩) | (go_at_call 123; refine (rone_any _ _).mono ?_; rintro e w' ⟨rfl, rfl⟩) | (go_at_call 121; refine (rless_any _ _ _ _ a0 a1 b0 b1).mono ?_; rintro e w' ⟨rfl, rfl⟩) | (go_at_call 121; refine (rless_any _ _ _ _ b0 b1 a0 a1).mono ?_; rintro e w' ⟨rfl, rfl⟩) | (go_at_call 124; refine (rright_any _ _ _ _ a0 a1).mono ?_; rintro e w' ⟨rfl, rfl⟩) | (go_at_call 125; refine (rhigh_any _ _ _ _ _ a0 a1 b0 b1).mono ?_; rintro e w' ⟨rfl, rfl⟩) | (go_at_call 126; refine (rdiv_any _ _ _ _ a0 a1 b0 b1).mono ?_; rintro e w' ⟨rfl, rfl⟩) | (go_at_call 127; refine (rrem_any _ _ _ _ a0 a1 b0 b1).mono ?_; rintro e w' ⟨rfl, rfl⟩))
  exact bodyPost_ret (v := .tuple #[.int .u32 (W.high a b false false), .bool true]) (by simp [results, Tryz.results88, go_sem]) rfl ⟨rfl, rfl⟩

theorem rdo_55 (a b : Int) (a0 : 0 ≤ a) (a1 : a < 4294967296) (b0 : 0 ≤ b) (b1 : b < 4294967296) (w : World) :
    Calls Tryz.prog 88 #[.int .i64 55, .int .u32 a, .int .u32 b] w fun e w' => e = .returned (.tuple #[.int .u32 (W.div a b true), .bool true]) ∧ w = w' := by
  have hwb := and31u b0 b1
  go_enter Tryz.func88, Tryz.ntmps88
  go_wp2_with (first | (go_at_call 122; refine (pl_55 _).mono ?_; rintro e w' ⟨rfl, rfl⟩) | (go_at_call 123; refine (rone_any _ _).mono ?_; rintro e w' ⟨rfl, rfl⟩) | (go_at_call 121; refine (rless_any _ _ _ _ a0 a1 b0 b1).mono ?_; rintro e w' ⟨rfl, rfl⟩) | (go_at_call 121; refine (rless_any _ _ _ _ b0 b1 a0 a1).mono ?_; rintro e w' ⟨rfl, rfl⟩) | (go_at_call 124; refine (rright_any _ _ _ _ a0 a1).mono ?_; rintro e w' ⟨rfl, rfl⟩) | (go_at_call 125; refine (rhigh_any _ _ _ _ _ a0 a1 b0 b1).mono ?_; rintro e w' ⟨rfl, rfl⟩) | (go_at_call 126; refine (rdiv_any _ _ _ _ a0 a1 b0 b1).mono ?_; rintro e w' ⟨rfl, rfl⟩) | (go_at_call 127; refine (rrem_any _ _ _ _ a0 a1 b0 b1).mono ?_; rintro e w' ⟨rfl, rfl⟩))
  exact bodyPost_ret (v := .tuple #[.int .u32 (W.div a b true), .bool true]) (by simp [results, Tryz.results88, go_sem]) rfl ⟨rfl, rfl⟩

theorem rdo_56 (a b : Int) (a0 : 0 ≤ a) (a1 : a < 4294967296) (b0 : 0 ≤ b) (b1 : b < 4294967296) (w : World) :
    Calls Tryz.prog 88 #[.int .i64 56, .int .u32 a, .int .u32 b] w fun e w' => e = .returned (.tuple #[.int .u32 (W.div a b false), .bool true]) ∧ w = w' := by
  have hwb := and31u b0 b1
  go_enter Tryz.func88, Tryz.ntmps88
  go_wp2_with (first | (go_at_call 122; refine (pl_56 _).mono ?_; rintro e w' ⟨rfl, rfl⟩) | (go_at_call 123; refine (rone_any _ _).mono ?_; rintro e w' ⟨rfl, rfl⟩) | (go_at_call 121; refine (rless_any _ _ _ _ a0 a1 b0 b1).mono ?_; rintro e w' ⟨rfl, rfl⟩) | (go_at_call 121; refine (rless_any _ _ _ _ b0 b1 a0 a1).mono ?_; rintro e w' ⟨rfl, rfl⟩) | (go_at_call 124; refine (rright_any _ _ _ _ a0 a1).mono ?_; rintro e w' ⟨rfl, rfl⟩) | (go_at_call 125; refine (rhigh_any _ _ _ _ _ a0 a1 b0 b1).mono ?_; rintro e w' ⟨rfl, rfl⟩) | (go_at_call 126; refine (rdiv_any _ _ _ _ a0 a1 b0 b1).mono ?_; rintro e w' ⟨rfl, rfl⟩) | (go_at_call 127; refine (rrem_any _ _ _ _ a0 a1 b0 b1).mono ?_; rintro e w' ⟨rfl, rfl⟩))
  exact bodyPost_ret (v := .tuple #[.int .u32 (W.div a b false), .bool true]) (by simp [results, Tryz.results88, go_sem]) rfl ⟨rfl, rfl⟩

theorem rdo_57 (a b : Int) (a0 : 0 ≤ a) (a1 : a < 4294967296) (b0 : 0 ≤ b) (b1 : b < 4294967296) (w : World) :
    Calls Tryz.prog 88 #[.int .i64 57, .int .u32 a, .int .u32 b] w fun e w' => e = .returned (.tuple #[.int .u32 (W.rem a b true), .bool true]) ∧ w = w' := by
  have hwb := and31u b0 b1
  go_enter Tryz.func88, Tryz.ntmps88
  go_wp2_with (first | (go_at_call 122; refine (pl_57 _).mono ?_; rintro e w' ⟨rfl, rfl⟩) | (go_at_call 123; refine (rone_any _ _).mono ?_; rintro e w' ⟨rfl, rfl⟩) | (go_at_call 121; refine (rless_any _ _ _ _ a0 a1 b0 b1).mono ?_; rintro e w' ⟨rfl, rfl⟩) | (go_at_call 121; refine (rless_any _ _ _ _ b0 b1 a0 a1).mono ?_; rintro e w' ⟨rfl, rfl⟩) | (go_at_call 124; refine (rright_any _ _ _ _ a0 a1).mono ?_; rintro e w' ⟨rfl, rfl⟩) | (go_at_call 125; refine (rhigh_any _ _ _ _ _ a0 a1 b0 b1).mono ?_; rintro e w' ⟨rfl, rfl⟩) | (go_at_call 126; refine (rdiv_any _ _ _ _ a0 a1 b0 b1).mono ?_; rintro e w' ⟨rfl, rfl⟩) | (go_at_call 127; refine (rrem_any _ _ _ _ a0 a1 b0 b1).mono ?_; rintro e w' ⟨rfl, rfl⟩))
  exact bodyPost_ret (v := .tuple #[.int .u32 (W.rem a b true), .bool true]) (by simp [results, Tryz.results88, go_sem]) rfl ⟨rfl, rfl⟩

theorem rdo_58 (a b : Int) (a0 : 0 ≤ a) (a1 : a < 4294967296) (b0 : 0 ≤ b) (b1 : b < 4294967296) (w : World) :
    Calls Tryz.prog 88 #[.int .i64 58, .int .u32 a, .int .u32 b] w fun e w' => e = .returned (.tuple #[.int .u32 (W.rem a b false), .bool true]) ∧ w = w' := by
  have hwb := and31u b0 b1
  go_enter Tryz.func88, Tryz.ntmps88
  go_wp2_with (first | (go_at_call 122; refine (pl_58 _).mono ?_; rintro e w' ⟨rfl, rfl⟩) | (go_at_call 123; refine (rone_any _ _).mono ?_; rintro e w' ⟨rfl, rfl⟩) | (go_at_call 121; refine (rless_any _ _ _ _ a0 a1 b0 b1).mono ?_; rintro e w' ⟨rfl, rfl⟩) | (go_at_call 121; refine (rless_any _ _ _ _ b0 b1 a0 a1).mono ?_; rintro e w' ⟨rfl, rfl⟩) | (go_at_call 124; refine (rright_any _ _ _ _ a0 a1).mono ?_; rintro e w' ⟨rfl, rfl⟩) | (go_at_call 125; refine (rhigh_any _ _ _ _ _ a0 a1 b0 b1).mono ?_; rintro e w' ⟨rfl, rfl⟩) | (go_at_call 126; refine (rdiv_any _ _ _ _ a0 a1 b0 b1).mono ?_; rintro e w' ⟨rfl, rfl⟩) | (go_at_call 127; refine (rrem_any _ _ _ _ a0 a1 b0 b1).mono ?_; rintro e w' ⟨rfl, rfl⟩))
  exact bodyPost_ret (v := .tuple #[.int .u32 (W.rem a b false), .bool true]) (by simp [results, Tryz.results88, go_sem]) rfl ⟨rfl, rfl⟩

theorem rdo_none (op a b : Int) (a0 : 0 ≤ a) (a1 : a < 4294967296) (b0 : 0 ≤ b) (b1 : b < 4294967296) (h : W.doB op = false) (w : World) :
    Calls Tryz.prog 88 #[.int .i64 op, .int .u32 a, .int .u32 b] w fun e w' => e = .returned (.tuple #[.int .u32 0, .bool false]) ∧ w = w' := by
  obtain ⟨h19, h20, h21, h22, h23, h24, h25, h26, h27, h28, h29, h30, h31, h32, h33, h34, h35, h36, h37, h51, h52, h53, h54, h55, h56, h57, h58⟩ := W.doB_none h
  have H : Hid (W.doB op = false) := h
  clear h
  go_enter Tryz.func88, Tryz.ntmps88
  go_wp2_with (first | (go_at_call 122; refine (pl_none op H.out _).mono ?_; rintro e w' ⟨rfl, rfl⟩))
  exact bodyPost_ret (v := .tuple #[.int .u32 0, .bool false]) (by simp [results, Tryz.results88, go_sem]) rfl ⟨rfl, rfl⟩

theorem rdo_any (op a b : Int) (a0 : 0 ≤ a) (a1 : a < 4294967296) (b0 : 0 ≤ b) (b1 : b < 4294967296) (w : World) :
    Calls Tryz.prog 88 #[.int .i64 op, .int .u32 a, .int .u32 b] w fun e w' => e = .returned (.tuple #[.int .u32 (W.doV op a b), .bool (W.doB op)]) ∧ w = w' := by
  cases h : W.doB op
  · rw [W.doV_none a b h]
    exact rdo_none op a b a0 a1 b0 b1 h w
  · rcases W.doB_cases h with rfl | rfl | rfl | rfl | rfl | rfl | rfl | rfl | rfl | rfl | rfl | rfl | rfl | rfl | rfl | rfl | rfl | rfl | rfl | rfl | rfl | rfl | rfl | rfl | rfl | rfl | rfl
    · exact rdo_19 a b a0 a1 b0 b1 w
    · exact rdo_20 a b a0 a1 b0 b1 w
    · exact rdo_21 a b a0 a1 b0 b1 w
    · exact rdo_22 a b a0 a1 b0 b1 w
    · exact rdo_23 a b a0 a1 b0 b1 w
    · exact rdo_24 a b a0 a1 b0 b1 w
    · exact rdo_25 a b a0 a1 b0 b1 w
    · exact rdo_26 a b a0 a1 b0 b1 w
    · exact rdo_27 a b a0 a1 b0 b1 w
    · exact rdo_28 a b a0 a1 b0 b1 w
    · exact rdo_29 a b a0 a1 b0 b1 w
    · exact rdo_30 a b a0 a1 b0 b1 w
    · exact rdo_31 a b a0 a1 b0 b1 w
    · exact rdo_32 a b a0 a1 b0 b1 w
    · exact rdo_33 a b a0 a1 b0 b1 w
    · exact rdo_34 a b a0 a1 b0 b1 w
    · exact rdo_35 a b a0 a1 b0 b1 w
    · exact rdo_36 a b a0 a1 b0 b1 w
    · exact rdo_37 a b a0 a1 b0 b1 w
    · exact rdo_51 a b a0 a1 b0 b1 w
    · exact rdo_52 a b a0 a1 b0 b1 w
    · exact rdo_53 a b a0 a1 b0 b1 w
    · exact rdo_54 a b a0 a1 b0 b1 w
    · exact rdo_55 a b a0 a1 b0 b1 w
    · exact rdo_56 a b a0 a1 b0 b1 w
    · exact rdo_57 a b a0 a1 b0 b1 w
    · exact rdo_58 a b a0 a1 b0 b1 w

theorem rtak_5 (a b : Int) (a0 : 0 ≤ a) (a1 : a < 4294967296) (b0 : 0 ≤ b) (b1 : b < 4294967296) (w : World) :
    Calls Tryz.prog 87 #[.int .i64 5, .int .u32 a, .int .u32 b] w fun e w' => e = .returned (.tuple #[.bool (a == b), .bool true]) ∧ w = w' := by
  have hwb := and31u b0 b1
  go_enter Tryz.func87, Tryz.ntmps87
  go_wp2_with (first | (go_at_call 123; refine (rone_any _ _).mono ?_; rintro e w' ⟨rfl, rfl⟩) | (go_at_call 121; refine (rless_any _ _ _ _ a0 a1 b0 b1).mono ?_; rintro e w' ⟨rfl, rfl⟩) | (go_at_call 121; refine (rless_any _ _ _ _ b0 b1 a0 a1).mono ?_; rintro e w' ⟨rfl, rfl⟩) | (go_at_call 124; refine (rright_any _ _ _ _ a0 a1).mono ?_; rintro e w' ⟨rfl, rfl⟩) | (go_at_call 125; refine (rhigh_any _ _ _ _ _ a0 a1 b0 b1).mono ?_; rintro e w' ⟨rfl, rfl⟩) | (go_at_call 126; refine (rdiv_any _ _ _ _ a0 a1 b0 b1).mono ?_; rintro e w' ⟨rfl, rfl⟩) | (go_at_call 127; refine (rrem_any _ _ _ _ a0 a1 b0 b1).mono ?_; rintro e w' ⟨rfl, rfl⟩))
  exact bodyPost_ret (v := .tuple #[.bool (a == b), .bool true]) (by simp [results, Tryz.results87, go_sem]) rfl ⟨rfl, rfl⟩

theorem rtak_6 (a b : Int) (a0 : 0 ≤ a) (a1 : a < 4294967296) (b0 : 0 ≤ b) (b1 : b < 4294967296) (w : World) :
    Calls Tryz.prog 87 #[.int .i64 6, .int .u32 a, .int .u32 b] w fun e w' => e = .returned (.tuple #[.bool (a != b), .bool true]) ∧ w = w' := by
  have hwb := and31u b0 b1
  go_enter Tryz.func87, Tryz.ntmps87
  go_wp2_with (first | (go_at_call 123; refine (rone_any _ _).mono ?_; rintro e w' ⟨rfl, rfl⟩) | (go_at_call 121; refine (rless_any _ _ _ _ a0 a1 b0 b1).mono ?_; rintro e w' ⟨rfl, rfl⟩) | (go_at_call 121; refine (rless_any _ _ _ _ b0 b1 a0 a1).mono ?_; rintro e w' ⟨rfl, rfl⟩) | (go_at_call 124; refine (rright_any _ _ _ _ a0 a1).mono ?_; rintro e w' ⟨rfl, rfl⟩) | (go_at_call 125; refine (rhigh_any _ _ _ _ _ a0 a1 b0 b1).mono ?_; rintro e w' ⟨rfl, rfl⟩) | (go_at_call 126; refine (rdiv_any _ _ _ _ a0 a1 b0 b1).mono ?_; rintro e w' ⟨rfl, rfl⟩) | (go_at_call 127; refine (rrem_any _ _ _ _ a0 a1 b0 b1).mono ?_; rintro e w' ⟨rfl, rfl⟩))
  exact bodyPost_ret (v := .tuple #[.bool (a != b), .bool true]) (by simp [results, Tryz.results87, go_sem]) rfl ⟨rfl, rfl⟩

theorem rtak_7 (a b : Int) (a0 : 0 ≤ a) (a1 : a < 4294967296) (b0 : 0 ≤ b) (b1 : b < 4294967296) (w : World) :
    Calls Tryz.prog 87 #[.int .i64 7, .int .u32 a, .int .u32 b] w fun e w' => e = .returned (.tuple #[.bool (W.less a b true), .bool true]) ∧ w = w' := by
  have hwb := and31u b0 b1
  go_enter Tryz.func87, Tryz.ntmps87
  go_wp2_with (first | (go_at_call 123; refine (rone_any _ _).mono ?_; rintro e w' ⟨rfl, rfl⟩) | (go_at_call 121; refine (rless_any _ _ _ _ a0 a1 b0 b1).mono ?_; rintro e w' ⟨rfl, rfl⟩) | (go_at_call 121; refine (rless_any _ _ _ _ b0 b1 a0 a1).mono ?_; rintro e w' ⟨rfl, rfl⟩) | (go_at_call 124; refine (rright_any _ _ _ _ a0 a1).mono ?_; rintro e w' ⟨rfl, rfl⟩) | (go_at_call 125; refine (rhigh_any _ _ _ _ _ a0 a1 b0 b1).mono ?_; rintro e w' ⟨rfl, rfl⟩) | (go_at_call 126; refine (rdiv_any _ _ _ _ a0 a1 b0 b1).mono ?_; rintro e w' ⟨rfl, rfl⟩) | (go_at_call 127; refine (rrem_any _ _ _ _ a0 a1 b0 b1).mono ?_; rintro e w' ⟨rfl, rfl⟩))
  exact bodyPost_ret (v := .tuple #[.bool (W.less a b true), .bool true]) (by simp [results, Tryz.results87, go_sem]) rfl ⟨rfl, rfl⟩

theorem rtak_8 (a b : Int) (a0 : 0 ≤ a) (a1 : a < 4294967296) (b0 : 0 ≤ b) (b1 : b < 4294967296) (w : World) :
    Calls Tryz.prog 87 #[.int .i64 8, .int .u32 a, .int .u32 b] w fun e w' => e = .returned (.tuple #[.bool (!W.less a b true), .bool true]) ∧ w = w' := by
  have hwb := and31u b0 b1
  go_enter Tryz.func87, Tryz.ntmps87
  go_wp2_with (first | (go_at_call 123; refine (rone_any _ _).mono ?_; rintro e w' ⟨rfl, rfl⟩) | (go_at_call 121; refine (rless_any _ _ _ _ a0 a1 b0 b1).mono ?_; rintro e w' ⟨rfl, rfl⟩) | (go_at_call 121; refine (rless_any _ _ _ _ b0 b1 a0 a1).mono ?_; rintro e w' ⟨rfl, rfl⟩) | (go_at_call 124; refine (rright_any _ _ _ _ a0 a1).mono ?_; rintro e w' ⟨rfl, rfl⟩) | (go_at_call 125; refine (rhigh_any _ _ _ _ _ a0 a1 b0 b1).mono ?_; rintro e w' ⟨rfl, rfl⟩) | (go_at_call 126; refine (rdiv_any _ _ _ _ a0 a1 b0 b1).mono ?_; rintro e w' ⟨rfl, rfl⟩) | (go_at_call 127; refine (rrem_any _ _ _ _ a0 a1 b0 b1).mono ?_; rintro e w' ⟨rfl, rfl⟩))
  exact bodyPost_ret (v := .tuple #[.bool (!W.less a b true), .bool true]) (by simp [results, Tryz.results87, go_sem]) rfl ⟨rfl, rfl⟩

theorem rtak_9 (a b : Int) (a0 : 0 ≤ a) (a1 : a < 4294967296) (b0 : 0 ≤ b) (b1 : b < 4294967296) (w : World) :
    Calls Tryz.prog 87 #[.int .i64 9, .int .u32 a, .int .u32 b] w fun e w' => e = .returned (.tuple #[.bool (W.less a b false), .bool true]) ∧ w = w' := by
  have hwb := and31u b0 b1
  have hq : Hid ((decide (a < b)) = (W.less a b false)) := (less_plain a0 a1 b0 b1 : (decide (a < b)) = (W.less a b false))
  go_enter Tryz.func87, Tryz.ntmps87
  go_wp2_with (first | (go_at_call 123; refine (rone_any _ _).mono ?_; rintro e w' ⟨rfl, rfl⟩) | (go_at_call 121; refine (rless_any _ _ _ _ a0 a1 b0 b1).mono ?_; rintro e w' ⟨rfl, rfl⟩) | (go_at_call 121; refine (rless_any _ _ _ _ b0 b1 a0 a1).mono ?_; rintro e w' ⟨rfl, rfl⟩) | (go_at_call 124; refine (rright_any _ _ _ _ a0 a1).mono ?_; rintro e w' ⟨rfl, rfl⟩) | (go_at_call 125; refine (rhigh_any _ _ _ _ _ a0 a1 b0 b1).mono ?_; rintro e w' ⟨rfl, rfl⟩) | (go_at_call 126; refine (rdiv_any _ _ _ _ a0 a1 b0 b1).mono ?_; rintro e w' ⟨rfl, rfl⟩) | (go_at_call 127; refine (rrem_any _ _ _ _ a0 a1 b0 b1).mono ?_; rintro e w' ⟨rfl, rfl⟩))
  exact bodyPost_ret (v := .tuple #[.bool (decide (a < b)), .bool true]) (by simp [results, Tryz.results87, go_sem]) rfl ⟨by rw [hq.out], rfl⟩

theorem rtak_10 (a b : Int) (a0 : 0 ≤ a) (a1 : a < 4294967296) (b0 : 0 ≤ b) (b1 : b < 4294967296) (w : World) :
    Calls Tryz.prog 87 #[.int .i64 10, .int .u32 a, .int .u32 b] w fun e w' => e = .returned (.tuple #[.bool (!W.less a b false), .bool true]) ∧ w = w' := by
  have hwb := and31u b0 b1
  have hq : Hid ((decide (b ≤ a)) = (!W.less a b false)) := (by rw [← less_plain a0 a1 b0 b1]; by_cases h : a < b <;> simp [h] <;> omega : (decide (b ≤ a)) = (!W.less a b false))
  go_enter Tryz.func87, Tryz.ntmps87
  go_wp2_with (first | (go_at_call 123; refine (rone_any _ _).mono ?_; rintro e w' ⟨rfl, rfl⟩) | (go_at_call 121; refine (rless_any _ _ _ _ a0 a1 b0 b1).mono ?_; rintro e w' ⟨rfl, rfl⟩) | (go_at_call 121; refine (rless_any _ _ _ _ b0 b1 a0 a1).mono ?_; rintro e w' ⟨rfl, rfl⟩) | (go_at_call 124; refine (rright_any _ _ _ _ a0 a1).mono ?_; rintro e w' ⟨rfl, rfl⟩) | (go_at_call 125; refine (rhigh_any _ _ _ _ _ a0 a1 b0 b1).mono ?_; rintro e w' ⟨rfl, rfl⟩) | (go_at_call 126; refine (rdiv_any _ _ _ _ a0 a1 b0 b1).mono ?_; rintro e w' ⟨rfl, rfl⟩) | (go_at_call 127; refine (rrem_any _ _ _ _ a0 a1 b0 b1).mono ?_; rintro e w' ⟨rfl, rfl⟩))
  exact bodyPost_ret (v := .tuple #[.bool (decide (b ≤ a)), .bool true]) (by simp [results, Tryz.results87, go_sem]) rfl ⟨by rw [hq.out], rfl⟩

theorem rtak_none (op a b : Int) (a0 : 0 ≤ a) (a1 : a < 4294967296) (b0 : 0 ≤ b) (b1 : b < 4294967296) (h : W.takB op = false) (w : World) :
    Calls Tryz.prog 87 #[.int .i64 op, .int .u32 a, .int .u32 b] w fun e w' => e = .returned (.tuple #[.bool false, .bool false]) ∧ w = w' := by
  obtain ⟨h5, h6, h7, h8, h9, h10⟩ := W.takB_none h
  have H : Hid (W.takB op = false) := h
  clear h
  go_enter Tryz.func87, Tryz.ntmps87
  go_wp2
  exact bodyPost_ret (v := .tuple #[.bool false, .bool false]) (by simp [results, Tryz.results87, go_sem]) rfl ⟨rfl, rfl⟩

theorem rtak_any (op a b : Int) (a0 : 0 ≤ a) (a1 : a < 4294967296) (b0 : 0 ≤ b) (b1 : b < 4294967296) (w : World) :
    Calls Tryz.prog 87 #[.int .i64 op, .int .u32 a, .int .u32 b] w fun e w' => e = .returned (.tuple #[.bool (W.takV op a b), .bool (W.takB op)]) ∧ w = w' := by
  cases h : W.takB op
  · rw [W.takV_none a b h]
    exact rtak_none op a b a0 a1 b0 b1 h w
  · rcases W.takB_cases h with rfl | rfl | rfl | rfl | rfl | rfl
    · exact rtak_5 a b a0 a1 b0 b1 w
    · exact rtak_6 a b a0 a1 b0 b1 w
    · exact rtak_7 a b a0 a1 b0 b1 w
    · exact rtak_8 a b a0 a1 b0 b1 w
    · exact rtak_9 a b a0 a1 b0 b1 w
    · exact rtak_10 a b a0 a1 b0 b1 w

end Go.Proofs.YteilpehekabccaaGreatDoor
