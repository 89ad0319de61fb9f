/- What Kind, Size, Extend and Cut return. -/
import Derived.Test.YthbcdlaejefkaaaDoorAluA
import Derived.Test.YthbcdlaejefkaaaDoorEnc2
namespace Go.Proofs.YthbcdlaejefkaaaDoor
open Go.ChangeShapes Go.WideShapes Go.ChangeAt Go.RowKit
set_option linter.unusedVariables false
set_option linter.unusedSimpArgs false

theorem bits_low (x low n : Int) (w : World) :
    Calls Tryd.prog 46 #[.int .u32 x, .int .i64 low, .int .i64 n] w fun e w' => e = .returned (.int .u32 (W.bitsOf x low n)) ∧ Below w.heap.size w w' := by
  refine (bits_any x low n w).mono ?_
  rintro e w' ⟨rfl, k, rfl⟩
  exact ⟨rfl, below_drewN (Below.refl _ _) k⟩

set_option maxHeartbeats 1600000 in
theorem kind_any (op : Int) (w : World) :
    Calls Tryd.prog 19 #[.int .i64 op] w fun e w' => e = .returned (.int .i64 (W.kind op)) ∧ w = w' := by
  cases h0 : (W.known op)
  case false =>
    have hv : Hid (W.kind op = 0) := (by simp only [W.kind, h0, cond_true, cond_false, Bool.not_true, Bool.not_false] : W.kind op = 0)
    go_enter Tryd.func19, Tryd.ntmps19
    go_wp2_with (first | (go_at_call 30; refine (known_any _ _).mono ?_; rintro e w' ⟨rfl, rfl⟩) | (go_at_call 41; refine (fr_any _ _ _ _).mono ?_; rintro e w' ⟨rfl, rfl⟩))
    go_ret
    exact ⟨ret_int hv.out.symm, rfl⟩
  cases h1 : (W.fr 1 op 2)
  case true =>
    have hv : Hid (W.kind op = 1) := (by simp only [W.kind, h0, h1, cond_true, cond_false, Bool.not_true, Bool.not_false] : W.kind op = 1)
    go_enter Tryd.func19, Tryd.ntmps19
    go_wp2_with (first | (go_at_call 30; refine (known_any _ _).mono ?_; rintro e w' ⟨rfl, rfl⟩) | (go_at_call 41; refine (fr_any _ _ _ _).mono ?_; rintro e w' ⟨rfl, rfl⟩))
    go_ret
    exact ⟨ret_int hv.out.symm, rfl⟩
  cases h2 : (W.fr 19 op 37)
  case true =>
    have hv : Hid (W.kind op = 1) := (by simp only [W.kind, h0, h1, h2, cond_true, cond_false, Bool.not_true, Bool.not_false] : W.kind op = 1)
    go_enter Tryd.func19, Tryd.ntmps19
    go_wp2_with (first | (go_at_call 30; refine (known_any _ _).mono ?_; rintro e w' ⟨rfl, rfl⟩) | (go_at_call 41; refine (fr_any _ _ _ _).mono ?_; rintro e w' ⟨rfl, rfl⟩))
    go_ret
    exact ⟨ret_int hv.out.symm, rfl⟩
  cases h3 : (W.fr 51 op 58)
  case true =>
    have hv : Hid (W.kind op = 1) := (by simp only [W.kind, h0, h1, h2, h3, cond_true, cond_false, Bool.not_true, Bool.not_false] : W.kind op = 1)
    go_enter Tryd.func19, Tryd.ntmps19
    go_wp2_with (first | (go_at_call 30; refine (known_any _ _).mono ?_; rintro e w' ⟨rfl, rfl⟩) | (go_at_call 41; refine (fr_any _ _ _ _).mono ?_; rintro e w' ⟨rfl, rfl⟩))
    go_ret
    exact ⟨ret_int hv.out.symm, rfl⟩
  cases h4 : (W.fr 3 op 4)
  case true =>
    have hv : Hid (W.kind op = 2) := (by simp only [W.kind, h0, h1, h2, h3, h4, cond_true, cond_false, Bool.not_true, Bool.not_false] : W.kind op = 2)
    go_enter Tryd.func19, Tryd.ntmps19
    go_wp2_with (first | (go_at_call 30; refine (known_any _ _).mono ?_; rintro e w' ⟨rfl, rfl⟩) | (go_at_call 41; refine (fr_any _ _ _ _).mono ?_; rintro e w' ⟨rfl, rfl⟩))
    go_ret
    exact ⟨ret_int hv.out.symm, rfl⟩
  cases h5 : (W.fr 5 op 10)
  case true =>
    have hv : Hid (W.kind op = 3) := (by simp only [W.kind, h0, h1, h2, h3, h4, h5, cond_true, cond_false, Bool.not_true, Bool.not_false] : W.kind op = 3)
    go_enter Tryd.func19, Tryd.ntmps19
    go_wp2_with (first | (go_at_call 30; refine (known_any _ _).mono ?_; rintro e w' ⟨rfl, rfl⟩) | (go_at_call 41; refine (fr_any _ _ _ _).mono ?_; rintro e w' ⟨rfl, rfl⟩))
    go_ret
    exact ⟨ret_int hv.out.symm, rfl⟩
  cases h6 : (W.fr 11 op 15)
  case true =>
    have hv : Hid (W.kind op = 4) := (by simp only [W.kind, h0, h1, h2, h3, h4, h5, h6, cond_true, cond_false, Bool.not_true, Bool.not_false] : W.kind op = 4)
    go_enter Tryd.func19, Tryd.ntmps19
    go_wp2_with (first | (go_at_call 30; refine (known_any _ _).mono ?_; rintro e w' ⟨rfl, rfl⟩) | (go_at_call 41; refine (fr_any _ _ _ _).mono ?_; rintro e w' ⟨rfl, rfl⟩))
    go_ret
    exact ⟨ret_int hv.out.symm, rfl⟩
  cases h7 : (op == 59)
  case true =>
    have hv : Hid (W.kind op = 4) := (by simp only [W.kind, h0, h1, h2, h3, h4, h5, h6, h7, cond_true, cond_false, Bool.not_true, Bool.not_false] : W.kind op = 4)
    go_enter Tryd.func19, Tryd.ntmps19
    go_wp2_with (first | (go_at_call 30; refine (known_any _ _).mono ?_; rintro e w' ⟨rfl, rfl⟩) | (go_at_call 41; refine (fr_any _ _ _ _).mono ?_; rintro e w' ⟨rfl, rfl⟩))
    go_ret
    exact ⟨ret_int hv.out.symm, rfl⟩
  cases h8 : (W.fr 16 op 18)
  case true =>
    have hv : Hid (W.kind op = 5) := (by simp only [W.kind, h0, h1, h2, h3, h4, h5, h6, h7, h8, cond_true, cond_false, Bool.not_true, Bool.not_false] : W.kind op = 5)
    go_enter Tryd.func19, Tryd.ntmps19
    go_wp2_with (first | (go_at_call 30; refine (known_any _ _).mono ?_; rintro e w' ⟨rfl, rfl⟩) | (go_at_call 41; refine (fr_any _ _ _ _).mono ?_; rintro e w' ⟨rfl, rfl⟩))
    go_ret
    exact ⟨ret_int hv.out.symm, rfl⟩
  cases h9 : (W.fr 60 op 69)
  case true =>
    have hv : Hid (W.kind op = 6) := (by simp only [W.kind, h0, h1, h2, h3, h4, h5, h6, h7, h8, h9, cond_true, cond_false, Bool.not_true, Bool.not_false] : W.kind op = 6)
    go_enter Tryd.func19, Tryd.ntmps19
    go_wp2_with (first | (go_at_call 30; refine (known_any _ _).mono ?_; rintro e w' ⟨rfl, rfl⟩) | (go_at_call 41; refine (fr_any _ _ _ _).mono ?_; rintro e w' ⟨rfl, rfl⟩))
    go_ret
    exact ⟨ret_int hv.out.symm, rfl⟩
  case false =>
    have hv : Hid (W.kind op = 7) := (by simp only [W.kind, h0, h1, h2, h3, h4, h5, h6, h7, h8, h9, cond_true, cond_false, Bool.not_true, Bool.not_false] : W.kind op = 7)
    go_enter Tryd.func19, Tryd.ntmps19
    go_wp2_with (first | (go_at_call 30; refine (known_any _ _).mono ?_; rintro e w' ⟨rfl, rfl⟩) | (go_at_call 41; refine (fr_any _ _ _ _).mono ?_; rintro e w' ⟨rfl, rfl⟩))
    go_ret
    exact ⟨ret_int hv.out.symm, rfl⟩

theorem kind_11 (w : World) : Calls Tryd.prog 19 #[.int .i64 11] w fun e w' => e = .returned (.int .i64 4) ∧ w = w' := kind_any 11 w

theorem kind_12 (w : World) : Calls Tryd.prog 19 #[.int .i64 12] w fun e w' => e = .returned (.int .i64 4) ∧ w = w' := kind_any 12 w

theorem kind_13 (w : World) : Calls Tryd.prog 19 #[.int .i64 13] w fun e w' => e = .returned (.int .i64 4) ∧ w = w' := kind_any 13 w

theorem kind_14 (w : World) : Calls Tryd.prog 19 #[.int .i64 14] w fun e w' => e = .returned (.int .i64 4) ∧ w = w' := kind_any 14 w

theorem kind_15 (w : World) : Calls Tryd.prog 19 #[.int .i64 15] w fun e w' => e = .returned (.int .i64 4) ∧ w = w' := kind_any 15 w

theorem kind_16 (w : World) : Calls Tryd.prog 19 #[.int .i64 16] w fun e w' => e = .returned (.int .i64 5) ∧ w = w' := kind_any 16 w

theorem kind_17 (w : World) : Calls Tryd.prog 19 #[.int .i64 17] w fun e w' => e = .returned (.int .i64 5) ∧ w = w' := kind_any 17 w

theorem kind_18 (w : World) : Calls Tryd.prog 19 #[.int .i64 18] w fun e w' => e = .returned (.int .i64 5) ∧ w = w' := kind_any 18 w

theorem kind_59 (w : World) : Calls Tryd.prog 19 #[.int .i64 59] w fun e w' => e = .returned (.int .i64 4) ∧ w = w' := kind_any 59 w

theorem kind_60 (w : World) : Calls Tryd.prog 19 #[.int .i64 60] w fun e w' => e = .returned (.int .i64 6) ∧ w = w' := kind_any 60 w

theorem kind_61 (w : World) : Calls Tryd.prog 19 #[.int .i64 61] w fun e w' => e = .returned (.int .i64 6) ∧ w = w' := kind_any 61 w

theorem kind_62 (w : World) : Calls Tryd.prog 19 #[.int .i64 62] w fun e w' => e = .returned (.int .i64 6) ∧ w = w' := kind_any 62 w

theorem kind_63 (w : World) : Calls Tryd.prog 19 #[.int .i64 63] w fun e w' => e = .returned (.int .i64 6) ∧ w = w' := kind_any 63 w

theorem kind_64 (w : World) : Calls Tryd.prog 19 #[.int .i64 64] w fun e w' => e = .returned (.int .i64 6) ∧ w = w' := kind_any 64 w

theorem kind_65 (w : World) : Calls Tryd.prog 19 #[.int .i64 65] w fun e w' => e = .returned (.int .i64 6) ∧ w = w' := kind_any 65 w

theorem kind_66 (w : World) : Calls Tryd.prog 19 #[.int .i64 66] w fun e w' => e = .returned (.int .i64 6) ∧ w = w' := kind_any 66 w

theorem kind_67 (w : World) : Calls Tryd.prog 19 #[.int .i64 67] w fun e w' => e = .returned (.int .i64 6) ∧ w = w' := kind_any 67 w

theorem kind_68 (w : World) : Calls Tryd.prog 19 #[.int .i64 68] w fun e w' => e = .returned (.int .i64 6) ∧ w = w' := kind_any 68 w

theorem kind_69 (w : World) : Calls Tryd.prog 19 #[.int .i64 69] w fun e w' => e = .returned (.int .i64 6) ∧ w = w' := kind_any 69 w

end Go.Proofs.YthbcdlaejefkaaaDoor
