/- WordShifts, walked: it returns true, whatever the word and the number of places. -/
import Derived.Test.YthnifmcemmaeeaaPack
import Derived.Test.YthnifmcemmaeeaaMath
namespace Go.Proofs.Ythnifmcemmaeeaa
open Go.ChangeShapes Go.WideShapes Go.ChangeAt Go.RowKit
set_option linter.unusedVariables false

theorem shifts_walk (x n : Int) (h0 : 0 ≤ x) (h1 : x < 4294967296) (_n0 : -9223372036854775808 ≤ n) (_n1 : n ≤ 9223372036854775807) (w : World) :
    Calls Try.prog 8 #[.int .u32 x, .int .i64 n] w fun e w' => e = .returned (.bool true) ∧ Below w.heap.size w w' := by
  have hb := W.and31 n
  have hk : 0 ≤ n % 32 ∧ n % 32 ≤ 31 := by omega
  obtain ⟨hk0, hk1⟩ := hk
  have e1 : (W.left x n != W.left x (n % 32)) = false := by rw [← W.left_mod x n]; simp
  have e2 : (W.right x n false != W.right x (n % 32) false) = false := by rw [← W.right_mod x n]; simp
  have e3 : (W.right x n true != W.right x (n % 32) true) = false := by rw [← W.right_mod x n]; simp
  have e6 : ((W.right x 1 true + W.right x 1 true + bits .and .u32 x 1) % 4294967296 == x) = true := by rw [W.halves x h0 h1]; simp
  have e7 : (W.less (W.right x 1 true) 0 true == W.less x 0 true) = true := by rw [W.half_sign x h0 h1]; simp
  by_cases hp : 0 < n % 32
  · have e4 : (W.right (W.left x (n % 32)) (n % 32) false != W.bitsOf x 0 (32 - n % 32)) = false := by rw [W.sh_bits x (n % 32) h0 h1 hp hk1]; simp
    have e5 : (W.right (W.left x (n % 32)) (n % 32) true != W.sgn x (32 - n % 32)) = false := by rw [W.sh_sgn x (n % 32) hp hk1]; simp
    go_enter Try.func8, Try.ntmps8
    go_wp2_with (first | (go_at_call 9; refine (first_any _).mono ?_; rintro e w1 ⟨rfl, hw1⟩) | (go_at_call 24; refine (left_any _ _ _).mono ?_; rintro e w' ⟨rfl, rfl⟩) | (go_at_call 22; refine (right_any _ _ _ _).mono ?_; rintro e w' ⟨rfl, rfl⟩) | (go_at_call 12; refine (bits_any _ _ _ _).mono ?_; rintro e w' ⟨rfl, kq, rfl⟩) | (go_at_call 10; refine (sgn_any _ _ _).mono ?_; rintro e w' ⟨rfl, rfl⟩) | (go_at_call 20; refine (less_any _ _ _ _).mono ?_; rintro e w' ⟨rfl, rfl⟩))
    go_ret
    exact ⟨rfl, below_drewN hw1 _⟩
  · go_enter Try.func8, Try.ntmps8
    go_wp2_with (first | (go_at_call 9; refine (first_any _).mono ?_; rintro e w1 ⟨rfl, hw1⟩) | (go_at_call 24; refine (left_any _ _ _).mono ?_; rintro e w' ⟨rfl, rfl⟩) | (go_at_call 22; refine (right_any _ _ _ _).mono ?_; rintro e w' ⟨rfl, rfl⟩) | (go_at_call 20; refine (less_any _ _ _ _).mono ?_; rintro e w' ⟨rfl, rfl⟩))
    go_ret
    exact ⟨rfl, hw1⟩
end Go.Proofs.Ythnifmcemmaeeaa
