/- WordSigns, walked: it returns true, whatever the words and the number. -/
import Derived.Test.YthnifmcemmaeeaaPack
import Derived.Test.YthnifmcemmaeeaaMath2
namespace Go.Proofs.Ythnifmcemmaeeaa
open Go.ChangeShapes Go.WideShapes Go.ChangeAt Go.RowKit
set_option linter.unusedVariables false

theorem signs_walk (a b n : Int) (a0 : 0 ≤ a) (a1 : a < 4294967296) (b0 : 0 ≤ b) (b1 : b < 4294967296) (_n0 : -9223372036854775808 ≤ n) (_n1 : n ≤ 9223372036854775807) (w : World) :
    Calls Try.prog 6 #[.int .u32 a, .int .u32 b, .int .i64 n] w fun e w' => e = .returned (.bool true) ∧ Below w.heap.size w w' := by
  have hb := W.and31 n
  have hb2 := W.and15 (n % 32 + 1)
  have x1 := W.xor_half a a0 a1
  have x2 := W.xor_half b b0 b1
  go_enter Try.func6, Try.ntmps6
  go_wp2_with (first | (go_at_call 9; refine (first_any _).mono ?_; rintro e w1 ⟨rfl, hw1⟩) | (go_at_call 12; refine (bits_any _ _ _ _).mono ?_; rintro e w' ⟨rfl, kq, rfl⟩) | (go_at_call 10; refine (sgn_any _ _ _).mono ?_; rintro e w' ⟨rfl, rfl⟩))
  go_loopw [10] (fun i wr => ∃ j : Int, n % 32 + 1 ≤ j ∧ j ≤ 32 ∧ i = .int .i64 j ∧ Below w.heap.size w wr) (fun i _ => (32 - intOf i).toNat)
  case atStart => exact ⟨_, Int.le_refl _, by omega, rfl, below_drewN hw1 _⟩
  case round =>
    clear hw1
    obtain ⟨j, hj0, hj1, rfl, hbl⟩ := hrel
    by_cases hj : j < 32
    · have e : (W.bitsOf (W.sgn a (n % 32 + 1)) j 1 != W.bitsOf (W.sgn a (n % 32 + 1)) (n % 32) 1) = false := by
        rw [W.sgn_top a (n % 32) j a0 a1 (by omega) (by omega) hj0 hj]; simp
      go_wp2_with (first | (go_at_call 12; refine (bits_any _ _ _ _).mono ?_; rintro e w' ⟨rfl, kq, rfl⟩))
      go_roundw
      case rel => exact ⟨_, by omega, by omega, rfl, below_drewN hbl _⟩
      case measure => simp [intOf]; omega
    · have e1 : (W.sgn (W.sgn a (n % 32 + 1)) (n % 32 + 1) == W.sgn a (n % 32 + 1)) = true := by
        rw [W.sgn_sgn a (n % 32 + 1) a0 a1 (by omega) (by omega)]; simp
      have e2 : (W.bitsOf (W.sgn a (n % 32 + 1)) 0 (n % 32 + 1) == W.bitsOf a 0 (n % 32 + 1)) = true := by
        rw [W.sgn_low a (n % 32 + 1) a0 a1 (by omega) (by omega)]; simp
      have e3 : (W.less a b true == W.less (W.flip a) (W.flip b) false) = true := by
        rw [W.less_flip a b a0 a1 b0 b1]; simp
      have e4 : (W.right a ((n % 32 + 1) % 16) true == (W.right (W.flip a) ((n % 32 + 1) % 16) false - W.right 2147483648 ((n % 32 + 1) % 16) false) % 4294967296) = true := by
        rw [W.right_flip a _ a0 a1 (by omega) (by omega)]; simp
      have e5 : (W.left a ((n % 32 + 1) % 16) == a * (2 ^ ((n % 32 + 1) % 16).toNat % 4294967296) % 4294967296) = true := by
        rw [W.left_mul a _ (by omega) (by omega)]; simp
      go_wp2_with (first | (go_at_call 12; refine (bits_any _ _ _ _).mono ?_; rintro e w' ⟨rfl, kq, rfl⟩) | (go_at_call 10; refine (sgn_any _ _ _).mono ?_; rintro e w' ⟨rfl, rfl⟩) | (go_at_call 24; refine (left_any _ _ _).mono ?_; rintro e w' ⟨rfl, rfl⟩) | (go_at_call 22; refine (right_any _ _ _ _).mono ?_; rintro e w' ⟨rfl, rfl⟩) | (go_at_call 20; refine (less_any _ _ _ _).mono ?_; rintro e w' ⟨rfl, rfl⟩))
      go_ret
      exact ⟨rfl, by repeat (first | exact hbl | refine below_drewN ?_ _)⟩
end Go.Proofs.Ythnifmcemmaeeaa
