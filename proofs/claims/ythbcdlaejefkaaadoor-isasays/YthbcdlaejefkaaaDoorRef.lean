/- What each of the document's own answers of chapter 1 returns: the same as the plain mirrors, for every word. -/
import Derived.Test.YthbcdlaejefkaaaDoorWord
import Derived.Test.YthbcdlaejefkaaaDoorMath4
namespace Go.Proofs.YthbcdlaejefkaaaDoor
open Go.ChangeShapes Go.WideShapes Go.ChangeAt Go.RowKit
set_option linter.unusedVariables false

theorem ret_bool {a b : Bool} (h : a = b) : Ending.returned (.bool a) = .returned (.bool b) := by rw [h]

theorem rsign_any (a n : Int) (w : World) (a0 : 0 ≤ a) (a1 : a < 4294967296) :
    Calls Tryd.prog 59 #[.int .u32 a, .int .i64 n] w fun e w' => e = .returned (.int .u32 (W.sgn a n)) ∧ w = w' := by
  by_cases h1 : n < 1
  · go_enter Tryd.func59, Tryd.ntmps59
    go_wp2
    go_ret
    exact ⟨ret_int (by rw [W.sgn, if_pos h1]), rfl⟩
  · by_cases h2 : 31 < n
    · go_enter Tryd.func59, Tryd.ntmps59
      go_wp2
      go_ret
      exact ⟨ret_int (by rw [W.sgn, if_neg (by omega), if_pos (by omega)]), rfl⟩
    · have hA := W.and_low a n a0 a1 (by omega) (by omega)
      cases hT : (W.low a n / 2 ^ (n.toNat - 1) == 1)
      · have hR : Hid (W.low a n = W.sgn a n) := W.ref_sgn0 a n a0 a1 (by omega) (by omega) hT
        go_enter Tryd.func59, Tryd.ntmps59
        go_wp2
        all_goals
          go_ret
          exact ⟨ret_int hR.out, rfl⟩
      · have hR : Hid (bits .or .u32 (W.low a n) (bits .xor .u32 IntKind.u32.max ((2 ^ n.toNat - 1) % 4294967296)) = W.sgn a n) := W.ref_sgn1 a n a0 a1 (by omega) (by omega) hT
        go_enter Tryd.func59, Tryd.ntmps59
        go_wp2
        all_goals
          go_ret
          exact ⟨ret_int hR.out, rfl⟩

theorem rbits_any (a low n : Int) (w : World) (a0 : 0 ≤ a) (a1 : a < 4294967296) :
    Calls Tryd.prog 27 #[.int .u32 a, .int .i64 low, .int .i64 n] w fun e w' => e = .returned (.int .u32 (W.bitsOf a low n)) ∧ w = w' := by
  by_cases l0 : low < 0
  · go_enter Tryd.func27, Tryd.ntmps27
    go_wp2
    go_ret
    exact ⟨ret_int (W.bitsOf_out a low n (by omega)).symm, rfl⟩
  · by_cases l1 : 31 < low
    · go_enter Tryd.func27, Tryd.ntmps27
      go_wp2
      go_ret
      exact ⟨ret_int (W.bitsOf_out a low n (by omega)).symm, rfl⟩
    · by_cases n0 : n < 1
      · go_enter Tryd.func27, Tryd.ntmps27
        go_wp2
        go_ret
        exact ⟨ret_int (W.bitsOf_out a low n (by omega)).symm, rfl⟩
      · by_cases n1 : 32 ≤ n
        · go_enter Tryd.func27, Tryd.ntmps27
          go_wp2
          go_ret
          exact ⟨ret_int (W.bits_big a low n a0 a1 (by omega) (by omega) n1), rfl⟩
        · go_enter Tryd.func27, Tryd.ntmps27
          go_wp2
          go_ret
          exact ⟨ret_int (W.bits_small a low n a0 a1 (by omega) (by omega) (by omega) (by omega)), rfl⟩

end Go.Proofs.YthbcdlaejefkaaaDoor