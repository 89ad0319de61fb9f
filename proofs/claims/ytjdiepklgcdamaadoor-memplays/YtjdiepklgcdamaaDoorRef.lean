/- What each of the document's own answers of chapter 1 returns: the same as the plain mirrors, for every word. -/
import Derived.Test.YtjdiepklgcdamaaDoorWord
import Derived.Test.YtjdiepklgcdamaaDoorMath4
namespace Go.Proofs.YtjdiepklgcdamaaDoor
open Go.ChangeShapes Go.WideShapes Go.ChangeAt Go.RowKit
set_option linter.unusedVariables false

theorem ret_bool {a b : Bool} (h : a = b) : Ending.returned (.bool a) = .returned (.bool b) := by rw [h]

theorem rbits_any (a low n : Int) (w : World) (a0 : 0 ≤ a) (a1 : a < 4294967296) :
    Calls Tryd.prog 42 #[.int .u32 a, .int .i64 low, .int .i64 n] w fun e w' => e = .returned (.int .u32 (W.bitsOf a low n)) ∧ w = w' := by
  by_cases l0 : low < 0
  · go_enter Tryd.func42, Tryd.ntmps42
    go_wp2
    go_ret
    exact ⟨ret_int (W.bitsOf_out a low n (by omega)).symm, rfl⟩
  · by_cases l1 : 31 < low
    · go_enter Tryd.func42, Tryd.ntmps42
      go_wp2
      go_ret
      exact ⟨ret_int (W.bitsOf_out a low n (by omega)).symm, rfl⟩
    · by_cases n0 : n < 1
      · go_enter Tryd.func42, Tryd.ntmps42
        go_wp2
        go_ret
        exact ⟨ret_int (W.bitsOf_out a low n (by omega)).symm, rfl⟩
      · by_cases n1 : 32 ≤ n
        · go_enter Tryd.func42, Tryd.ntmps42
          go_wp2
          go_ret
          exact ⟨ret_int (W.bits_big a low n a0 a1 (by omega) (by omega) n1), rfl⟩
        · go_enter Tryd.func42, Tryd.ntmps42
          go_wp2
          go_ret
          exact ⟨ret_int (W.bits_small a low n a0 a1 (by omega) (by omega) (by omega) (by omega)), rfl⟩

end Go.Proofs.YtjdiepklgcdamaaDoor