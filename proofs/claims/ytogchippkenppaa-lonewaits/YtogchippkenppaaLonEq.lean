/- Two lines are equal. -/
import Derived.Test.YtogchippkenppaaLonG
import Derived.ChangeKeysEq
import Derived.Laws.StructEq
namespace Go.Proofs.Ytogchippkenppaa
open Go.ChangeShapes Go.WideShapes Go.ChangeAt Go.RowKit
theorem infoU : ∃ i, Try.prog.info? 27 = some i := Option.isSome_iff_exists.1 (by kernel_rfl)
theorem eqLn (x0 x1 x2 x3 : Int) (w : World) : (Op.equalIn 10000 29 (.agg #[.int .u32 x0, .int .u32 x1, .int .u32 x2, .int .u32 x3]) (.agg #[.int .u32 x0, .int .u32 x1, .int .u32 x2, .int .u32 x3])).run Try.prog w = .ok true w := by
  obtain ⟨i, hi⟩ := infoU
  have hc : Try.prog.cellsOf 27 = 1 := by kernel_rfl
  have e0 : (x0 == x0) = true := by simp
  have e1 : (x1 == x1) = true := by simp
  have e2 : (x2 == x2) = true := by simp
  have e3 : (x3 == x3) = true := by simp
  have hU := Try.underlying27
  rw [show (10000 : Nat) = 9999 + 1 from rfl, run_equalIn_array w 9999 _ _ Try.underlying29 hi, hc]
  have hr : List.range 4 = [0, 1, 2, 3] := rfl
  rw [hr]
  simp [Op.eqItems, go_sem]
end Go.Proofs.Ytogchippkenppaa
