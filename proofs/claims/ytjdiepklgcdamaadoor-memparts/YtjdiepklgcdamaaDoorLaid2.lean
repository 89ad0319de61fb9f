/- What the program's text lays: two errors. -/
import Derived.Test.YtjdiepklgcdamaaDoorRows
import Derived.Test.YtjdiepklgcdamaaDoorChecked
import Derived.WalkKit
import Derived.ProofKit
import Derived.LaidLaws
import Derived.LaidMore
import Derived.Stop.Joined
import Derived.Stop.ErrReads
import Derived.RowKitTokens
namespace Go.Proofs.YtjdiepklgcdamaaDoor
open Go.ChangeShapes Go.WideShapes Go.RowKit
set_option linter.unusedVariables false

abbrev theLaid2 : List (String × DataW Unit) := [("corral/api.ErrMany", Rows.laid_corral_api_ErrMany), ("corral/api.ErrRange", Rows.laid_corral_api_ErrRange)]
theorem door_met2 (os : Os) (args : Array Value) : laidMetH Tryd.prog theLaid2 ((World.doorLaid Tryd.prog 218 os).forCall (fun _ _ => 0) ⟨#[], args, []⟩).memory :=
  laidMetH_of_parts3 (fuel := 8) (laidMet_of_run' 8 (by kernel_rfl) (by kernel_rfl)) (by kernel_rfl) (by kernel_rfl)
end Go.Proofs.YtjdiepklgcdamaaDoor
