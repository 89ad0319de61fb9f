/- What the calls of package alu return: a contract a call, by instruction. -/
import Derived.Test.YthbcdlaejefkaaaDoorPlainA
import Derived.Test.YthbcdlaejefkaaaDoorIsaA
namespace Go.Proofs.YthbcdlaejefkaaaDoor
open Go.ChangeShapes Go.WideShapes Go.ChangeAt Go.RowKit
set_option linter.unusedVariables false
set_option linter.unusedSimpArgs false

theorem wrap_word {b : Int} (b0 : 0 ≤ b) (b1 : b < 4294967296) : wrap64 b = b := by unfold wrap64; omega

end Go.Proofs.YthbcdlaejefkaaaDoor
