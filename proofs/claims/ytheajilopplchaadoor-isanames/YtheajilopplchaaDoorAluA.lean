/- What the calls of package alu return: a contract a call, by instruction. -/
import Derived.Test.YtheajilopplchaaDoorPlainA
import Derived.Test.YtheajilopplchaaDoorIsaA
namespace Go.Proofs.YtheajilopplchaaDoor
open Go.ChangeShapes Go.WideShapes Go.ChangeAt Go.RowKit
set_option linter.unusedVariables false
set_option linter.unusedSimpArgs false

theorem wrap_word {b : Int} (b0 : 0 ≤ b) (b1 : b < 4294967296) : wrap64 b = b := by unfold wrap64; omega

end Go.Proofs.YtheajilopplchaaDoor
