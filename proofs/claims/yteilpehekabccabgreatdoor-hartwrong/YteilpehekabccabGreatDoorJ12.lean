/- Texts in one: AluR. -/
import Derived.Test.YteilpehekabccabGreatDoorJ11
/- What the document's own calls of chapter 4 return. -/
namespace Go.Proofs.YteilpehekabccabGreatDoor
open Go.ChangeShapes Go.WideShapes Go.ChangeAt Go.RowKit
set_option linter.unusedVariables false
set_option linter.unusedSimpArgs false

theorem less_plain {a b : Int} (a0 : 0 ≤ a) (a1 : a < 4294967296) (b0 : 0 ≤ b) (b1 : b < 4294967296) : decide (a < b) = W.less a b false := by
  rw [W.less, W.wide_f a a0 a1, W.wide_f b b0 b1]

theorem and31u {b : Int} (b0 : 0 ≤ b) (b1 : b < 4294967296) : bits .and .u32 b 31 = b % 32 := W.low_and b 5 (by decide) b0 b1

end Go.Proofs.YteilpehekabccabGreatDoor
