/- PpoDeps: its list. -/
import Derived.Test.YtopcejohnofelaaPpoW
import Derived.Deep.CutRange
import Derived.Deep.AppendLies
namespace Go.Proofs.Ytopcejohnofelaa
open Go.ChangeShapes Go.WideShapes Go.ChangeAt Go.RowKit
set_option linter.unusedVariables false
set_option linter.unusedSimpArgs false

theorem dpX_ok (write : Bool) (H A B j : Nat) (hj : j < 13) (hB : B < 13) : W.OzOk (W.dpX write H A B j) := by
  unfold W.dpX
  split
  · exact ⟨(by show (-9223372036854775808 : Int) ≤ 4; decide), (by show (4 : Int) ≤ 9223372036854775807; decide), (by show (0 : Int) ≤ 4 * (B : Int); omega), (by show 4 * (B : Int) < 4294967296; omega)⟩
  · exact ⟨(by show (-9223372036854775808 : Int) ≤ 4; decide), (by show (4 : Int) ≤ 9223372036854775807; decide), (by show (0 : Int) ≤ 4 * (j : Int); omega), (by show 4 * (j : Int) < 4294967296; omega)⟩
def dpF (j : Nat) : W.Opr := W.op3 1 4 (4 * (j : Int))
end Go.Proofs.Ytopcejohnofelaa
