/- A trap within a trap. -/
import Derived.Test.YtbagmlcakmhhaaaCsrNestsA
namespace Go.Proofs.Ytbagmlcakmhhaaa
open Go.ChangeShapes Go.WideShapes Go.ChangeAt Go.RowKit
set_option linter.unusedVariables false

theorem csrnests_go (pc other : Int) (on : Bool) (p0 : 0 ≤ pc) (p1 : pc < 4294967296) (o0 : 0 ≤ other) (o1 : other < 4294967296) (w : World) : Calls Try.prog 7 #[.int .u32 pc, .int .u32 other, .bool on] w fun e w' => e = .returned (.bool true) ∧ Below w.heap.size w w' := by
  cases on
  · exact nests_0 pc other p0 p1 w
  · exact nests_1 pc other p0 p1 w
end Go.Proofs.Ytbagmlcakmhhaaa
