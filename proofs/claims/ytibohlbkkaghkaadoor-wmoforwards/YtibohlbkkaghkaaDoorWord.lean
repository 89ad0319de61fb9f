/- What each function of package word returns, as a plain function of its numbers: a contract a function. -/
import Derived.Test.YtibohlbkkaghkaaDoorRows
import Derived.Test.YtibohlbkkaghkaaDoorPlain
import Derived.WalkKit
import Derived.ProofKit
import Derived.OpenShut
import Derived.Deep.QuietTactic
import Derived.BigQuiet
namespace Go.Proofs.YtibohlbkkaghkaaDoor
open Go.ChangeShapes Go.WideShapes Go.ChangeAt Go.RowKit

theorem ret_int {k : IntKind} {a b : Int} (h : a = b) : Ending.returned (.int k a) = .returned (.int k b) := by rw [h]

end Go.Proofs.YtibohlbkkaghkaaDoor