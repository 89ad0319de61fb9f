/- An interrupt is pending just where it may come. -/
import Derived.Test.YtbagmlcakmhhaaaCsrBellsA
import Derived.Test.YtbagmlcakmhhaaaCsrBellsB
namespace Go.Proofs.Ytbagmlcakmhhaaa
open Go.ChangeShapes Go.WideShapes Go.ChangeAt Go.RowKit

theorem csrbells_go (r e s u : Bool) (w : World) : Calls Try.prog 8 #[.bool r, .bool e, .bool s, .bool u] w fun e w' => e = .returned (.bool true) ∧ Below w.heap.size w w' := by
  cases r <;> cases e <;> cases s <;> cases u
  · exact bells_0000 w
  · exact bells_0001 w
  · exact bells_0010 w
  · exact bells_0011 w
  · exact bells_0100 w
  · exact bells_0101 w
  · exact bells_0110 w
  · exact bells_0111 w
  · exact bells_1000 w
  · exact bells_1001 w
  · exact bells_1010 w
  · exact bells_1011 w
  · exact bells_1100 w
  · exact bells_1101 w
  · exact bells_1110 w
  · exact bells_1111 w
end Go.Proofs.Ytbagmlcakmhhaaa
