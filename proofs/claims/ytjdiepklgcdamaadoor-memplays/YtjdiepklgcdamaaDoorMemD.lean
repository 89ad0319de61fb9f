/- A line with a part turned. -/
import Derived.Test.YtjdiepklgcdamaaDoorMemD0
import Derived.Test.YtjdiepklgcdamaaDoorMemD1
import Derived.Test.YtjdiepklgcdamaaDoorMemD2
import Derived.Test.YtjdiepklgcdamaaDoorMemD3
namespace Go.Proofs.YtjdiepklgcdamaaDoor
open Go.ChangeShapes Go.WideShapes Go.ChangeAt Go.RowKit
set_option linter.unusedVariables false

theorem with_any (L : Nat → Int) (A : Nat) (s v : Int) (w : World) (hA : A < 4294967296) : Calls Tryd.prog 27 #[lineV L, .int .u32 (A : Int), .int .i64 s, .int .u32 v] w fun e w' => e = .returned (lineV (W.wl L A s v)) ∧ Below w.heap.size w w' := by
  cases ha : W.al A s
  · exact with_no L A s v w hA ha
  · have h4 : A % 16 / 4 = 0 ∨ A % 16 / 4 = 1 ∨ A % 16 / 4 = 2 ∨ A % 16 / 4 = 3 := by omega
    rcases h4 with h | h | h | h
    · exact with_0 L A s v w hA ha h
    · exact with_1 L A s v w hA ha h
    · exact with_2 L A s v w hA ha h
    · exact with_3 L A s v w hA ha h
end Go.Proofs.YtjdiepklgcdamaaDoor
