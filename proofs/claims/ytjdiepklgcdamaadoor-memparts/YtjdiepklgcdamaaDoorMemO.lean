/- The document's line with a part turned. -/
import Derived.Test.YtjdiepklgcdamaaDoorMemO0
import Derived.Test.YtjdiepklgcdamaaDoorMemO1
import Derived.Test.YtjdiepklgcdamaaDoorMemO2
import Derived.Test.YtjdiepklgcdamaaDoorMemO3
namespace Go.Proofs.YtjdiepklgcdamaaDoor
open Go.ChangeShapes Go.WideShapes Go.ChangeAt Go.RowKit
set_option linter.unusedVariables false

theorem rwith_any (L : Nat → Int) (A : Nat) (s v : Int) (v0 : 0 ≤ v) (v1 : v < 4294967296) (w : World) (hA : A < 4294967296) : Calls Tryd.prog 29 #[lineV L, .int .u32 (A : Int), .int .i64 s, .int .u32 v] w fun e w' => e = .returned (lineV (W.wl L A s v)) ∧ Below w.heap.size w w' := by
  cases ha : W.al A s
  · exact rwith_no L A s v w hA ha
  · have h4 : (A : Int) % 16 / 4 = 0 ∨ (A : Int) % 16 / 4 = 1 ∨ (A : Int) % 16 / 4 = 2 ∨ (A : Int) % 16 / 4 = 3 := by omega
    rcases h4 with h | h | h | h
    · exact rwith_0 L A s v v0 v1 w hA ha h
    · exact rwith_1 L A s v v0 v1 w hA ha h
    · exact rwith_2 L A s v v0 v1 w hA ha h
    · exact rwith_3 L A s v v0 v1 w hA ha h
end Go.Proofs.YtjdiepklgcdamaaDoor
