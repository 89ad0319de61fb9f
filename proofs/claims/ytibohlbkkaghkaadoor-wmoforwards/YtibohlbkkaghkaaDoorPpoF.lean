/- The traits of an operation. -/
import Derived.Test.YtibohlbkkaghkaaDoorPpoE1
import Derived.Test.YtibohlbkkaghkaaDoorPpoE2
import Derived.Test.YtibohlbkkaghkaaDoorPpoE3
import Derived.Test.YtibohlbkkaghkaaDoorPpoE4
import Derived.Test.YtibohlbkkaghkaaDoorPpoEo
namespace Go.Proofs.YtibohlbkkaghkaaDoor
open Go.ChangeShapes Go.WideShapes Go.ChangeAt Go.RowKit
set_option linter.unusedVariables false

theorem actOf_any (g off : Nat) (o : W.Opr) (w : World) (h : OpAt g off o w) (z0 : -9223372036854775808 ≤ o.sz) (z1 : o.sz ≤ 9223372036854775807) : Calls Tryd.prog 65 #[.pointer (some ⟨g, off, none⟩)] w fun e w' => e = .returned (.agg (acC (W.actO o))) ∧ Below w.heap.size w w' := by
  by_cases k1 : o.k = 1
  · exact actOf_1 g off o w h z0 z1 k1
  · by_cases k2 : o.k = 2
    · exact actOf_2 g off o w h z0 z1 k2
    · by_cases k3 : o.k = 3
      · exact actOf_3 g off o w h z0 z1 k3
      · by_cases k4 : o.k = 4
        · exact actOf_4 g off o w h z0 z1 k4
        · exact actOf_o g off o w h z0 z1 (by simpa using k1) (by simpa using k2) (by simpa using k3) (by simpa using k4)
end Go.Proofs.YtibohlbkkaghkaaDoor
