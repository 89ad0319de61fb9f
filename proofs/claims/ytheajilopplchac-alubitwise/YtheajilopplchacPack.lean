/- What word.Pack returns for whatever fields lie in memory. -/
import Derived.Test.YtheajilopplchacWord
import Derived.WalkSmall
namespace Go.Proofs.Ytheajilopplchac
open Go.ChangeShapes Go.WideShapes Go.ChangeAt Go.RowKit

end Go.Proofs.Ytheajilopplchac