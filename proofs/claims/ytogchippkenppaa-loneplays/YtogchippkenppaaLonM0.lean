/- Messages on numbers. -/
import Derived.WalkKit
namespace Go.Proofs.Ytogchippkenppaa
set_option linter.unusedVariables false
set_option linter.unusedSimpArgs false

namespace W
structure Mg where
  k : Int
  l : Int
  f : Int
  t : Int
  d0 : Int
  d1 : Int
  d2 : Int
  d3 : Int
  h : Bool
  d : Bool
  a : Bool
deriving DecidableEq
def mg0 : Mg := ⟨0, 0, 0, 0, 0, 0, 0, 0, false, false, false⟩
end W
end Go.Proofs.Ytogchippkenppaa
