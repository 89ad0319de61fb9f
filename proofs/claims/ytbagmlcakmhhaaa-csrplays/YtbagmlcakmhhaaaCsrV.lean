/- The document's registers: whether an interrupt is pending. -/
import Derived.Test.YtbagmlcakmhhaaaCsrVA
import Derived.Test.YtbagmlcakmhhaaaCsrVB
import Derived.Test.YtbagmlcakmhhaaaCsrVC
namespace Go.Proofs.Ytbagmlcakmhhaaa
open Go.ChangeShapes Go.WideShapes Go.ChangeAt Go.RowKit
set_option linter.unusedVariables false

theorem rpend_eq (G : W.F) (s0 : 0 ≤ G.st) (s1 : G.st < 4294967296) : W.pend G = ((bits .and .u32 (bits .and .u32 G.mip G.mie) 8 != 0) && (G.m == 0 || (bits .and .u32 G.st 8 != 0))) := by
  have e : (W.bitsOf G.st 3 1 == 1) = (bits .and .u32 G.st 8 != 0) := by
    rw [W.b3_eq _ s0 s1, W.and_8 _ s0 s1]
    have h : G.st / 8 % 2 = 0 ∨ G.st / 8 % 2 = 1 := by omega
    rcases h with h | h <;> rw [h] <;> rfl
  unfold W.pend W.openF
  rw [e, Bool.and_comm]

theorem rpending_any (G : W.F) (s0 : 0 ≤ G.st) (s1 : G.st < 4294967296) (w : World) : Calls Try.prog 24 #[.agg (fileCells G)] w fun x w' => x = .returned (.bool (W.pend G)) ∧ Below w.heap.size w w' := by
  rw [rpend_eq G s0 s1]
  cases h1 : (bits .and .u32 (bits .and .u32 G.mip G.mie) 8 != 0)
  · exact rpend_A G h1 w
  · cases h2 : (G.m == 0)
    · exact rpend_C G h1 h2 w
    · exact rpend_B G h1 h2 w
end Go.Proofs.Ytbagmlcakmhhaaa
