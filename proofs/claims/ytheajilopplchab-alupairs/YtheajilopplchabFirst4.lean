/- The examples of chapter 4 hold. -/
import Derived.Test.YtheajilopplchabAluB
import Derived.Test.YtheajilopplchabMathA
import Derived.Deep.RegionWith
namespace Go.Proofs.Ytheajilopplchab
open Go.ChangeShapes Go.WideShapes Go.ChangeAt Go.RowKit
set_option linter.unusedVariables false
set_option linter.unusedSimpArgs false

theorem first4_any (w : World) : Calls Try.prog 9 #[] w fun e w' => e = .returned (.bool true) ∧ Below w.heap.size w w' := by
  have e1 : W.right 2147483648 33 true = 3221225472 := by kernel_rfl
  have e2 : W.most 4294967295 1 true = 1 := by kernel_rfl
  have e3 : W.sgn 128 8 = 4294967168 := by kernel_rfl
  have hb : Below w.heap.size w w := Below.refl _ _
  go_enter Try.func9, Try.ntmps9
  go_wp2_with (first
    | (go_at_call 10; refine (do_35 2147483648 33 (by decide) (by decide) (by decide) (by decide) _).mono ?_; rintro e w' ⟨rfl, rfl⟩; rw [e1])
    | (go_at_call 14; refine (amo_67 4294967295 1 (by decide) (by decide) (by decide) (by decide) _).mono ?_; rintro e w' ⟨rfl, rfl⟩; rw [e2])
    | (go_at_call 18; refine (ext_11 128 _).mono ?_; clear hb; rintro e w1 ⟨rfl, hb⟩; rw [e3]))
  go_ret
  exact ⟨rfl, hb⟩

end Go.Proofs.Ytheajilopplchab
