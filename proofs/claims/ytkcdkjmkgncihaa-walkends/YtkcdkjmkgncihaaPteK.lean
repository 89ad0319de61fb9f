/- Make of one flag word. -/
import Derived.Test.YtkcdkjmkgncihaaPteD
import Derived.Test.YtkcdkjmkgncihaaPteE
namespace Go.Proofs.Ytkcdkjmkgncihaa
open Go.ChangeShapes Go.WideShapes Go.ChangeAt Go.RowKit
set_option linter.unusedVariables false

theorem orAll_one (f : Int) (f0 : 0 ≤ f) (f1 : f < 4294967296) : W.orAll (fun _ => f) 1 = f := by
  show bits .or .u32 0 f = f
  have := W.or_join f 0 0 f0 f1 (by decide) (by decide) (by decide) (by omega)
  rw [this]; omega
theorem make_one (page : Int) (p0 : 0 ≤ page) (p1 : page < 4294967296) (k : Nat) (hk : k < 256) (w : World) (B : Nat) (hB : w.heap.size = B) :
    Calls Try.prog 14 #[.int .u32 page, .slice (some ⟨B, 0, none⟩) 1 1] (w.alloc (.cells #[.int .u32 (k : Int)] 23)) fun e w' => e = .returned (.int .u32 (W.mk page (k : Int))) ∧ Below w.heap.size w w' := by
  subst hB
  refine (make_any page p0 p1 w.heap.size 0 1 1 (fun _ => (k : Int)) _ (by decide) (by simp) ?_).mono ?_
  · intro j hj
    match j, hj with
    | 0, _ => simp [go_sem]
  · rintro e w' ⟨rfl, hb⟩
    exact ⟨ret_int (by rw [orAll_one _ (by omega) (by omega)]), ((Below.refl _ _).alloc (Nat.le_refl _) _).trans (hb.mono (by simp))⟩
end Go.Proofs.Ytkcdkjmkgncihaa
