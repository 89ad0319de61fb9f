/- The document's entries, and the chapter's examples. -/
import Derived.Test.YtkcdkjmkgncihaaPteC
namespace Go.Proofs.Ytkcdkjmkgncihaa
open Go.ChangeShapes Go.WideShapes Go.ChangeAt Go.RowKit
set_option linter.unusedVariables false

def exa (j : Nat) : Int := if j = 0 then 1 else if j = 1 then 2 else 64
def exb (j : Nat) : Int := if j = 0 then 1 else if j = 1 then 2 else if j = 2 then 16 else 64
theorem make_a (w : World) (B : Nat) (hB : w.heap.size = B) : Calls Try.prog 14 #[.int .u32 5, .slice (some ⟨B, 0, none⟩) 3 3] (w.alloc (.cells #[.int .u32 1, .int .u32 2, .int .u32 64] 23)) fun e w' => e = .returned (.int .u32 5187) ∧ Below w.heap.size w w' := by
  subst hB
  refine (make_any 5 (by decide) (by decide) w.heap.size 0 3 3 exa _ (by decide) (by simp) ?_).mono ?_
  · intro j hj
    match j, hj with
    | 0, _ => simp [go_sem, exa]
    | 1, _ => simp [go_sem, exa]
    | 2, _ => simp [go_sem, exa]
  · rintro e w' ⟨rfl, hb⟩
    exact ⟨ret_int (by decide +kernel), ((Below.refl _ _).alloc (Nat.le_refl _) _).trans (hb.mono (by simp))⟩
theorem make_b (w : World) (B : Nat) (hB : w.heap.size = B) : Calls Try.prog 14 #[.int .u32 5, .slice (some ⟨B, 0, none⟩) 4 4] (w.alloc (.cells #[.int .u32 1, .int .u32 2, .int .u32 16, .int .u32 64] 23)) fun e w' => e = .returned (.int .u32 5203) ∧ Below w.heap.size w w' := by
  subst hB
  refine (make_any 5 (by decide) (by decide) w.heap.size 0 4 4 exb _ (by decide) (by simp) ?_).mono ?_
  · intro j hj
    match j, hj with
    | 0, _ => simp [go_sem, exb]
    | 1, _ => simp [go_sem, exb]
    | 2, _ => simp [go_sem, exb]
    | 3, _ => simp [go_sem, exb]
  · rintro e w' ⟨rfl, hb⟩
    exact ⟨ret_int (by decide +kernel), ((Below.refl _ _).alloc (Nat.le_refl _) _).trans (hb.mono (by simp))⟩

end Go.Proofs.Ytkcdkjmkgncihaa