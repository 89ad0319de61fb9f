/- WalkPages: the walk. -/
import Derived.Test.YtkcdkjmkgncihaaWalkQ
import Derived.Test.YtkcdkjmkgncihaaWalkR
namespace Go.Proofs.Ytkcdkjmkgncihaa
open Go.ChangeShapes Go.WideShapes Go.ChangeAt Go.RowKit
set_option linter.unusedVariables false
set_option linter.unusedSimpArgs false

theorem map3_any (a : Int) (w : World) : Calls Try.prog 15 #[.int .i64 a] w fun x w' => x = .returned (.int .u32 (W.asked a)) ∧ w' = w := by
  by_cases h1 : a = 1
  · subst h1
    go_enter Try.func15, Try.ntmps15
    go_wp2
    go_ret
    exact ⟨rfl, rfl⟩
  · by_cases h2 : a = 2
    · subst h2
      go_enter Try.func15, Try.ntmps15
      go_wp2
      go_ret
      exact ⟨rfl, rfl⟩
    · by_cases h3 : a = 3
      · subst h3
        go_enter Try.func15, Try.ntmps15
        go_wp2
        go_ret
        exact ⟨rfl, rfl⟩
      · go_enter Try.func15, Try.ntmps15
        go_wp2
        go_ret
        exact ⟨by simp [W.asked, h1, h2, h3], rfl⟩

theorem pages_machine (va page flags access : Int) (great : Bool) (v0 : 0 ≤ va) (v1 : va < 4294967296) (w : World) :
    Calls Try.prog 4 #[.int .u32 va, .int .u32 page, .bool great, .int .u32 flags, .int .i64 access, .bool false] w fun e w' => e = .returned (.bool true) ∧ Below w.heap.size w w' := by
  have hs : W.nextS 2147483649 3 va access 65536 0 (fun _ => 0) (fun _ => 0) = W.hereS va := rfl
  go_enter Try.func4, Try.ntmps4
  go_wp2_with (go_at_call 7; refine (first9_any _).mono ?_; rintro x w1 ⟨rfl, hb1⟩)
  refine (next_nil 2147483649 3 va access 65536 (by decide) (by decide) v0 v1 _ _ _ _ hs).mono ?_
  unfold W.hereS
  dsimp only
  rintro e w2 ⟨rfl, hb⟩
  have hb2 := bnext hb1 hb
  clear hb hb1 hs
  go_wp2
  go_ret
  exact ⟨rfl, bnew hb2 _⟩

end Go.Proofs.Ytkcdkjmkgncihaa
