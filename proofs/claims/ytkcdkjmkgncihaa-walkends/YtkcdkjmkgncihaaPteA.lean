/- What each function of package pte returns, as a plain function of its numbers: a contract a function. -/
import Derived.Test.YtkcdkjmkgncihaaPack
import Derived.Test.YtkcdkjmkgncihaaPteM
namespace Go.Proofs.Ytkcdkjmkgncihaa
open Go.ChangeShapes Go.WideShapes Go.ChangeAt Go.RowKit
set_option linter.unusedVariables false

theorem leaf_any (e : Int) (w : World) : Calls Try.prog 20 #[.int .u32 e] w fun x w' => x = .returned (.bool (W.leaf e)) ∧ w' = w := by
  go_enter Try.func20, Try.ntmps20
  go_wp2
  go_ret
  exact ⟨rfl, rfl⟩

theorem either_any (b : Bool) (p q : Int) (w : World) : Calls Try.prog 24 #[.bool b, .int .u32 p, .int .u32 q] w fun x w' => x = .returned (.int .u32 (bif b then p else q)) ∧ w' = w := by
  cases b
  all_goals
    go_enter Try.func24, Try.ntmps24
    go_wp2
    go_ret
    exact ⟨rfl, rfl⟩

theorem asked_any (a : Int) (w : World) : Calls Try.prog 22 #[.int .i64 a] w fun x w' => x = .returned (.int .u32 (W.asked a)) ∧ w' = w := by
  by_cases h1 : a = 1
  · subst h1
    go_enter Try.func22, Try.ntmps22
    go_wp2
    go_ret
    exact ⟨rfl, rfl⟩
  · by_cases h2 : a = 2
    · subst h2
      go_enter Try.func22, Try.ntmps22
      go_wp2
      go_ret
      exact ⟨rfl, rfl⟩
    · by_cases h3 : a = 3
      · subst h3
        go_enter Try.func22, Try.ntmps22
        go_wp2
        go_ret
        exact ⟨rfl, rfl⟩
      · go_enter Try.func22, Try.ntmps22
        go_wp2
        go_ret
        exact ⟨by simp [W.asked, h1, h2, h3], rfl⟩

theorem opn_any (e m : Int) (w : World) : Calls Try.prog 23 #[.int .u32 e, .int .i64 m] w fun x w' => x = .returned (.bool (W.opn e m)) ∧ w' = w := by
  by_cases h1 : m = 0
  · subst h1
    go_enter Try.func23, Try.ntmps23
    go_wp2
    go_ret
    exact ⟨rfl, rfl⟩
  · by_cases h2 : m = 3
    · subst h2
      go_enter Try.func23, Try.ntmps23
      go_wp2
      go_ret
      exact ⟨rfl, rfl⟩
    · go_enter Try.func23, Try.ntmps23
      go_wp2
      go_ret
      exact ⟨by simp [W.opn, h1, h2], rfl⟩

theorem needs_any (e a : Int) (w : World) : Calls Try.prog 11 #[.int .u32 e, .int .i64 a] w fun x w' => x = .returned (.int .u32 (W.needs e a)) ∧ w' = w := by
  by_cases h1 : a = 3
  · subst h1
    go_enter Try.func11, Try.ntmps11
    go_wp2
    go_ret
    exact ⟨rfl, rfl⟩
  · go_enter Try.func11, Try.ntmps11
    go_wp2
    go_ret
    exact ⟨ret_int (by rw [W.needs, if_neg h1]), rfl⟩

theorem cause_any (a : Int) (p : Bool) (w : World) : Calls Try.prog 13 #[.int .i64 a, .bool p] w fun x w' => x = .returned (.int .u32 (W.cause a p)) ∧ w' = w := by
  by_cases h1 : a = 1
  · subst h1
    go_enter Try.func13, Try.ntmps13
    go_wp2_with (go_at_call 24; refine (either_any _ _ _ _).mono ?_; rintro e w' ⟨rfl, rfl⟩)
    go_ret
    exact ⟨rfl, rfl⟩
  · by_cases h2 : a = 2
    · subst h2
      go_enter Try.func13, Try.ntmps13
      go_wp2_with (go_at_call 24; refine (either_any _ _ _ _).mono ?_; rintro e w' ⟨rfl, rfl⟩)
      go_ret
      exact ⟨rfl, rfl⟩
    · by_cases h3 : a = 3
      · subst h3
        go_enter Try.func13, Try.ntmps13
        go_wp2_with (go_at_call 24; refine (either_any _ _ _ _).mono ?_; rintro e w' ⟨rfl, rfl⟩)
        go_ret
        exact ⟨rfl, rfl⟩
      · go_enter Try.func13, Try.ntmps13
        go_wp2
        go_ret
        exact ⟨ret_int (by simp [W.cause, h1, h2, h3]), rfl⟩

theorem bad_any (e : Int) (w : World) : Calls Try.prog 21 #[.int .u32 e] w fun x w' => x = .returned (.bool (W.bad e)) ∧ w' = w := by
  cases h1 : (bits .and .u32 e 1 == 0)
  · cases h2 : (bits .and .u32 e 4 != 0)
    · cases h4 : W.leaf e
      · go_enter Try.func21, Try.ntmps21
        go_wp2_with (go_at_call 20; refine (leaf_any _ _).mono ?_; rintro e w' ⟨rfl, rfl⟩)
        go_ret
        exact ⟨by simp [W.bad, h1, h2, h4], rfl⟩
      · go_enter Try.func21, Try.ntmps21
        go_wp2_with (go_at_call 20; refine (leaf_any _ _).mono ?_; rintro e w' ⟨rfl, rfl⟩)
        go_ret
        exact ⟨by simp [W.bad, h1, h2, h4], rfl⟩
    · cases h3 : (bits .and .u32 e 2 == 0)
      · cases h4 : W.leaf e
        · go_enter Try.func21, Try.ntmps21
          go_wp2_with (go_at_call 20; refine (leaf_any _ _).mono ?_; rintro e w' ⟨rfl, rfl⟩)
          go_ret
          exact ⟨by simp [W.bad, h1, h2, h3, h4], rfl⟩
        · go_enter Try.func21, Try.ntmps21
          go_wp2_with (go_at_call 20; refine (leaf_any _ _).mono ?_; rintro e w' ⟨rfl, rfl⟩)
          go_ret
          exact ⟨by simp [W.bad, h1, h2, h3, h4], rfl⟩
      · go_enter Try.func21, Try.ntmps21
        go_wp2
        go_ret
        exact ⟨by simp [W.bad, h1, h2, h3], rfl⟩
  · go_enter Try.func21, Try.ntmps21
    go_wp2
    go_ret
    exact ⟨by simp [W.bad, h1], rfl⟩
end Go.Proofs.Ytkcdkjmkgncihaa
