/- What the small functions of package mem, and of the document's memory, answer. -/
import Derived.Test.YtjdiepklgcdamaaDoorMemM
import Derived.Test.YtjdiepklgcdamaaDoorPacksWalk
import Derived.OwnWalk
import Derived.Deep.RegionHeld3
import Derived.Deep.RegionWith
namespace Go.Proofs.YtjdiepklgcdamaaDoor
open Go.ChangeShapes Go.WideShapes Go.ChangeAt Go.RowKit
set_option linter.unusedVariables false
set_option linter.unusedSimpArgs false

theorem al_no (a s : Int) (h1 : ¬ s = 1) (h2 : ¬ s = 2) (h3 : ¬ s = 4) : W.al a s = false := by
  simp [W.al, h1, h2, h3]

theorem aligned_any (A : Nat) (s : Int) (w : World) (hA : A < 4294967296) : Calls Tryd.prog 36 #[.int .u32 (A : Int), .int .i64 s] w fun e w' => e = .returned (.bool (W.al A s)) ∧ w = w' := by
  by_cases h1 : s = 1
  · subst h1
    go_enter Tryd.func36, Tryd.ntmps36
    go_wp2
    go_ret
    exact ⟨by simp [W.al], rfl⟩
  by_cases h2 : s = 2
  · subst h2
    go_enter Tryd.func36, Tryd.ntmps36
    go_wp2
    go_ret
    exact ⟨by simp [W.al], rfl⟩
  by_cases h3 : s = 4
  · subst h3
    go_enter Tryd.func36, Tryd.ntmps36
    go_wp2
    go_ret
    exact ⟨by simp [W.al], rfl⟩
  have hr : Hid (W.al A s = false) := al_no _ _ h1 h2 h3
  have g1 : (s == 1) = false := by simpa using h1
  have g2 : (s == 2) = false := by simpa using h2
  have g3 : (s == 4) = false := by simpa using h3
  clear h1 h2 h3
  go_enter Tryd.func36, Tryd.ntmps36
  go_wp2
  go_ret
  exact ⟨ret_bool hr.out.symm, rfl⟩

theorem mplace_any (A k : Nat) (w : World) (hA : A < 4294967296) (hk : A % 16 / 4 = k) : Calls Tryd.prog 38 #[.int .u32 (A : Int)] w fun e w' => e = .returned (.tuple #[.int .i64 k, .int .i64 (A % 4 * 8 : Int)]) ∧ w = w' := by
  go_enter Tryd.func38, Tryd.ntmps38
  go_wp2
  refine bodyPost_ret (v := .tuple #[.int .i64 ((A : Int) % 16 / 4), .int .i64 ((A : Int) % 4 * 8)]) (by simp [results, Tryd.results38, go_sem]) rfl ⟨?_, rfl⟩
  rw [← hk]
  simp

theorem lineOf_any (A : Nat) (w : World) (hA : A < 4294967296) : Calls Tryd.prog 30 #[.int .u32 (A : Int)] w fun e w' => e = .returned (.int .i64 ((A / 16 : Nat) : Int)) ∧ w = w' := by
  go_enter Tryd.func30, Tryd.ntmps30
  go_wp2
  go_ret
  exact ⟨by simp, rfl⟩

theorem rfits_any (A : Nat) (s : Int) (w : World) (hA : A < 4294967296) : Calls Tryd.prog 41 #[.int .u32 (A : Int), .int .i64 s] w fun e w' => e = .returned (.bool (W.al A s)) ∧ w = w' := by
  by_cases h1 : s = 1
  · subst h1
    go_enter Tryd.func41, Tryd.ntmps41
    go_wp2
    go_ret
    exact ⟨by simp [W.al], rfl⟩
  by_cases h2 : s = 2
  · subst h2
    go_enter Tryd.func41, Tryd.ntmps41
    go_wp2
    go_ret
    exact ⟨by simp [W.al], rfl⟩
  by_cases h3 : s = 4
  · subst h3
    go_enter Tryd.func41, Tryd.ntmps41
    go_wp2
    go_ret
    exact ⟨by simp [W.al], rfl⟩
  have hr : Hid (W.al A s = false) := al_no _ _ h1 h2 h3
  have g1 : (s == 1) = false := by simpa using h1
  have g2 : (s == 2) = false := by simpa using h2
  have g3 : (s == 4) = false := by simpa using h3
  clear h1 h2 h3
  go_enter Tryd.func41, Tryd.ntmps41
  go_wp2
  go_ret
  exact ⟨ret_bool hr.out.symm, rfl⟩
end Go.Proofs.YtjdiepklgcdamaaDoor
