/- WordPacks, walked: it returns true, whatever fields lie in the slice. -/
import Derived.Test.YtjdiepklgcdamaaDoorPack
import Derived.Test.YtjdiepklgcdamaaDoorRef
import Derived.Test.YtjdiepklgcdamaaDoorMath6
import Derived.WalkSpells
namespace Go.Proofs.YtjdiepklgcdamaaDoor
open Go.ChangeShapes Go.WideShapes Go.ChangeAt Go.RowKit
set_option linter.unusedVariables false

theorem same_of {P : Program} {f : FuncId} {args : Array Value} {w : World} {v : Value} (h : Calls P f args w fun e w' => e = .returned v ∧ w = w') : Calls P f args w fun e w' => e = .returned v ∧ w' = w :=
  h.mono fun _ _ ⟨a, b⟩ => ⟨a, b.symm⟩

theorem place_any (v low n : Int) (w : World) (v0 : 0 ≤ v) (v1 : v < 4294967296) :
    Calls Tryd.prog 43 #[.int .u32 v, .int .i64 low, .int .i64 n] w fun e w' => e = .returned (.int .u32 (W.placed v low n)) ∧ w = w' := by
  cases hw : W.within low n
  · have hr : Hid (W.placed v low n = 0) := by
      have : W.placed v low n = 0 := by unfold W.placed; rw [hw]; rfl
      exact this
    have hn : low < 0 ∨ 31 < low ∨ n < 1 := by
      have h3 : ¬ (0 ≤ low ∧ low ≤ 31 ∧ 1 ≤ n) := by
        intro h; simp [W.within, h] at hw
      omega
    clear hw
    rcases hn with h | h | h
    · go_enter Tryd.func43, Tryd.ntmps43
      go_wp2
      go_ret
      exact ⟨ret_int hr.out.symm, rfl⟩
    · go_enter Tryd.func43, Tryd.ntmps43
      go_wp2
      all_goals
        go_ret
        exact ⟨ret_int hr.out.symm, rfl⟩
    · go_enter Tryd.func43, Tryd.ntmps43
      go_wp2
      all_goals
        go_ret
        exact ⟨ret_int hr.out.symm, rfl⟩
  · have hr : Hid (W.bitsOf v 0 n * 2 ^ low.toNat % 4294967296 = W.placed v low n) := W.placed_ref v low n v0 v1 hw
    have h3 : 0 ≤ low ∧ low ≤ 31 ∧ 1 ≤ n := by simpa [W.within] using hw
    obtain ⟨h1, h2, h3⟩ := h3
    clear hw
    go_enter Tryd.func43, Tryd.ntmps43
    go_wp2_with (go_at_call 42; refine (rbits_any _ _ _ _ v0 v1).mono ?_; rintro e w' ⟨rfl, rfl⟩)
    go_ret
    exact ⟨ret_int hr.out, rfl⟩

theorem pack_empty (a : Option Addr) (cap : Nat) (w : World) : Calls Tryd.prog 40 #[.slice a 0 cap] w fun e w' => e = .returned (.int .u32 0) ∧ w = w' := by
  go_enter Tryd.func40, Tryd.ntmps40
  go_wp2
  refine wp_loop_rounds 1 ?_
  rw [rounds_succ]
  go_wp2
  go_ret
  exact ⟨rfl, rfl⟩

end Go.Proofs.YtjdiepklgcdamaaDoor