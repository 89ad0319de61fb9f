/- PteSays: the walk. -/
import Derived.Test.YtfkbdkalaajkhaaPteD
namespace Go.Proofs.Ytfkbdkalaajkhaa
open Go.ChangeShapes Go.WideShapes Go.ChangeAt Go.RowKit
set_option linter.unusedVariables false

theorem rbad_g (e : Int) (e0 : 0 ≤ e) (e1 : e < 4294967296) (w : World) : Calls Try.prog 9 #[.int .u32 e] w fun x w' => x = .returned (.bool (W.bad e)) ∧ w' = w := by
  rw [← W.rbad_eq e e0 e1]; exact rbad_any e w
theorem rmay_g (e a m : Int) (e0 : 0 ≤ e) (e1 : e < 4294967296) (w : World) : Calls Try.prog 14 #[.int .u32 e, .int .i64 a, .int .i64 m] w fun x w' => x = .returned (.bool (W.may e a m)) ∧ w' = w := by
  rw [← W.rmay_eq e a m e0 e1]; exact rmay_any e a m w
theorem page_g (e : Int) (e0 : 0 ≤ e) (e1 : e < 4294967296) (w : World) : Calls Try.prog 12 #[.int .u32 e] w fun x w' => x = .returned (.int .u32 (e / 1024)) ∧ ∃ k, w' = w.drewN k := by
  rw [← W.page_eq e e0 e1]; exact page_any e w

set_option maxHeartbeats 3200000 in
theorem pteSays_any (e a m : Int) (p : Bool) (e0 : 0 ≤ e) (e1 : e < 4294967296) (w : World) : Calls Try.prog 3 #[.int .u32 e, .int .i64 a, .int .i64 m, .bool p] w fun x w' => x = .returned (.bool true) ∧ Below w.heap.size w w' := by
  go_enter Try.func3, Try.ntmps3
  go_wp2_with (first
    | (go_at_call 7; refine (first8_any _).mono ?_; rintro x w1 ⟨rfl, hb⟩)
    | (go_at_call 8; refine (bad_any _ _).mono ?_; rintro x w' ⟨rfl, rfl⟩)
    | (go_at_call 9; refine (rbad_g _ e0 e1 _).mono ?_; rintro x w' ⟨rfl, rfl⟩)
    | (go_at_call 10; refine (leaf_any _ _).mono ?_; rintro x w' ⟨rfl, rfl⟩)
    | (go_at_call 11; refine (rleaf_any _ _).mono ?_; rintro x w' ⟨rfl, rfl⟩)
    | (go_at_call 12; refine (page_g _ e0 e1 _).mono ?_; rintro x w' ⟨rfl, k, rfl⟩)
    | (go_at_call 13; refine (may_any _ _ _ _).mono ?_; rintro x w' ⟨rfl, rfl⟩)
    | (go_at_call 14; refine (rmay_g _ _ _ e0 e1 _).mono ?_; rintro x w' ⟨rfl, rfl⟩)
    | (go_at_call 15; refine (needs_any _ _ _).mono ?_; rintro x w' ⟨rfl, rfl⟩)
    | (go_at_call 16; refine (rneeds_any _ _ e0 e1 _).mono ?_; rintro x w' ⟨rfl, rfl⟩)
    | (go_at_call 17; refine (cause_any _ _ _).mono ?_; rintro x w' ⟨rfl, rfl⟩)
    | (go_at_call 18; refine (rcause_any _ _ _).mono ?_; rintro x w' ⟨rfl, rfl⟩))
  go_ret
  exact ⟨rfl, below_drewN hb _⟩

theorem pteSays_walk (e a m : Int) (p : Bool) (e0 : 0 ≤ e) (e1 : e < 4294967296) (a0 : -9223372036854775808 ≤ a) (a1 : a ≤ 9223372036854775807) (m0 : -9223372036854775808 ≤ m) (m1 : m ≤ 9223372036854775807) (w : World) :
    Calls Try.prog 3 #[.int .u32 e, .int .i64 a, .int .i64 m, .bool p] w fun x w' => x = .returned (.bool true) ∧ Below w.heap.size w w' := pteSays_any e a m p e0 e1 w
end Go.Proofs.Ytfkbdkalaajkhaa
