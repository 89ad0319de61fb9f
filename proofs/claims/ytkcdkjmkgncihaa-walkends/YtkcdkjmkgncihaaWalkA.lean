/- Small contracts of package walk. -/
import Derived.Test.YtkcdkjmkgncihaaPteC
import Derived.Test.YtkcdkjmkgncihaaWalkM
namespace Go.Proofs.Ytkcdkjmkgncihaa
open Go.ChangeShapes Go.WideShapes Go.ChangeAt Go.RowKit
set_option linter.unusedVariables false

def W.Stp.val (s : W.Stp) : Value := .agg #[.int .i64 s.k, .int .u32 s.pa, .int .u32 s.ad, .int .u32 s.vl, .int .u32 s.ca]

theorem offBits_any (g : Bool) (w : World) : Calls Try.prog 31 #[.int .i64 (W.lv g)] w fun x w' => x = .returned (.int .i64 (bif g then 22 else 12)) ∧ w' = w := by
  cases g
  all_goals
    simp only [W.lv, cond_true, cond_false]
    go_enter Try.func31, Try.ntmps31
    go_wp2
    go_ret
    exact ⟨rfl, rfl⟩

theorem place_any (p : Int) (h0 : 0 ≤ p) (h1 : p < 4294967296) (w : World) : Calls Try.prog 32 #[.int .u32 p] w fun x w' => x = .returned (.int .i64 (p * 4096)) ∧ w' = w := by
  go_enter Try.func32, Try.ntmps32
  go_wp2
  go_ret
  exact ⟨rfl, rfl⟩

theorem fits_0 (p : Int) (w : World) : Calls Try.prog 33 #[.int .u32 p, .int .i64 0] w fun x w' => x = .returned (.bool true) ∧ ∃ k, w' = w.drewN k := by
  have hz : W.bitsOf p 0 0 = 0 := rfl
  go_enter Try.func33, Try.ntmps33
  go_wp2_with (go_at_call 18; refine (bits_any _ _ _ _).mono ?_; rintro e w' ⟨rfl, k, rfl⟩)
  go_ret
  exact ⟨rfl, _, rfl⟩

theorem fits_1 (p : Int) (h0 : 0 ≤ p) (h1 : p < 4294967296) (w : World) : Calls Try.prog 33 #[.int .u32 p, .int .i64 1] w fun x w' => x = .returned (.bool (p % 1024 == 0)) ∧ ∃ k, w' = w.drewN k := by
  have hz := W.bits_l10 p h0 h1
  go_enter Try.func33, Try.ntmps33
  go_wp2_with (go_at_call 18; refine (bits_any _ _ _ _).mono ?_; rintro e w' ⟨rfl, k, rfl⟩)
  go_ret
  exact ⟨rfl, _, rfl⟩

theorem fault_any (mode va acc bytes : Int) (p : Bool) (w : World) : Calls Try.prog 19 #[.agg #[.int .i64 mode, .int .u32 va, .int .i64 acc, .int .i64 bytes], .bool p] w fun x w' => x = .returned (.agg #[.int .i64 2, .int .u32 0, .int .u32 0, .int .u32 0, .int .u32 (W.cause acc p)]) ∧ Below w.heap.size w w' := by
  go_enter Try.func19, Try.ntmps19
  go_wp2_with (go_at_call 13; refine (cause_any _ _ _).mono ?_; rintro e w' ⟨rfl, rfl⟩)
  exact bodyPost_ret (v := .agg #[.int .i64 2, .int .u32 0, .int .u32 0, .int .u32 0, .int .u32 (W.cause acc p)]) (by simp [results, Try.results19, go_sem]) rfl ⟨rfl, ((Below.refl _ _).alloc (Nat.le_refl _) _).alloc (by simp) _⟩

theorem entries_any (satp mode : Int) (h0 : 0 ≤ satp) (h1 : satp < 4294967296) (w : World) : Calls Try.prog 10 #[.int .u32 satp, .int .i64 mode] w fun x w' => x = .returned (.int .i64 (bif W.onB satp mode then 2 else 0)) ∧ ∃ k, w' = w.drewN k := by
  have hz := W.bits_31 satp h0 h1
  by_cases hm : mode = 3
  · subst hm
    go_enter Try.func10, Try.ntmps10
    go_wp2_with (go_at_call 18; refine (bits_any _ _ _ _).mono ?_; rintro e w' ⟨rfl, k, rfl⟩)
    go_ret
    exact ⟨rfl, 0, rfl⟩
  · by_cases hs : 2147483648 ≤ satp
    · have q : satp / 2147483648 = 1 := by omega
      rw [q] at hz
      have hr : Hid ((bif W.onB satp mode then 2 else 0 : Int) = 2) := by
        show (bif W.onB satp mode then 2 else 0 : Int) = 2
        simp [W.onB, show (mode == 3) = false by simpa using hm, hs]
      clear q hs
      go_enter Try.func10, Try.ntmps10
      go_wp2_with (go_at_call 18; refine (bits_any _ _ _ _).mono ?_; rintro e w' ⟨rfl, k, rfl⟩)
      go_ret
      exact ⟨ret_int hr.out.symm, _, rfl⟩
    · have q : satp / 2147483648 = 0 := by omega
      rw [q] at hz
      have hr : Hid ((bif W.onB satp mode then 2 else 0 : Int) = 0) := by
        show (bif W.onB satp mode then 2 else 0 : Int) = 0
        simp [W.onB, hs]
      clear q hs
      go_enter Try.func10, Try.ntmps10
      go_wp2_with (go_at_call 18; refine (bits_any _ _ _ _).mono ?_; rintro e w' ⟨rfl, k, rfl⟩)
      go_ret
      exact ⟨ret_int hr.out.symm, _, rfl⟩
end Go.Proofs.Ytkcdkjmkgncihaa
