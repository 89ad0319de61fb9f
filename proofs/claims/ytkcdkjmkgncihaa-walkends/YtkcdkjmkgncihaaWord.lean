/- What each function of package word returns, as a plain function of its numbers: a contract a function. -/
import Derived.Test.YtkcdkjmkgncihaaRows
import Derived.Test.YtkcdkjmkgncihaaPlain
import Derived.WalkKit
import Derived.ProofKit
import Derived.OpenShut
import Derived.Deep.QuietTactic
import Derived.BigQuiet
namespace Go.Proofs.Ytkcdkjmkgncihaa
open Go.ChangeShapes Go.WideShapes Go.ChangeAt Go.RowKit

theorem ret_int {k : IntKind} {a b : Int} (h : a = b) : Ending.returned (.int k a) = .returned (.int k b) := by rw [h]

theorem within_any (low n : Int) (w : World) :
    Calls Try.prog 29 #[.int .i64 low, .int .i64 n] w fun e w' => e = .returned (.bool (W.within low n)) ∧ w' = w := by
  by_cases h1 : 0 ≤ low
  · by_cases h2 : low ≤ 31
    · go_enter Try.func29, Try.ntmps29
      go_wp2
      go_ret
      exact ⟨by simp [W.within, h1, h2], rfl⟩
    · go_enter Try.func29, Try.ntmps29
      go_wp2
      go_ret
      exact ⟨by simp [W.within]; omega, rfl⟩
  · go_enter Try.func29, Try.ntmps29
    go_wp2
    go_ret
    exact ⟨by simp [W.within]; omega, rfl⟩

theorem lowest_any (n : Int) (h : 1 ≤ n) (w : World) :
    Calls Try.prog 30 #[.int .i64 n] w fun e w' => e = .returned (.int .u32 (W.lowest n)) ∧ w' = w := by
  by_cases h2 : 31 < n
  · go_enter Try.func30, Try.ntmps30
    go_wp2
    go_ret
    exact ⟨ret_int (by rw [W.lowest, if_pos h2]), rfl⟩
  · go_enter Try.func30, Try.ntmps30
    go_wp2
    go_ret
    exact ⟨ret_int (by rw [W.lowest, if_neg (by omega)]; simp), rfl⟩

theorem bits_any (x low n : Int) (w : World) :
    Calls Try.prog 18 #[.int .u32 x, .int .i64 low, .int .i64 n] w fun e w' => e = .returned (.int .u32 (W.bitsOf x low n)) ∧ ∃ k, w' = w.drewN k := by
  cases hw : W.within low n
  · have hb : W.bitsOf x low n = 0 := by rw [W.bitsOf, hw]; rfl
    go_enter Try.func18, Try.ntmps18
    go_wp2_with (go_at_call 29; refine (within_any _ _ _).mono ?_; rintro e w' ⟨rfl, rfl⟩)
    go_ret
    exact ⟨ret_int hb.symm, 0, rfl⟩
  · have h1 : 0 ≤ low ∧ low ≤ 31 ∧ 1 ≤ n := by simpa [W.within] using hw
    obtain ⟨h1, h2, h3⟩ := h1
    have hb : Hid (W.bitsOf x low n = bits .and .u32 (x / 2 ^ low.toNat) (W.lowest n)) := by
      have : W.bitsOf x low n = bits .and .u32 (x / 2 ^ low.toNat) (W.lowest n) := by rw [W.bitsOf, hw]; rfl
      exact this
    go_enter Try.func18, Try.ntmps18
    go_wp2_with (go_at_call 29; refine (within_any _ _ _).mono ?_; rintro e w' ⟨rfl, rfl⟩)
    go_quiet ((go_at_call 30; exact Calls.quiet_of_same (lowest_any _ h3 _)))
    go_wp2
    go_ret
    exact ⟨ret_int hb.out.symm, _, rfl⟩

end Go.Proofs.Ytkcdkjmkgncihaa