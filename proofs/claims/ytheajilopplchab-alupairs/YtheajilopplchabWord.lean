/- What each function of package word returns, as a plain function of its numbers: a contract a function. -/
import Derived.Test.YtheajilopplchabRows
import Derived.Test.YtheajilopplchabPlain
import Derived.WalkKit
import Derived.ProofKit
import Derived.OpenShut
import Derived.Deep.QuietTactic
import Derived.BigQuiet
namespace Go.Proofs.Ytheajilopplchab
open Go.ChangeShapes Go.WideShapes Go.ChangeAt Go.RowKit

theorem ret_int {k : IntKind} {a b : Int} (h : a = b) : Ending.returned (.int k a) = .returned (.int k b) := by rw [h]

theorem wide_any (a : Int) (s : Bool) (w : World) :
    Calls Try.prog 52 #[.int .u32 a, .bool s] w fun e w' => e = .returned (.int .i64 (W.wide a s)) ∧ w' = w := by
  cases s
  all_goals
    go_enter Try.func52, Try.ntmps52
    go_wp2
    go_ret
    exact ⟨rfl, rfl⟩

theorem less_any (a b : Int) (s : Bool) (w : World) :
    Calls Try.prog 30 #[.int .u32 a, .int .u32 b, .bool s] w fun e w' => e = .returned (.bool (W.less a b s)) ∧ w = w' := by
  go_enter Try.func30, Try.ntmps30
  go_wp2_with (go_at_call 52; refine (wide_any _ _ _).mono ?_; rintro e w' ⟨rfl, rfl⟩)
  go_ret
  exact ⟨rfl, rfl⟩

theorem right_any (a n : Int) (s : Bool) (w : World) :
    Calls Try.prog 31 #[.int .u32 a, .int .i64 n, .bool s] w fun e w' => e = .returned (.int .u32 (W.right a n s)) ∧ w = w' := by
  have hb := W.and31 n
  go_enter Try.func31, Try.ntmps31
  go_wp2_with (go_at_call 52; refine (wide_any _ _ _).mono ?_; rintro e w' ⟨rfl, rfl⟩)
  go_ret
  exact ⟨rfl, rfl⟩

theorem left_any (a n : Int) (w : World) :
    Calls Try.prog 28 #[.int .u32 a, .int .i64 n] w fun e w' => e = .returned (.int .u32 (W.left a n)) ∧ w = w' := by
  have hb := W.and31 n
  go_enter Try.func28, Try.ntmps28
  go_wp2
  go_ret
  exact ⟨rfl, rfl⟩

theorem sgn_any (a n : Int) (w : World) :
    Calls Try.prog 43 #[.int .u32 a, .int .i64 n] w fun e w' => e = .returned (.int .u32 (W.sgn a n)) ∧ w = w' := by
  by_cases h1 : n < 1
  · go_enter Try.func43, Try.ntmps43
    go_wp2
    go_ret
    exact ⟨ret_int (by rw [W.sgn, if_pos h1]), rfl⟩
  · by_cases h2 : 31 < n
    · go_enter Try.func43, Try.ntmps43
      go_wp2
      go_ret
      exact ⟨ret_int (by rw [W.sgn, if_neg (by omega), if_pos (by omega)]), rfl⟩
    · go_enter Try.func43, Try.ntmps43
      go_wp2
      go_ret
      exact ⟨ret_int (by rw [W.sgn, if_neg (by omega), if_neg (by omega)]), rfl⟩

theorem within_any (low n : Int) (w : World) :
    Calls Try.prog 64 #[.int .i64 low, .int .i64 n] w fun e w' => e = .returned (.bool (W.within low n)) ∧ w' = w := by
  by_cases h1 : 0 ≤ low
  · by_cases h2 : low ≤ 31
    · go_enter Try.func64, Try.ntmps64
      go_wp2
      go_ret
      exact ⟨by simp [W.within, h1, h2], rfl⟩
    · go_enter Try.func64, Try.ntmps64
      go_wp2
      go_ret
      exact ⟨by simp [W.within]; omega, rfl⟩
  · go_enter Try.func64, Try.ntmps64
    go_wp2
    go_ret
    exact ⟨by simp [W.within]; omega, rfl⟩

theorem lowest_any (n : Int) (h : 1 ≤ n) (w : World) :
    Calls Try.prog 65 #[.int .i64 n] w fun e w' => e = .returned (.int .u32 (W.lowest n)) ∧ w' = w := by
  by_cases h2 : 31 < n
  · go_enter Try.func65, Try.ntmps65
    go_wp2
    go_ret
    exact ⟨ret_int (by rw [W.lowest, if_pos h2]), rfl⟩
  · go_enter Try.func65, Try.ntmps65
    go_wp2
    go_ret
    exact ⟨ret_int (by rw [W.lowest, if_neg (by omega)]; simp), rfl⟩

theorem bits_any (x low n : Int) (w : World) :
    Calls Try.prog 58 #[.int .u32 x, .int .i64 low, .int .i64 n] w fun e w' => e = .returned (.int .u32 (W.bitsOf x low n)) ∧ ∃ k, w' = w.drewN k := by
  cases hw : W.within low n
  · have hb : W.bitsOf x low n = 0 := by rw [W.bitsOf, hw]; rfl
    go_enter Try.func58, Try.ntmps58
    go_wp2_with (go_at_call 64; refine (within_any _ _ _).mono ?_; rintro e w' ⟨rfl, rfl⟩)
    go_ret
    exact ⟨ret_int hb.symm, 0, rfl⟩
  · have h1 : 0 ≤ low ∧ low ≤ 31 ∧ 1 ≤ n := by simpa [W.within] using hw
    obtain ⟨h1, h2, h3⟩ := h1
    have hb : Hid (W.bitsOf x low n = bits .and .u32 (x / 2 ^ low.toNat) (W.lowest n)) := by
      have : W.bitsOf x low n = bits .and .u32 (x / 2 ^ low.toNat) (W.lowest n) := by rw [W.bitsOf, hw]; rfl
      exact this
    go_enter Try.func58, Try.ntmps58
    go_wp2_with (go_at_call 64; refine (within_any _ _ _).mono ?_; rintro e w' ⟨rfl, rfl⟩)
    go_quiet ((go_at_call 65; exact Calls.quiet_of_same (lowest_any _ h3 _)))
    go_wp2
    go_ret
    exact ⟨ret_int hb.out.symm, _, rfl⟩

theorem high_any (a b : Int) (s t : Bool) (w : World) :
    Calls Try.prog 53 #[.int .u32 a, .int .u32 b, .bool s, .bool t] w fun e w' => e = .returned (.int .u32 (W.high a b s t)) ∧ w = w' := by
  go_enter Try.func53, Try.ntmps53
  go_wp2_with (go_at_call 52; refine (wide_any _ _ _).mono ?_; rintro e w' ⟨rfl, rfl⟩)
  go_ret
  exact ⟨rfl, rfl⟩

theorem div_any (a b : Int) (s : Bool) (h0 : 0 ≤ b) (h1 : b < 4294967296) (w : World) :
    Calls Try.prog 54 #[.int .u32 a, .int .u32 b, .bool s] w fun e w' => e = .returned (.int .u32 (W.div a b s)) ∧ w = w' := by
  by_cases hb : b = 0
  · have hd : Hid (W.div a b s = 4294967295) := if_pos hb
    subst hb
    go_enter Try.func54, Try.ntmps54
    go_wp2
    go_ret
    exact ⟨ret_int hd.out.symm, rfl⟩
  · have hw := W.wide_ne b s h0 h1 hb
    have hd : Hid (W.div a b s = wrap64 ((W.wide a s).tdiv (W.wide b s)) % 4294967296) := if_neg hb
    have h : (b == 0) = false := by simpa using hb
    clear hb h0 h1
    go_enter Try.func54, Try.ntmps54
    go_wp2_with (go_at_call 52; refine (wide_any _ _ _).mono ?_; rintro e w' ⟨rfl, rfl⟩)
    go_ret
    exact ⟨ret_int hd.out.symm, rfl⟩

theorem rem_any (a b : Int) (s : Bool) (h0 : 0 ≤ b) (h1 : b < 4294967296) (w : World) :
    Calls Try.prog 55 #[.int .u32 a, .int .u32 b, .bool s] w fun e w' => e = .returned (.int .u32 (W.rem a b s)) ∧ w = w' := by
  by_cases hb : b = 0
  · have hd : Hid (W.rem a b s = a) := if_pos hb
    subst hb
    go_enter Try.func55, Try.ntmps55
    go_wp2
    go_ret
    exact ⟨ret_int hd.out.symm, rfl⟩
  · have hw := W.wide_ne b s h0 h1 hb
    have hd : Hid (W.rem a b s = (W.wide a s).tmod (W.wide b s) % 4294967296) := if_neg hb
    have h : (b == 0) = false := by simpa using hb
    clear hb h0 h1
    go_enter Try.func55, Try.ntmps55
    go_wp2_with (go_at_call 52; refine (wide_any _ _ _).mono ?_; rintro e w' ⟨rfl, rfl⟩)
    go_ret
    exact ⟨ret_int hd.out.symm, rfl⟩
end Go.Proofs.Ytheajilopplchab
