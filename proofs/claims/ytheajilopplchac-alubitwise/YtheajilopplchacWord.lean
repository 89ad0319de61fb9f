/- What each function of package word returns, as a plain function of its numbers: a contract a function. -/
import Derived.Test.YtheajilopplchacRows
import Derived.Test.YtheajilopplchacPlain
import Derived.WalkKit
import Derived.ProofKit
import Derived.OpenShut
import Derived.Deep.QuietTactic
import Derived.BigQuiet
namespace Go.Proofs.Ytheajilopplchac
open Go.ChangeShapes Go.WideShapes Go.ChangeAt Go.RowKit

theorem ret_int {k : IntKind} {a b : Int} (h : a = b) : Ending.returned (.int k a) = .returned (.int k b) := by rw [h]

theorem wide_any (a : Int) (s : Bool) (w : World) :
    Calls Try.prog 19 #[.int .u32 a, .bool s] w fun e w' => e = .returned (.int .i64 (W.wide a s)) ∧ w' = w := by
  cases s
  all_goals
    go_enter Try.func19, Try.ntmps19
    go_wp2
    go_ret
    exact ⟨rfl, rfl⟩

theorem less_any (a b : Int) (s : Bool) (w : World) :
    Calls Try.prog 10 #[.int .u32 a, .int .u32 b, .bool s] w fun e w' => e = .returned (.bool (W.less a b s)) ∧ w = w' := by
  go_enter Try.func10, Try.ntmps10
  go_wp2_with (go_at_call 19; refine (wide_any _ _ _).mono ?_; rintro e w' ⟨rfl, rfl⟩)
  go_ret
  exact ⟨rfl, rfl⟩

theorem right_any (a n : Int) (s : Bool) (w : World) :
    Calls Try.prog 11 #[.int .u32 a, .int .i64 n, .bool s] w fun e w' => e = .returned (.int .u32 (W.right a n s)) ∧ w = w' := by
  have hb := W.and31 n
  go_enter Try.func11, Try.ntmps11
  go_wp2_with (go_at_call 19; refine (wide_any _ _ _).mono ?_; rintro e w' ⟨rfl, rfl⟩)
  go_ret
  exact ⟨rfl, rfl⟩

theorem left_any (a n : Int) (w : World) :
    Calls Try.prog 8 #[.int .u32 a, .int .i64 n] w fun e w' => e = .returned (.int .u32 (W.left a n)) ∧ w = w' := by
  have hb := W.and31 n
  go_enter Try.func8, Try.ntmps8
  go_wp2
  go_ret
  exact ⟨rfl, rfl⟩

theorem sgn_any (a n : Int) (w : World) :
    Calls Try.prog 16 #[.int .u32 a, .int .i64 n] w fun e w' => e = .returned (.int .u32 (W.sgn a n)) ∧ w = w' := by
  by_cases h1 : n < 1
  · go_enter Try.func16, Try.ntmps16
    go_wp2
    go_ret
    exact ⟨ret_int (by rw [W.sgn, if_pos h1]), rfl⟩
  · by_cases h2 : 31 < n
    · go_enter Try.func16, Try.ntmps16
      go_wp2
      go_ret
      exact ⟨ret_int (by rw [W.sgn, if_neg (by omega), if_pos (by omega)]), rfl⟩
    · go_enter Try.func16, Try.ntmps16
      go_wp2
      go_ret
      exact ⟨ret_int (by rw [W.sgn, if_neg (by omega), if_neg (by omega)]), rfl⟩

theorem within_any (low n : Int) (w : World) :
    Calls Try.prog 26 #[.int .i64 low, .int .i64 n] w fun e w' => e = .returned (.bool (W.within low n)) ∧ w' = w := by
  by_cases h1 : 0 ≤ low
  · by_cases h2 : low ≤ 31
    · go_enter Try.func26, Try.ntmps26
      go_wp2
      go_ret
      exact ⟨by simp [W.within, h1, h2], rfl⟩
    · go_enter Try.func26, Try.ntmps26
      go_wp2
      go_ret
      exact ⟨by simp [W.within]; omega, rfl⟩
  · go_enter Try.func26, Try.ntmps26
    go_wp2
    go_ret
    exact ⟨by simp [W.within]; omega, rfl⟩

theorem lowest_any (n : Int) (h : 1 ≤ n) (w : World) :
    Calls Try.prog 27 #[.int .i64 n] w fun e w' => e = .returned (.int .u32 (W.lowest n)) ∧ w' = w := by
  by_cases h2 : 31 < n
  · go_enter Try.func27, Try.ntmps27
    go_wp2
    go_ret
    exact ⟨ret_int (by rw [W.lowest, if_pos h2]), rfl⟩
  · go_enter Try.func27, Try.ntmps27
    go_wp2
    go_ret
    exact ⟨ret_int (by rw [W.lowest, if_neg (by omega)]; simp), rfl⟩

theorem bits_any (x low n : Int) (w : World) :
    Calls Try.prog 25 #[.int .u32 x, .int .i64 low, .int .i64 n] w fun e w' => e = .returned (.int .u32 (W.bitsOf x low n)) ∧ ∃ k, w' = w.drewN k := by
  cases hw : W.within low n
  · have hb : W.bitsOf x low n = 0 := by rw [W.bitsOf, hw]; rfl
    go_enter Try.func25, Try.ntmps25
    go_wp2_with (go_at_call 26; refine (within_any _ _ _).mono ?_; rintro e w' ⟨rfl, rfl⟩)
    go_ret
    exact ⟨ret_int hb.symm, 0, rfl⟩
  · have h1 : 0 ≤ low ∧ low ≤ 31 ∧ 1 ≤ n := by simpa [W.within] using hw
    obtain ⟨h1, h2, h3⟩ := h1
    have hb : Hid (W.bitsOf x low n = bits .and .u32 (x / 2 ^ low.toNat) (W.lowest n)) := by
      have : W.bitsOf x low n = bits .and .u32 (x / 2 ^ low.toNat) (W.lowest n) := by rw [W.bitsOf, hw]; rfl
      exact this
    go_enter Try.func25, Try.ntmps25
    go_wp2_with (go_at_call 26; refine (within_any _ _ _).mono ?_; rintro e w' ⟨rfl, rfl⟩)
    go_quiet ((go_at_call 27; exact Calls.quiet_of_same (lowest_any _ h3 _)))
    go_wp2
    go_ret
    exact ⟨ret_int hb.out.symm, _, rfl⟩

theorem high_any (a b : Int) (s t : Bool) (w : World) :
    Calls Try.prog 20 #[.int .u32 a, .int .u32 b, .bool s, .bool t] w fun e w' => e = .returned (.int .u32 (W.high a b s t)) ∧ w = w' := by
  go_enter Try.func20, Try.ntmps20
  go_wp2_with (go_at_call 19; refine (wide_any _ _ _).mono ?_; rintro e w' ⟨rfl, rfl⟩)
  go_ret
  exact ⟨rfl, rfl⟩

theorem div_any (a b : Int) (s : Bool) (h0 : 0 ≤ b) (h1 : b < 4294967296) (w : World) :
    Calls Try.prog 21 #[.int .u32 a, .int .u32 b, .bool s] w fun e w' => e = .returned (.int .u32 (W.div a b s)) ∧ w = w' := by
  by_cases hb : b = 0
  · have hd : Hid (W.div a b s = 4294967295) := if_pos hb
    subst hb
    go_enter Try.func21, Try.ntmps21
    go_wp2
    go_ret
    exact ⟨ret_int hd.out.symm, rfl⟩
  · have hw := W.wide_ne b s h0 h1 hb
    have hd : Hid (W.div a b s = wrap64 ((W.wide a s).tdiv (W.wide b s)) % 4294967296) := if_neg hb
    have h : (b == 0) = false := by simpa using hb
    clear hb h0 h1
    go_enter Try.func21, Try.ntmps21
    go_wp2_with (go_at_call 19; refine (wide_any _ _ _).mono ?_; rintro e w' ⟨rfl, rfl⟩)
    go_ret
    exact ⟨ret_int hd.out.symm, rfl⟩

theorem rem_any (a b : Int) (s : Bool) (h0 : 0 ≤ b) (h1 : b < 4294967296) (w : World) :
    Calls Try.prog 22 #[.int .u32 a, .int .u32 b, .bool s] w fun e w' => e = .returned (.int .u32 (W.rem a b s)) ∧ w = w' := by
  by_cases hb : b = 0
  · have hd : Hid (W.rem a b s = a) := if_pos hb
    subst hb
    go_enter Try.func22, Try.ntmps22
    go_wp2
    go_ret
    exact ⟨ret_int hd.out.symm, rfl⟩
  · have hw := W.wide_ne b s h0 h1 hb
    have hd : Hid (W.rem a b s = (W.wide a s).tmod (W.wide b s) % 4294967296) := if_neg hb
    have h : (b == 0) = false := by simpa using hb
    clear hb h0 h1
    go_enter Try.func22, Try.ntmps22
    go_wp2_with (go_at_call 19; refine (wide_any _ _ _).mono ?_; rintro e w' ⟨rfl, rfl⟩)
    go_ret
    exact ⟨ret_int hd.out.symm, rfl⟩
end Go.Proofs.Ytheajilopplchac
