/- WordDivides, walked: it returns true, whatever the two words. -/
import Derived.Test.YthnifmcemmaeeaaPack
import Derived.Test.YthnifmcemmaeeaaMath3
namespace Go.Proofs.Ythnifmcemmaeeaa
open Go.ChangeShapes Go.WideShapes Go.ChangeAt Go.RowKit
set_option linter.unusedVariables false

theorem divides_walk0 (a : Int) (a0 : 0 ≤ a) (a1 : a < 4294967296) (w : World) :
    Calls Try.prog 5 #[.int .u32 a, .int .u32 0] w fun e w' => e = .returned (.bool true) ∧ Below w.heap.size w w' := by
  have d1 : ∀ s, W.div a 0 s = 4294967295 := fun s => if_pos rfl
  have d2 : ∀ s, W.rem a 0 s = a := fun s => if_pos rfl
  go_enter Try.func5, Try.ntmps5
  go_wp2_with (first | (go_at_call 9; refine (first_any _).mono ?_; rintro e w1 ⟨rfl, hw1⟩) | (go_at_call 16; refine (div_any _ _ _ (by decide) (by decide) _).mono ?_; rintro e w' ⟨rfl, rfl⟩) | (go_at_call 18; refine (rem_any _ _ _ (by decide) (by decide) _).mono ?_; rintro e w' ⟨rfl, rfl⟩))
  go_ret
  exact ⟨rfl, hw1⟩
set_option maxRecDepth 100000 in
theorem divides_walk1 (a b : Int) (a0 : 0 ≤ a) (a1 : a < 4294967296) (b0 : 0 ≤ b) (b1 : b < 4294967296) (hb : ¬ b = 0) (hs : W.less a 0 true = false) (ht : W.less b 0 true = false) (w : World) :
    Calls Try.prog 5 #[.int .u32 a, .int .u32 b] w fun e w' => e = .returned (.bool true) ∧ Below w.heap.size w w' := by
  have x1 := W.and16 a a0 a1
  have x2 := W.and16 b b0 b1
  have x3 := W.and16 (W.mid a b) (W.mid_lt a b).1 (W.mid_lt a b).2
  have m1 : (a / 65536 * (b % 65536) + a % 65536 * (b % 65536) % 4294967296 / 65536) % 4294967296 = W.mid a b := rfl
  have m2 : (W.mid a b % 65536 + a % 65536 * (b / 65536)) % 4294967296 = W.lowp a b := rfl
  have m3 : (a / 65536 * (b / 65536) + W.mid a b / 65536 + W.lowp a b / 65536) % 4294967296 = W.highp a b := rfl
  have hb' : (b == 0) = false := by simpa using hb
  have f1 : ((W.div a b false * b + W.rem a b false) % 4294967296 != a) = false := by rw [W.div_rem a b false a0 a1 b0 b1 hb]; simp
  have f2 : ((W.div a b true * b + W.rem a b true) % 4294967296 != a) = false := by rw [W.div_rem a b true a0 a1 b0 b1 hb]; simp
  have f3 : W.rem a b false < b := W.rem_lt a b a0 a1 b0 b1 hb
  have f4 : (W.high a b false false == W.highp a b) = true := by rw [W.high_ff a b a0 a1 b0 b1]; simp
  have g1 := W.high_tf a b a0 a1 b0 b1
  have g2 := W.high_tt a b a0 a1 b0 b1
  have hl : 0 ≤ W.highp a b ∧ W.highp a b < 4294967296 := by unfold W.highp; omega
  have ks : ¬ 2147483648 ≤ a := by rw [W.less_zero a a0 a1] at hs; simpa using hs
  have kt : ¬ 2147483648 ≤ b := by rw [W.less_zero b b0 b1] at ht; simpa using ht
  rw [if_neg ks] at g1 g2
  rw [if_neg kt] at g2
  have f5 : (W.high a b true false == W.highp a b) = true := by rw [g1]; simp
  have f6 : (W.high a b true true == W.highp a b) = true := by rw [g2]; simp; try omega
  by_cases hr : W.rem a b true = 0
  · have hr' : (W.rem a b true != 0) = false := by simpa using hr
    clear hr g1 g2 hl ks kt
    go_enter Try.func5, Try.ntmps5
    go_wp2_with (first | (go_at_call 9; refine (first_any _).mono ?_; rintro e w1 ⟨rfl, hw1⟩) | (go_at_call 16; refine (div_any _ _ _ b0 b1 _).mono ?_; rintro e w' ⟨rfl, rfl⟩) | (go_at_call 18; refine (rem_any _ _ _ b0 b1 _).mono ?_; rintro e w' ⟨rfl, rfl⟩) | (go_at_call 20; refine (less_any _ _ _ _).mono ?_; rintro e w' ⟨rfl, rfl⟩) | (go_at_call 14; refine (high_any _ _ _ _ _).mono ?_; rintro e w' ⟨rfl, rfl⟩))
    go_ret
    exact ⟨rfl, hw1⟩
  · have hr' : (W.rem a b true != 0) = true := by simpa using hr
    have hq : W.less (W.rem a b true) 0 true = false := by rw [W.rem_sign a b a0 a1 b0 b1 hb hr]; exact hs
    clear hr g1 g2 hl ks kt
    go_enter Try.func5, Try.ntmps5
    go_wp2_with (first | (go_at_call 9; refine (first_any _).mono ?_; rintro e w1 ⟨rfl, hw1⟩) | (go_at_call 16; refine (div_any _ _ _ b0 b1 _).mono ?_; rintro e w' ⟨rfl, rfl⟩) | (go_at_call 18; refine (rem_any _ _ _ b0 b1 _).mono ?_; rintro e w' ⟨rfl, rfl⟩) | (go_at_call 20; refine (less_any _ _ _ _).mono ?_; rintro e w' ⟨rfl, rfl⟩) | (go_at_call 14; refine (high_any _ _ _ _ _).mono ?_; rintro e w' ⟨rfl, rfl⟩))
    go_ret
    exact ⟨rfl, hw1⟩
set_option maxRecDepth 100000 in
theorem divides_walk2 (a b : Int) (a0 : 0 ≤ a) (a1 : a < 4294967296) (b0 : 0 ≤ b) (b1 : b < 4294967296) (hb : ¬ b = 0) (hs : W.less a 0 true = false) (ht : W.less b 0 true = true) (w : World) :
    Calls Try.prog 5 #[.int .u32 a, .int .u32 b] w fun e w' => e = .returned (.bool true) ∧ Below w.heap.size w w' := by
  have x1 := W.and16 a a0 a1
  have x2 := W.and16 b b0 b1
  have x3 := W.and16 (W.mid a b) (W.mid_lt a b).1 (W.mid_lt a b).2
  have m1 : (a / 65536 * (b % 65536) + a % 65536 * (b % 65536) % 4294967296 / 65536) % 4294967296 = W.mid a b := rfl
  have m2 : (W.mid a b % 65536 + a % 65536 * (b / 65536)) % 4294967296 = W.lowp a b := rfl
  have m3 : (a / 65536 * (b / 65536) + W.mid a b / 65536 + W.lowp a b / 65536) % 4294967296 = W.highp a b := rfl
  have hb' : (b == 0) = false := by simpa using hb
  have f1 : ((W.div a b false * b + W.rem a b false) % 4294967296 != a) = false := by rw [W.div_rem a b false a0 a1 b0 b1 hb]; simp
  have f2 : ((W.div a b true * b + W.rem a b true) % 4294967296 != a) = false := by rw [W.div_rem a b true a0 a1 b0 b1 hb]; simp
  have f3 : W.rem a b false < b := W.rem_lt a b a0 a1 b0 b1 hb
  have f4 : (W.high a b false false == W.highp a b) = true := by rw [W.high_ff a b a0 a1 b0 b1]; simp
  have g1 := W.high_tf a b a0 a1 b0 b1
  have g2 := W.high_tt a b a0 a1 b0 b1
  have hl : 0 ≤ W.highp a b ∧ W.highp a b < 4294967296 := by unfold W.highp; omega
  have ks : ¬ 2147483648 ≤ a := by rw [W.less_zero a a0 a1] at hs; simpa using hs
  have kt : 2147483648 ≤ b := by rw [W.less_zero b b0 b1] at ht; simpa using ht
  rw [if_neg ks] at g1 g2
  rw [if_pos kt] at g2
  have f5 : (W.high a b true false == W.highp a b) = true := by rw [g1]; simp
  have f6 : (W.high a b true true == (W.highp a b - a) % 4294967296) = true := by rw [g2]; simp; try omega
  by_cases hr : W.rem a b true = 0
  · have hr' : (W.rem a b true != 0) = false := by simpa using hr
    clear hr g1 g2 hl ks kt
    go_enter Try.func5, Try.ntmps5
    go_wp2_with (first | (go_at_call 9; refine (first_any _).mono ?_; rintro e w1 ⟨rfl, hw1⟩) | (go_at_call 16; refine (div_any _ _ _ b0 b1 _).mono ?_; rintro e w' ⟨rfl, rfl⟩) | (go_at_call 18; refine (rem_any _ _ _ b0 b1 _).mono ?_; rintro e w' ⟨rfl, rfl⟩) | (go_at_call 20; refine (less_any _ _ _ _).mono ?_; rintro e w' ⟨rfl, rfl⟩) | (go_at_call 14; refine (high_any _ _ _ _ _).mono ?_; rintro e w' ⟨rfl, rfl⟩))
    go_ret
    exact ⟨rfl, hw1⟩
  · have hr' : (W.rem a b true != 0) = true := by simpa using hr
    have hq : W.less (W.rem a b true) 0 true = false := by rw [W.rem_sign a b a0 a1 b0 b1 hb hr]; exact hs
    clear hr g1 g2 hl ks kt
    go_enter Try.func5, Try.ntmps5
    go_wp2_with (first | (go_at_call 9; refine (first_any _).mono ?_; rintro e w1 ⟨rfl, hw1⟩) | (go_at_call 16; refine (div_any _ _ _ b0 b1 _).mono ?_; rintro e w' ⟨rfl, rfl⟩) | (go_at_call 18; refine (rem_any _ _ _ b0 b1 _).mono ?_; rintro e w' ⟨rfl, rfl⟩) | (go_at_call 20; refine (less_any _ _ _ _).mono ?_; rintro e w' ⟨rfl, rfl⟩) | (go_at_call 14; refine (high_any _ _ _ _ _).mono ?_; rintro e w' ⟨rfl, rfl⟩))
    go_ret
    exact ⟨rfl, hw1⟩
set_option maxRecDepth 100000 in
theorem divides_walk3 (a b : Int) (a0 : 0 ≤ a) (a1 : a < 4294967296) (b0 : 0 ≤ b) (b1 : b < 4294967296) (hb : ¬ b = 0) (hs : W.less a 0 true = true) (ht : W.less b 0 true = false) (w : World) :
    Calls Try.prog 5 #[.int .u32 a, .int .u32 b] w fun e w' => e = .returned (.bool true) ∧ Below w.heap.size w w' := by
  have x1 := W.and16 a a0 a1
  have x2 := W.and16 b b0 b1
  have x3 := W.and16 (W.mid a b) (W.mid_lt a b).1 (W.mid_lt a b).2
  have m1 : (a / 65536 * (b % 65536) + a % 65536 * (b % 65536) % 4294967296 / 65536) % 4294967296 = W.mid a b := rfl
  have m2 : (W.mid a b % 65536 + a % 65536 * (b / 65536)) % 4294967296 = W.lowp a b := rfl
  have m3 : (a / 65536 * (b / 65536) + W.mid a b / 65536 + W.lowp a b / 65536) % 4294967296 = W.highp a b := rfl
  have hb' : (b == 0) = false := by simpa using hb
  have f1 : ((W.div a b false * b + W.rem a b false) % 4294967296 != a) = false := by rw [W.div_rem a b false a0 a1 b0 b1 hb]; simp
  have f2 : ((W.div a b true * b + W.rem a b true) % 4294967296 != a) = false := by rw [W.div_rem a b true a0 a1 b0 b1 hb]; simp
  have f3 : W.rem a b false < b := W.rem_lt a b a0 a1 b0 b1 hb
  have f4 : (W.high a b false false == W.highp a b) = true := by rw [W.high_ff a b a0 a1 b0 b1]; simp
  have g1 := W.high_tf a b a0 a1 b0 b1
  have g2 := W.high_tt a b a0 a1 b0 b1
  have hl : 0 ≤ W.highp a b ∧ W.highp a b < 4294967296 := by unfold W.highp; omega
  have ks : 2147483648 ≤ a := by rw [W.less_zero a a0 a1] at hs; simpa using hs
  have kt : ¬ 2147483648 ≤ b := by rw [W.less_zero b b0 b1] at ht; simpa using ht
  rw [if_pos ks] at g1 g2
  rw [if_neg kt] at g2
  have f5 : (W.high a b true false == (W.highp a b - b) % 4294967296) = true := by rw [g1]; simp
  have f6 : (W.high a b true true == (W.highp a b - b) % 4294967296) = true := by rw [g2]; simp; try omega
  by_cases hr : W.rem a b true = 0
  · have hr' : (W.rem a b true != 0) = false := by simpa using hr
    clear hr g1 g2 hl ks kt
    go_enter Try.func5, Try.ntmps5
    go_wp2_with (first | (go_at_call 9; refine (first_any _).mono ?_; rintro e w1 ⟨rfl, hw1⟩) | (go_at_call 16; refine (div_any _ _ _ b0 b1 _).mono ?_; rintro e w' ⟨rfl, rfl⟩) | (go_at_call 18; refine (rem_any _ _ _ b0 b1 _).mono ?_; rintro e w' ⟨rfl, rfl⟩) | (go_at_call 20; refine (less_any _ _ _ _).mono ?_; rintro e w' ⟨rfl, rfl⟩) | (go_at_call 14; refine (high_any _ _ _ _ _).mono ?_; rintro e w' ⟨rfl, rfl⟩))
    go_ret
    exact ⟨rfl, hw1⟩
  · have hr' : (W.rem a b true != 0) = true := by simpa using hr
    have hq : W.less (W.rem a b true) 0 true = true := by rw [W.rem_sign a b a0 a1 b0 b1 hb hr]; exact hs
    clear hr g1 g2 hl ks kt
    go_enter Try.func5, Try.ntmps5
    go_wp2_with (first | (go_at_call 9; refine (first_any _).mono ?_; rintro e w1 ⟨rfl, hw1⟩) | (go_at_call 16; refine (div_any _ _ _ b0 b1 _).mono ?_; rintro e w' ⟨rfl, rfl⟩) | (go_at_call 18; refine (rem_any _ _ _ b0 b1 _).mono ?_; rintro e w' ⟨rfl, rfl⟩) | (go_at_call 20; refine (less_any _ _ _ _).mono ?_; rintro e w' ⟨rfl, rfl⟩) | (go_at_call 14; refine (high_any _ _ _ _ _).mono ?_; rintro e w' ⟨rfl, rfl⟩))
    go_ret
    exact ⟨rfl, hw1⟩
set_option maxRecDepth 100000 in
theorem divides_walk4 (a b : Int) (a0 : 0 ≤ a) (a1 : a < 4294967296) (b0 : 0 ≤ b) (b1 : b < 4294967296) (hb : ¬ b = 0) (hs : W.less a 0 true = true) (ht : W.less b 0 true = true) (w : World) :
    Calls Try.prog 5 #[.int .u32 a, .int .u32 b] w fun e w' => e = .returned (.bool true) ∧ Below w.heap.size w w' := by
  have x1 := W.and16 a a0 a1
  have x2 := W.and16 b b0 b1
  have x3 := W.and16 (W.mid a b) (W.mid_lt a b).1 (W.mid_lt a b).2
  have m1 : (a / 65536 * (b % 65536) + a % 65536 * (b % 65536) % 4294967296 / 65536) % 4294967296 = W.mid a b := rfl
  have m2 : (W.mid a b % 65536 + a % 65536 * (b / 65536)) % 4294967296 = W.lowp a b := rfl
  have m3 : (a / 65536 * (b / 65536) + W.mid a b / 65536 + W.lowp a b / 65536) % 4294967296 = W.highp a b := rfl
  have hb' : (b == 0) = false := by simpa using hb
  have f1 : ((W.div a b false * b + W.rem a b false) % 4294967296 != a) = false := by rw [W.div_rem a b false a0 a1 b0 b1 hb]; simp
  have f2 : ((W.div a b true * b + W.rem a b true) % 4294967296 != a) = false := by rw [W.div_rem a b true a0 a1 b0 b1 hb]; simp
  have f3 : W.rem a b false < b := W.rem_lt a b a0 a1 b0 b1 hb
  have f4 : (W.high a b false false == W.highp a b) = true := by rw [W.high_ff a b a0 a1 b0 b1]; simp
  have g1 := W.high_tf a b a0 a1 b0 b1
  have g2 := W.high_tt a b a0 a1 b0 b1
  have hl : 0 ≤ W.highp a b ∧ W.highp a b < 4294967296 := by unfold W.highp; omega
  have ks : 2147483648 ≤ a := by rw [W.less_zero a a0 a1] at hs; simpa using hs
  have kt : 2147483648 ≤ b := by rw [W.less_zero b b0 b1] at ht; simpa using ht
  rw [if_pos ks] at g1 g2
  rw [if_pos kt] at g2
  have f5 : (W.high a b true false == (W.highp a b - b) % 4294967296) = true := by rw [g1]; simp
  have f6 : (W.high a b true true == (W.highp a b - b - a) % 4294967296) = true := by rw [g2]; simp; try omega
  by_cases hr : W.rem a b true = 0
  · have hr' : (W.rem a b true != 0) = false := by simpa using hr
    clear hr g1 g2 hl ks kt
    go_enter Try.func5, Try.ntmps5
    go_wp2_with (first | (go_at_call 9; refine (first_any _).mono ?_; rintro e w1 ⟨rfl, hw1⟩) | (go_at_call 16; refine (div_any _ _ _ b0 b1 _).mono ?_; rintro e w' ⟨rfl, rfl⟩) | (go_at_call 18; refine (rem_any _ _ _ b0 b1 _).mono ?_; rintro e w' ⟨rfl, rfl⟩) | (go_at_call 20; refine (less_any _ _ _ _).mono ?_; rintro e w' ⟨rfl, rfl⟩) | (go_at_call 14; refine (high_any _ _ _ _ _).mono ?_; rintro e w' ⟨rfl, rfl⟩))
    go_ret
    exact ⟨rfl, hw1⟩
  · have hr' : (W.rem a b true != 0) = true := by simpa using hr
    have hq : W.less (W.rem a b true) 0 true = true := by rw [W.rem_sign a b a0 a1 b0 b1 hb hr]; exact hs
    clear hr g1 g2 hl ks kt
    go_enter Try.func5, Try.ntmps5
    go_wp2_with (first | (go_at_call 9; refine (first_any _).mono ?_; rintro e w1 ⟨rfl, hw1⟩) | (go_at_call 16; refine (div_any _ _ _ b0 b1 _).mono ?_; rintro e w' ⟨rfl, rfl⟩) | (go_at_call 18; refine (rem_any _ _ _ b0 b1 _).mono ?_; rintro e w' ⟨rfl, rfl⟩) | (go_at_call 20; refine (less_any _ _ _ _).mono ?_; rintro e w' ⟨rfl, rfl⟩) | (go_at_call 14; refine (high_any _ _ _ _ _).mono ?_; rintro e w' ⟨rfl, rfl⟩))
    go_ret
    exact ⟨rfl, hw1⟩
theorem divides_walk (a b : Int) (a0 : 0 ≤ a) (a1 : a < 4294967296) (b0 : 0 ≤ b) (b1 : b < 4294967296) (w : World) :
    Calls Try.prog 5 #[.int .u32 a, .int .u32 b] w fun e w' => e = .returned (.bool true) ∧ Below w.heap.size w w' := by
  by_cases hb : b = 0
  · subst hb; exact divides_walk0 a a0 a1 w
  · cases hs : W.less a 0 true
    · cases ht : W.less b 0 true
      · exact divides_walk1 a b a0 a1 b0 b1 hb hs ht w
      · exact divides_walk2 a b a0 a1 b0 b1 hb hs ht w
    · cases ht : W.less b 0 true
      · exact divides_walk3 a b a0 a1 b0 b1 hb hs ht w
      · exact divides_walk4 a b a0 a1 b0 b1 hb hs ht w
end Go.Proofs.Ythnifmcemmaeeaa
