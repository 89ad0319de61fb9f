/- AluLess, walked: it returns true, whatever the words. -/
import Derived.Test.YtheajilopplchabFirst4
namespace Go.Proofs.Ytheajilopplchab
open Go.ChangeShapes Go.WideShapes Go.ChangeAt Go.RowKit
set_option linter.unusedVariables false
set_option linter.unusedSimpArgs false

set_option maxHeartbeats 1600000 in
theorem aluless_walk (a b : Int) (a0 : 0 ≤ a) (a1 : a < 4294967296) (b0 : 0 ≤ b) (b1 : b < 4294967296) (w : World) :
    Calls Try.prog 8 #[.int .u32 a, .int .u32 b] w fun e w' => e = .returned (.bool true) ∧ Below w.heap.size w w' := by
  have hb : Below w.heap.size w w := Below.refl _ _
  have d0 : 0 ≤ (a - b) % 4294967296 := by omega
  have d1 : (a - b) % 4294967296 < 4294967296 := by omega
  have o0 : W.one false = 0 := rfl
  have o1 : W.one true = 1 := rfl
  have lf := W.less_f a b a0 a1 b0 b1
  have lt := W.less_t a b a0 a1 b0 b1
  have hz : ((a - b) % 4294967296 == 0) = (a == b) := by
    by_cases h : a = b
    · subst h; simp
    · rw [beq_eq_false_iff_ne.2 h, beq_eq_false_iff_ne]; omega
  have hov := W.and_lt (bits .xor .u32 a b) (bits .xor .u32 a ((a - b) % 4294967296))
  have h31 := W.div31 _ d0 d1
  have h31' := W.div31 _ hov.1 hov.2
  rw [W.over] at lt
  rw [← h31, ← h31'] at lt
  clear h31 h31' hov
  generalize ho : bits .and .u32 (bits .xor .u32 a b) (bits .xor .u32 a ((a - b) % 4294967296)) / 2147483648 = o at lt
  generalize hd : (a - b) % 4294967296 / 2147483648 = d at lt
  have hO : (o == 1) = ((d == 1) != W.less a b true) := by rw [lt]; cases (d == 1) <;> cases (o == 1) <;> rfl
  clear lt
  cases hL : W.less a b false <;> cases hT : W.less a b true <;> cases hq : (a == b) <;> cases hD : (d == 1) <;> rw [hL] at lf <;> rw [hT, hD] at hO
  all_goals
    first | have hO' : (o == 1) = true := hO | have hO' : (o == 1) = false := hO
    clear hO
    rw [hq] at hz
    have LF := lf.symm
    clear lf
    go_enter Try.func8, Try.ntmps8
    go_wp2_with (first
      | (go_at_call 9; refine (first4_any _).mono ?_; clear hb; rintro e w1 ⟨rfl, hb⟩)
      | (go_at_call_of 10 (Value.int IntKind.i64 32); refine (do_32 a b a0 a1 b0 b1 _).mono ?_; rintro e w' ⟨rfl, rfl⟩)
      | (go_at_call_of 10 (Value.int IntKind.i64 31); refine (do_31 a b a0 a1 b0 b1 _).mono ?_; rintro e w' ⟨rfl, rfl⟩)
      | (go_at_call_of 10 (Value.int IntKind.i64 29); refine (do_29 a b a0 a1 b0 b1 _).mono ?_; rintro e w' ⟨rfl, rfl⟩)
      | (go_at_call_of 12 (Value.int IntKind.i64 9); refine (tak_9 a b a0 a1 b0 b1 _).mono ?_; rintro e w' ⟨rfl, rfl⟩)
      | (go_at_call_of 12 (Value.int IntKind.i64 7); refine (tak_7 a b a0 a1 b0 b1 _).mono ?_; rintro e w' ⟨rfl, rfl⟩)
      | (go_at_call_of 12 (Value.int IntKind.i64 5); refine (tak_5 a b a0 a1 b0 b1 _).mono ?_; rintro e w' ⟨rfl, rfl⟩))
    go_ret
    exact ⟨rfl, hb⟩

end Go.Proofs.Ytheajilopplchab
