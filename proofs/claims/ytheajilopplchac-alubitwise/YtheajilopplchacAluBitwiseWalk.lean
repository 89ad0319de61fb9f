/- AluBitwise, walked: it returns true, whatever the words. -/
import Derived.Test.YtheajilopplchacFirst4
namespace Go.Proofs.Ytheajilopplchac
open Go.ChangeShapes Go.WideShapes Go.ChangeAt Go.RowKit
set_option linter.unusedVariables false
set_option linter.unusedSimpArgs false

set_option maxRecDepth 100000 in
set_option maxHeartbeats 1600000 in
theorem alubitwise_walk (a b : Int) (a0 : 0 ≤ a) (a1 : a < 4294967296) (b0 : 0 ≤ b) (b1 : b < 4294967296) (w : World) :
    Calls Try.prog 3 #[.int .u32 a, .int .u32 b] w fun e w' => e = .returned (.bool true) ∧ Below w.heap.size w w' := by
  have hb : Below w.heap.size w w := Below.refl _ _
  have hsum : ((bits .and .u32 a b + bits .or .u32 a b) % 4294967296 == (a + b) % 4294967296) = true := by
    rw [W.and_or a b a0 a1 b0 b1]; simp
  go_enter Try.func3, Try.ntmps3
  go_wp2_with (first
      | (go_at_call 4; refine (first4_any _).mono ?_; clear hb; rintro e w1 ⟨rfl, hb⟩)
      | (go_at_call_of 5 (Value.int IntKind.i64 37); refine (do_37 a b a0 a1 b0 b1 _).mono ?_; rintro e w' ⟨rfl, rfl⟩)
      | (go_at_call_of 5 (Value.int IntKind.i64 36); refine (do_36 a b a0 a1 b0 b1 _).mono ?_; rintro e w' ⟨rfl, rfl⟩)
      | (go_at_call_of 5 (Value.int IntKind.i64 33); refine (do_33 a b a0 a1 b0 b1 _).mono ?_; rintro e w' ⟨rfl, rfl⟩)
      | (go_at_call_of 6 (Value.int IntKind.i64 64); refine (amo_64 a b a0 a1 b0 b1 _).mono ?_; rintro e w' ⟨rfl, rfl⟩)
      | (go_at_call_of 6 (Value.int IntKind.i64 65); refine (amo_65 a b a0 a1 b0 b1 _).mono ?_; rintro e w' ⟨rfl, rfl⟩)
      | (go_at_call_of 6 (Value.int IntKind.i64 63); refine (amo_63 a b a0 a1 b0 b1 _).mono ?_; rintro e w' ⟨rfl, rfl⟩)
      | (go_at_call_of 6 (Value.int IntKind.i64 61); refine (amo_61 a b a0 a1 b0 b1 _).mono ?_; rintro e w' ⟨rfl, rfl⟩))
  go_loopw [20] (fun i wr => ∃ j : Nat, j ≤ 32 ∧ i = .int .i64 j ∧ wr = w1) (fun i _ => (32 - intOf i).toNat)
  case atStart => exact ⟨0, by omega, rfl, rfl⟩
  case round =>
    obtain ⟨j, hj, rfl, rfl⟩ := hrel
    by_cases hlt : j < 32
    · have pa := W.bit_at a a0 a1 j
      have pb := W.bit_at b b0 b1 j
      have pn := W.bit_at _ (W.and_lt a b).1 (W.and_lt a b).2 j
      have po := W.bit_at _ (W.or_lt a b).1 (W.or_lt a b).2 j
      have px := W.bit_at _ (W.xor_lt a b).1 (W.xor_lt a b).2 j
      rw [W.tb_and a b j a0 a1 b0 b1] at pn
      rw [W.tb_or a b j a0 a1 b0 b1] at po
      rw [W.tb_xor a b j a0 a1 b0 b1] at px
      cases ha : W.tb a j <;> cases hB : W.tb b j <;> rw [ha] at pa pn po px <;> rw [hB] at pb pn po px <;> simp only [Bool.and_true, Bool.and_false, Bool.or_true, Bool.or_false, Bool.xor_true, Bool.xor_false, Bool.not_true, Bool.not_false, if_true, if_false, Bool.false_eq_true, ite_true, ite_false] at pa pb pn po px
      all_goals
        go_wp2
        go_roundw
        case rel => exact ⟨j + 1, by omega, by go_num, trivial⟩
        case measure => simp [intOf]; omega
    · have hj32 : j = 32 := by omega
      subst hj32
      go_wp2
      go_ret
      exact ⟨rfl, hb⟩
end Go.Proofs.Ytheajilopplchac
