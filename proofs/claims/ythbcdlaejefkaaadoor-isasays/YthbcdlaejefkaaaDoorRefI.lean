/- What the document's reg and imm return. -/
import Derived.Test.YthbcdlaejefkaaaDoorRowsB
import Derived.Test.YthbcdlaejefkaaaDoorRef2
namespace Go.Proofs.YthbcdlaejefkaaaDoor
open Go.ChangeShapes Go.WideShapes Go.ChangeAt Go.RowKit
set_option linter.unusedVariables false
set_option linter.unusedSimpArgs false

theorem reg_any (n : Int) (w : World) : Calls Tryd.prog 36 #[.int .i64 n] w fun e w' => e = .returned (.bool (W.fr 0 n 31)) ∧ w = w' := by
  by_cases h1 : 0 ≤ n
  · go_enter Tryd.func36, Tryd.ntmps36
    go_wp2
    go_ret
    exact ⟨by simp [W.fr, h1], rfl⟩
  · go_enter Tryd.func36, Tryd.ntmps36
    go_wp2
    go_ret
    exact ⟨by simp [W.fr]; omega, rfl⟩

namespace W
/-- The document's immediates, by a row's letter. -/
def rimm (f x : Int) : Int := bif f == 90 then bitsOf x 20 5 else bif f == 67 then bitsOf x 15 5 else bif f == 70 then bitsOf x 20 8 else imm f x
def rlayV (f v : Int) : Int := bif f == 0 then 0 else bif f == 90 then v * 1048576 % 4294967296 else bif f == 67 then v * 32768 % 4294967296 else bif f == 70 then v * 1048576 % 4294967296 else layV f v
def rlayB (f v : Int) : Bool := bif f == 0 then v == 0 else bif f == 90 then decide (v < 32) else bif f == 67 then decide (v < 32) else bif f == 70 then decide (v < 256) else layB f v
end W

theorem imm_90 (x : Int) (w : World) (x0 : 0 ≤ x) (x1 : x < 4294967296) : Calls Tryd.prog 28 #[.int .u8 90, .int .u32 x] w fun e w' => e = .returned (.int .u32 (W.bitsOf x 20 5)) ∧ w = w' := by
  go_enter Tryd.func28, Tryd.ntmps28
  go_wp2_with (go_at_call 27; refine (rbits_any _ _ _ _ x0 x1).mono ?_; rintro e w' ⟨rfl, rfl⟩)
  go_ret
  exact ⟨rfl, rfl⟩

theorem imm_67 (x : Int) (w : World) (x0 : 0 ≤ x) (x1 : x < 4294967296) : Calls Tryd.prog 28 #[.int .u8 67, .int .u32 x] w fun e w' => e = .returned (.int .u32 (W.bitsOf x 15 5)) ∧ w = w' := by
  go_enter Tryd.func28, Tryd.ntmps28
  go_wp2_with (go_at_call 27; refine (rbits_any _ _ _ _ x0 x1).mono ?_; rintro e w' ⟨rfl, rfl⟩)
  go_ret
  exact ⟨rfl, rfl⟩

theorem imm_70 (x : Int) (w : World) (x0 : 0 ≤ x) (x1 : x < 4294967296) : Calls Tryd.prog 28 #[.int .u8 70, .int .u32 x] w fun e w' => e = .returned (.int .u32 (W.bitsOf x 20 8)) ∧ w = w' := by
  go_enter Tryd.func28, Tryd.ntmps28
  go_wp2_with (go_at_call 27; refine (rbits_any _ _ _ _ x0 x1).mono ?_; rintro e w' ⟨rfl, rfl⟩)
  go_ret
  exact ⟨rfl, rfl⟩

theorem imml_any (f x : Int) (w : World) (x0 : 0 ≤ x) (x1 : x < 4294967296) : Calls Tryd.prog 28 #[.int .u8 f, .int .u32 x] w fun e w' => e = .returned (.int .u32 (W.rimm f x)) ∧ w = w' := by
  cases h0 : (f == 90)
  case true => obtain rfl := beq_iff_eq.1 h0; exact imm_90 x w x0 x1
  cases h1 : (f == 67)
  case true => obtain rfl := beq_iff_eq.1 h1; exact imm_67 x w x0 x1
  cases h2 : (f == 70)
  case true => obtain rfl := beq_iff_eq.1 h2; exact imm_70 x w x0 x1
  have hv : Hid (W.rimm f x = W.imm f x) := (by rw [W.rimm, h0, h1, h2]; rfl : W.rimm f x = W.imm f x)
  go_enter Tryd.func28, Tryd.ntmps28
  go_wp2_with (go_at_call 48; refine (rimm_any _ _ _ x0 x1).mono ?_; rintro e w' ⟨rfl, rfl⟩)
  go_ret
  exact ⟨ret_int hv.out.symm, rfl⟩

theorem lay_0 (v : Int) (w : World) : Calls Tryd.prog 35 #[.int .u8 0, .int .u32 v] w fun e w' => e = .returned (.tuple #[.int .u32 (0), .bool (v == 0)]) ∧ w = w' := by
  go_enter Tryd.func35, Tryd.ntmps35
  go_wp2
  exact bodyPost_ret (v := .tuple #[.int .u32 (0), .bool (v == 0)]) (by simp [results, Tryd.results35, go_sem]) rfl ⟨rfl, rfl⟩

theorem lay_90 (v : Int) (w : World) : Calls Tryd.prog 35 #[.int .u8 90, .int .u32 v] w fun e w' => e = .returned (.tuple #[.int .u32 (v * 1048576 % 4294967296), .bool (decide (v < 32))]) ∧ w = w' := by
  go_enter Tryd.func35, Tryd.ntmps35
  go_wp2
  exact bodyPost_ret (v := .tuple #[.int .u32 (v * 1048576 % 4294967296), .bool (decide (v < 32))]) (by simp [results, Tryd.results35, go_sem]) rfl ⟨rfl, rfl⟩

theorem lay_67 (v : Int) (w : World) : Calls Tryd.prog 35 #[.int .u8 67, .int .u32 v] w fun e w' => e = .returned (.tuple #[.int .u32 (v * 32768 % 4294967296), .bool (decide (v < 32))]) ∧ w = w' := by
  go_enter Tryd.func35, Tryd.ntmps35
  go_wp2
  exact bodyPost_ret (v := .tuple #[.int .u32 (v * 32768 % 4294967296), .bool (decide (v < 32))]) (by simp [results, Tryd.results35, go_sem]) rfl ⟨rfl, rfl⟩

theorem lay_70 (v : Int) (w : World) : Calls Tryd.prog 35 #[.int .u8 70, .int .u32 v] w fun e w' => e = .returned (.tuple #[.int .u32 (v * 1048576 % 4294967296), .bool (decide (v < 256))]) ∧ w = w' := by
  go_enter Tryd.func35, Tryd.ntmps35
  go_wp2
  exact bodyPost_ret (v := .tuple #[.int .u32 (v * 1048576 % 4294967296), .bool (decide (v < 256))]) (by simp [results, Tryd.results35, go_sem]) rfl ⟨rfl, rfl⟩

theorem layl_any (f v : Int) (w : World) (x0 : 0 ≤ v) (x1 : v < 4294967296) : Calls Tryd.prog 35 #[.int .u8 f, .int .u32 v] w fun e w' => e = .returned (.tuple #[.int .u32 (W.rlayV f v), .bool (W.rlayB f v)]) ∧ w = w' := by
  cases h3 : (f == 0)
  case true => obtain rfl := beq_iff_eq.1 h3; exact lay_0 v w
  cases h0 : (f == 90)
  case true => obtain rfl := beq_iff_eq.1 h0; exact lay_90 v w
  cases h1 : (f == 67)
  case true => obtain rfl := beq_iff_eq.1 h1; exact lay_67 v w
  cases h2 : (f == 70)
  case true => obtain rfl := beq_iff_eq.1 h2; exact lay_70 v w
  have hv : Hid (W.rlayV f v = W.layV f v ∧ W.rlayB f v = W.layB f v) := (⟨by rw [W.rlayV, h0, h1, h2, h3]; rfl, by rw [W.rlayB, h0, h1, h2, h3]; rfl⟩ : W.rlayV f v = W.layV f v ∧ W.rlayB f v = W.layB f v)
  go_enter Tryd.func35, Tryd.ntmps35
  go_wp2_with (go_at_call 53; refine (rlay_any _ _ _ x0 x1).mono ?_; rintro e w' ⟨rfl, rfl⟩)
  exact bodyPost_ret (v := .tuple #[.int .u32 (W.layV f v), .bool (W.layB f v)]) (by simp [results, Tryd.results35, go_sem]) rfl ⟨by rw [hv.out.1, hv.out.2], rfl⟩

end Go.Proofs.YthbcdlaejefkaaaDoor
