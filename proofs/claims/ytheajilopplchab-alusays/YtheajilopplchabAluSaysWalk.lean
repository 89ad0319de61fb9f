/- AluSays, walked: it returns true, whatever the op and the words. -/
import Derived.Test.YtheajilopplchabFirst4
import Derived.Test.YtheajilopplchabAluT
namespace Go.Proofs.Ytheajilopplchab
open Go.ChangeShapes Go.WideShapes Go.ChangeAt Go.RowKit
set_option linter.unusedVariables false
set_option linter.unusedSimpArgs false

set_option maxRecDepth 100000 in
set_option maxHeartbeats 1600000 in
theorem alusays_walk (op a b : Int) (p0 : -9223372036854775808 ≤ op) (p1 : op ≤ 9223372036854775807) (a0 : 0 ≤ a) (a1 : a < 4294967296) (b0 : 0 ≤ b) (b1 : b < 4294967296) (w : World) :
    Calls Try.prog 3 #[.int .i64 op, .int .u32 a, .int .u32 b] w fun e w' => e = .returned (.bool true) ∧ Below w.heap.size w w' := by
  have hb : Below w.heap.size w w := Below.refl _ _
  generalize h1 : W.doV op a b = x1
  generalize h2 : W.doB op = x2
  generalize h3 : W.takV op a b = x3
  generalize h4 : W.takB op = x4
  generalize h5 : W.amoV op a b = x5
  generalize h6 : W.amoB op = x6
  generalize h7 : W.sz op = x7
  generalize h8 : W.ext op a = x8
  generalize h9 : W.cut op a = x9
  go_enter Try.func3, Try.ntmps3
  go_wp2_with (first
      | (go_at_call 9; refine (first4_any _).mono ?_; clear hb; rintro e w1 ⟨rfl, hb⟩)
      | (go_at_call 10; refine (do_any op a b a0 a1 b0 b1 _).mono ?_; rintro e w' ⟨rfl, rfl⟩; rw [h1, h2])
      | (go_at_call 11; refine (rdo_any op a b a0 a1 b0 b1 _).mono ?_; rintro e w' ⟨rfl, rfl⟩; rw [h1, h2])
      | (go_at_call 12; refine (tak_any op a b a0 a1 b0 b1 _).mono ?_; rintro e w' ⟨rfl, rfl⟩; rw [h3, h4])
      | (go_at_call 13; refine (rtak_any op a b a0 a1 b0 b1 _).mono ?_; rintro e w' ⟨rfl, rfl⟩; rw [h3, h4])
      | (go_at_call 14; refine (amo_any op a b a0 a1 b0 b1 _).mono ?_; rintro e w' ⟨rfl, rfl⟩; rw [h5, h6])
      | (go_at_call 15; refine (ramo_any op a b a0 a1 b0 b1 _).mono ?_; rintro e w' ⟨rfl, rfl⟩; rw [h5, h6])
      | (go_at_call 16; refine (size_any op _).mono ?_; rintro e w' ⟨rfl, rfl⟩; rw [h7])
      | (go_at_call 17; refine (rsize_any op _).mono ?_; rintro e w' ⟨rfl, rfl⟩; rw [h7])
      | (go_at_call 18; refine (ext_any op a _).mono ?_; rintro e w2 ⟨rfl, hm⟩; have hb2 := hb.trans (hm.mono hb.size); clear hm; rw [h8])
      | (go_at_call 19; refine (rext_any op a a0 a1 _).mono ?_; rintro e w' ⟨rfl, rfl⟩; rw [h8])
      | (go_at_call 20; refine (cut_any op a _).mono ?_; rintro e w3 ⟨rfl, hm⟩; have hb3 := hb2.trans (hm.mono hb2.size); clear hm; rw [h9])
      | (go_at_call 21; refine (rcut_any op a a0 a1 _).mono ?_; rintro e w' ⟨rfl, rfl⟩; rw [h9]))
  go_ret
  exact ⟨rfl, hb3⟩

end Go.Proofs.Ytheajilopplchab
