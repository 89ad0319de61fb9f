/- A trap within a trap. -/
import Derived.Test.YtbagmlcakmhhaaaCsrK
namespace Go.Proofs.Ytbagmlcakmhhaaa
open Go.ChangeShapes Go.WideShapes Go.ChangeAt Go.RowKit
set_option linter.unusedVariables false
set_option linter.unusedSimpArgs false

theorem al (v : Int) (v0 : 0 ≤ v) (v1 : v < 4294967296) : W.algn (bits .andNot .u32 v 3) = bits .andNot .u32 v 3 := by
  have e : bits .andNot .u32 v 3 = v / 4 * 4 := W.algn_eq v v0 v1
  rw [e, W.algn_eq _ (by omega) (by omega)]
  omega

theorem nests_0 (pc other : Int) (h0 : 0 ≤ pc) (h1 : pc < 4294967296) (w : World) : Calls Try.prog 7 #[.int .u32 pc, .int .u32 other, .bool false] w fun e w' => e = .returned (.bool true) ∧ Below w.heap.size w w' := by
  have hb : Below w.heap.size w w := Below.refl _ _
  go_enter Try.func7, Try.ntmps7
  go_wp2_with (first
    | (go_at_call 9; refine (from_ (first6_any _) hb).mono ?_; clear hb; rintro e w1 ⟨rfl, hb⟩)
    | (go_at_call 10; refine (from_ (new_any _ _) hb).mono ?_; clear hb; rintro e w2 ⟨rfl, hb⟩; unfold fileCells W.fnew))
  have hL := Ls.start (W.fnew 0) hb
  clear hb
  refine (trap_g 3 0 pc 0 ⟨3, 0, 6144, 0, 0, 0, W.algn pc, 3, 0, 0, 0⟩ (by exact hL) (by rfl) (by kernel_rfl)).mono ?_
  clear hL
  rintro e w' ⟨rfl, hL, hg⟩
  go_wp2_with fail
  refine (get_g 833 (bits .andNot .u32 pc 3) true (by exact hL) (by kernel_rfl) (by kernel_rfl)).mono ?_
  rintro e w' ⟨rfl, rfl⟩
  go_wp2_with fail
  refine (get_g 768 (6144) true (by exact hL) (by kernel_rfl) (by kernel_rfl)).mono ?_
  rintro e w' ⟨rfl, rfl⟩
  go_wp2_with fail
  refine (trap_g 5 1 other 0 ⟨3, 0, 6144, 0, 0, 0, W.algn other, 5, 1, 0, 0⟩ (by exact hL) (by rfl) (by kernel_rfl)).mono ?_
  clear hL
  rintro e w' ⟨rfl, hL, hg⟩
  go_wp2_with fail
  refine (get_g 833 (bits .andNot .u32 other 3) true (by exact hL) (by kernel_rfl) (by kernel_rfl)).mono ?_
  rintro e w' ⟨rfl, rfl⟩
  go_wp2_with fail
  refine (get_g 768 (6144) true (by exact hL) (by kernel_rfl) (by kernel_rfl)).mono ?_
  rintro e w' ⟨rfl, rfl⟩
  go_wp2_with fail
  refine (return_g (bits .andNot .u32 other 3) ⟨3, 0, 128, 0, 0, 0, bits .andNot .u32 other 3, 5, 1, 0, 0⟩ (by exact hL) (by rfl) (by kernel_rfl)).mono ?_
  clear hL
  rintro e w' ⟨rfl, hL, hg⟩
  go_wp2_with fail
  refine (set_g 833 (bits .andNot .u32 pc 3) true ⟨3, 0, 128, 0, 0, 0, (W.algn (bits .andNot .u32 pc 3)), 5, 1, 0, 0⟩ (by exact hL) (by kernel_rfl) (by kernel_rfl)).mono ?_
  clear hL
  rintro e w' ⟨rfl, hL, hg⟩
  go_wp2_with fail
  refine (set_g 768 6144 true ⟨3, 0, 6144, 0, 0, 0, (W.algn (bits .andNot .u32 pc 3)), 5, 1, 0, 0⟩ (by exact hL) (by kernel_rfl) (by kernel_rfl)).mono ?_
  clear hL
  rintro e w' ⟨rfl, hL, hg⟩
  go_wp2_with fail
  refine (return_g (bits .andNot .u32 pc 3) ⟨3, 0, 128, 0, 0, 0, (W.algn (bits .andNot .u32 pc 3)), 5, 1, 0, 0⟩ (by exact hL) (by exact al pc h0 h1) (by kernel_rfl)).mono ?_
  clear hL
  rintro e w' ⟨rfl, hL, hg⟩
  go_wp2_with fail
  refine (get_g 768 (128) true (by exact hL) (by kernel_rfl) (by kernel_rfl)).mono ?_
  rintro e w' ⟨rfl, rfl⟩
  go_wp2_with fail
  refine (mode_g 3 (by exact hL) (by rfl)).mono ?_
  rintro e w' ⟨rfl, rfl⟩
  go_wp2
  go_ret
  exact ⟨rfl, hL.bel⟩

theorem nests_1 (pc other : Int) (h0 : 0 ≤ pc) (h1 : pc < 4294967296) (w : World) : Calls Try.prog 7 #[.int .u32 pc, .int .u32 other, .bool true] w fun e w' => e = .returned (.bool true) ∧ Below w.heap.size w w' := by
  have hb : Below w.heap.size w w := Below.refl _ _
  go_enter Try.func7, Try.ntmps7
  go_wp2_with (first
    | (go_at_call 9; refine (from_ (first6_any _) hb).mono ?_; clear hb; rintro e w1 ⟨rfl, hb⟩)
    | (go_at_call 10; refine (from_ (new_any _ _) hb).mono ?_; clear hb; rintro e w2 ⟨rfl, hb⟩; unfold fileCells W.fnew))
  have hL := Ls.start (W.fnew 0) hb
  clear hb
  refine (set_g 768 8 true ⟨3, 0, 8, 0, 0, 0, 0, 0, 0, 0, 0⟩ (by exact hL) (by kernel_rfl) (by kernel_rfl)).mono ?_
  clear hL
  rintro e w' ⟨rfl, hL, hg⟩
  go_wp2_with fail
  refine (trap_g 3 0 pc 0 ⟨3, 0, 6272, 0, 0, 0, W.algn pc, 3, 0, 0, 0⟩ (by exact hL) (by rfl) (by kernel_rfl)).mono ?_
  clear hL
  rintro e w' ⟨rfl, hL, hg⟩
  go_wp2_with fail
  refine (get_g 833 (bits .andNot .u32 pc 3) true (by exact hL) (by kernel_rfl) (by kernel_rfl)).mono ?_
  rintro e w' ⟨rfl, rfl⟩
  go_wp2_with fail
  refine (get_g 768 (6272) true (by exact hL) (by kernel_rfl) (by kernel_rfl)).mono ?_
  rintro e w' ⟨rfl, rfl⟩
  go_wp2_with fail
  refine (trap_g 5 1 other 0 ⟨3, 0, 6144, 0, 0, 0, W.algn other, 5, 1, 0, 0⟩ (by exact hL) (by rfl) (by kernel_rfl)).mono ?_
  clear hL
  rintro e w' ⟨rfl, hL, hg⟩
  go_wp2_with fail
  refine (get_g 833 (bits .andNot .u32 other 3) true (by exact hL) (by kernel_rfl) (by kernel_rfl)).mono ?_
  rintro e w' ⟨rfl, rfl⟩
  go_wp2_with fail
  refine (get_g 768 (6144) true (by exact hL) (by kernel_rfl) (by kernel_rfl)).mono ?_
  rintro e w' ⟨rfl, rfl⟩
  go_wp2_with fail
  refine (return_g (bits .andNot .u32 other 3) ⟨3, 0, 128, 0, 0, 0, bits .andNot .u32 other 3, 5, 1, 0, 0⟩ (by exact hL) (by rfl) (by kernel_rfl)).mono ?_
  clear hL
  rintro e w' ⟨rfl, hL, hg⟩
  go_wp2_with fail
  refine (set_g 833 (bits .andNot .u32 pc 3) true ⟨3, 0, 128, 0, 0, 0, (W.algn (bits .andNot .u32 pc 3)), 5, 1, 0, 0⟩ (by exact hL) (by kernel_rfl) (by kernel_rfl)).mono ?_
  clear hL
  rintro e w' ⟨rfl, hL, hg⟩
  go_wp2_with fail
  refine (set_g 768 6272 true ⟨3, 0, 6272, 0, 0, 0, (W.algn (bits .andNot .u32 pc 3)), 5, 1, 0, 0⟩ (by exact hL) (by kernel_rfl) (by kernel_rfl)).mono ?_
  clear hL
  rintro e w' ⟨rfl, hL, hg⟩
  go_wp2_with fail
  refine (return_g (bits .andNot .u32 pc 3) ⟨3, 0, 136, 0, 0, 0, (W.algn (bits .andNot .u32 pc 3)), 5, 1, 0, 0⟩ (by exact hL) (by exact al pc h0 h1) (by kernel_rfl)).mono ?_
  clear hL
  rintro e w' ⟨rfl, hL, hg⟩
  go_wp2_with fail
  refine (get_g 768 (136) true (by exact hL) (by kernel_rfl) (by kernel_rfl)).mono ?_
  rintro e w' ⟨rfl, rfl⟩
  go_wp2_with fail
  refine (mode_g 3 (by exact hL) (by rfl)).mono ?_
  rintro e w' ⟨rfl, rfl⟩
  go_wp2
  go_ret
  exact ⟨rfl, hL.bel⟩

end Go.Proofs.Ytbagmlcakmhhaaa
