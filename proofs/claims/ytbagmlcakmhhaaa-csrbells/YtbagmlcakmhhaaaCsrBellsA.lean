/- An interrupt is pending just where it may come. -/
import Derived.Test.YtbagmlcakmhhaaaCsrK
namespace Go.Proofs.Ytbagmlcakmhhaaa
open Go.ChangeShapes Go.WideShapes Go.ChangeAt Go.RowKit
set_option linter.unusedVariables false
set_option linter.unusedSimpArgs false

theorem bells_0000 (w : World) : Calls Try.prog 8 #[.bool false, .bool false, .bool false, .bool false] w fun e w' => e = .returned (.bool true) ∧ Below w.heap.size w w' := by
  have hb : Below w.heap.size w w := Below.refl _ _
  go_enter Try.func8, Try.ntmps8
  go_wp2_with (first
    | (go_at_call 9; refine (from_ (first6_any _) hb).mono ?_; clear hb; rintro e w1 ⟨rfl, hb⟩)
    | (go_at_call 10; refine (from_ (new_any _ _) hb).mono ?_; clear hb; rintro e w2 ⟨rfl, hb⟩; unfold fileCells W.fnew))
  have hL := Ls.start (W.fnew 0) hb
  clear hb
  refine (set_g 768 0 true ⟨3, 0, 0, 0, 0, 0, 0, 0, 0, 0, 0⟩ (by exact hL) (by kernel_rfl) (by kernel_rfl)).mono ?_
  clear hL
  rintro e w' ⟨rfl, hL, hg⟩
  go_wp2_with fail
  refine (bell_g false ⟨3, 0, 0, 0, 0, 0, 0, 0, 0, 0, 0⟩ (by exact hL) (by kernel_rfl)).mono ?_
  clear hL
  rintro e w' ⟨rfl, hL, hg⟩
  go_wp2_with fail
  refine (pending_g false 0 (by exact hL) (by kernel_rfl) (by kernel_rfl)).mono ?_
  clear hL
  rintro e w' ⟨rfl, hL, hg⟩
  go_wp2_with fail
  refine (trap_g 0 0 64 0 ⟨3, 0, 6144, 0, 0, 0, 64, 0, 0, 0, 0⟩ (by exact hL) (by rfl) (by kernel_rfl)).mono ?_
  clear hL
  rintro e w' ⟨rfl, hL, hg⟩
  go_wp2_with fail
  refine (pending_g false 0 (by exact hL) (by kernel_rfl) (by kernel_rfl)).mono ?_
  clear hL
  rintro e w' ⟨rfl, hL, hg⟩
  go_wp2_with fail
  refine (bell_g false ⟨3, 0, 6144, 0, 0, 0, 64, 0, 0, 0, 0⟩ (by exact hL) (by kernel_rfl)).mono ?_
  clear hL
  rintro e w' ⟨rfl, hL, hg⟩
  go_wp2_with fail
  refine (return_g (64) ⟨3, 0, 128, 0, 0, 0, 64, 0, 0, 0, 0⟩ (by exact hL) (by rfl) (by kernel_rfl)).mono ?_
  clear hL
  rintro e w' ⟨rfl, hL, hg⟩
  go_wp2_with fail
  refine (pending_g false 0 (by exact hL) (by kernel_rfl) (by kernel_rfl)).mono ?_
  clear hL
  rintro e w' ⟨rfl, hL, hg⟩
  go_wp2
  go_ret
  exact ⟨rfl, hL.bel⟩

theorem bells_0001 (w : World) : Calls Try.prog 8 #[.bool false, .bool false, .bool false, .bool true] w fun e w' => e = .returned (.bool true) ∧ Below w.heap.size w w' := by
  have hb : Below w.heap.size w w := Below.refl _ _
  go_enter Try.func8, Try.ntmps8
  go_wp2_with (first
    | (go_at_call 9; refine (from_ (first6_any _) hb).mono ?_; clear hb; rintro e w1 ⟨rfl, hb⟩)
    | (go_at_call 10; refine (from_ (new_any _ _) hb).mono ?_; clear hb; rintro e w2 ⟨rfl, hb⟩; unfold fileCells W.fnew))
  have hL := Ls.start (W.fnew 0) hb
  clear hb
  refine (set_g 768 0 true ⟨3, 0, 0, 0, 0, 0, 0, 0, 0, 0, 0⟩ (by exact hL) (by kernel_rfl) (by kernel_rfl)).mono ?_
  clear hL
  rintro e w' ⟨rfl, hL, hg⟩
  go_wp2_with fail
  refine (return_g (0) ⟨0, 0, 128, 0, 0, 0, 0, 0, 0, 0, 0⟩ (by exact hL) (by rfl) (by kernel_rfl)).mono ?_
  clear hL
  rintro e w' ⟨rfl, hL, hg⟩
  go_wp2_with fail
  refine (bell_g false ⟨0, 0, 128, 0, 0, 0, 0, 0, 0, 0, 0⟩ (by exact hL) (by kernel_rfl)).mono ?_
  clear hL
  rintro e w' ⟨rfl, hL, hg⟩
  go_wp2_with fail
  refine (pending_g false 0 (by exact hL) (by kernel_rfl) (by kernel_rfl)).mono ?_
  clear hL
  rintro e w' ⟨rfl, hL, hg⟩
  go_wp2_with fail
  refine (trap_g 0 0 64 0 ⟨3, 0, 0, 0, 0, 0, 64, 0, 0, 0, 0⟩ (by exact hL) (by rfl) (by kernel_rfl)).mono ?_
  clear hL
  rintro e w' ⟨rfl, hL, hg⟩
  go_wp2_with fail
  refine (pending_g false 0 (by exact hL) (by kernel_rfl) (by kernel_rfl)).mono ?_
  clear hL
  rintro e w' ⟨rfl, hL, hg⟩
  go_wp2_with fail
  refine (bell_g false ⟨3, 0, 0, 0, 0, 0, 64, 0, 0, 0, 0⟩ (by exact hL) (by kernel_rfl)).mono ?_
  clear hL
  rintro e w' ⟨rfl, hL, hg⟩
  go_wp2_with fail
  refine (return_g (64) ⟨0, 0, 128, 0, 0, 0, 64, 0, 0, 0, 0⟩ (by exact hL) (by rfl) (by kernel_rfl)).mono ?_
  clear hL
  rintro e w' ⟨rfl, hL, hg⟩
  go_wp2_with fail
  refine (pending_g false 0 (by exact hL) (by kernel_rfl) (by kernel_rfl)).mono ?_
  clear hL
  rintro e w' ⟨rfl, hL, hg⟩
  go_wp2
  go_ret
  exact ⟨rfl, hL.bel⟩

theorem bells_0010 (w : World) : Calls Try.prog 8 #[.bool false, .bool false, .bool true, .bool false] w fun e w' => e = .returned (.bool true) ∧ Below w.heap.size w w' := by
  have hb : Below w.heap.size w w := Below.refl _ _
  go_enter Try.func8, Try.ntmps8
  go_wp2_with (first
    | (go_at_call 9; refine (from_ (first6_any _) hb).mono ?_; clear hb; rintro e w1 ⟨rfl, hb⟩)
    | (go_at_call 10; refine (from_ (new_any _ _) hb).mono ?_; clear hb; rintro e w2 ⟨rfl, hb⟩; unfold fileCells W.fnew))
  have hL := Ls.start (W.fnew 0) hb
  clear hb
  refine (set_g 768 8 true ⟨3, 0, 8, 0, 0, 0, 0, 0, 0, 0, 0⟩ (by exact hL) (by kernel_rfl) (by kernel_rfl)).mono ?_
  clear hL
  rintro e w' ⟨rfl, hL, hg⟩
  go_wp2_with fail
  refine (bell_g false ⟨3, 0, 8, 0, 0, 0, 0, 0, 0, 0, 0⟩ (by exact hL) (by kernel_rfl)).mono ?_
  clear hL
  rintro e w' ⟨rfl, hL, hg⟩
  go_wp2_with fail
  refine (pending_g false 0 (by exact hL) (by kernel_rfl) (by kernel_rfl)).mono ?_
  clear hL
  rintro e w' ⟨rfl, hL, hg⟩
  go_wp2_with fail
  refine (trap_g 0 0 64 0 ⟨3, 0, 6272, 0, 0, 0, 64, 0, 0, 0, 0⟩ (by exact hL) (by rfl) (by kernel_rfl)).mono ?_
  clear hL
  rintro e w' ⟨rfl, hL, hg⟩
  go_wp2_with fail
  refine (pending_g false 0 (by exact hL) (by kernel_rfl) (by kernel_rfl)).mono ?_
  clear hL
  rintro e w' ⟨rfl, hL, hg⟩
  go_wp2_with fail
  refine (bell_g false ⟨3, 0, 6272, 0, 0, 0, 64, 0, 0, 0, 0⟩ (by exact hL) (by kernel_rfl)).mono ?_
  clear hL
  rintro e w' ⟨rfl, hL, hg⟩
  go_wp2_with fail
  refine (return_g (64) ⟨3, 0, 136, 0, 0, 0, 64, 0, 0, 0, 0⟩ (by exact hL) (by rfl) (by kernel_rfl)).mono ?_
  clear hL
  rintro e w' ⟨rfl, hL, hg⟩
  go_wp2_with fail
  refine (pending_g false 0 (by exact hL) (by kernel_rfl) (by kernel_rfl)).mono ?_
  clear hL
  rintro e w' ⟨rfl, hL, hg⟩
  go_wp2
  go_ret
  exact ⟨rfl, hL.bel⟩

theorem bells_0011 (w : World) : Calls Try.prog 8 #[.bool false, .bool false, .bool true, .bool true] w fun e w' => e = .returned (.bool true) ∧ Below w.heap.size w w' := by
  have hb : Below w.heap.size w w := Below.refl _ _
  go_enter Try.func8, Try.ntmps8
  go_wp2_with (first
    | (go_at_call 9; refine (from_ (first6_any _) hb).mono ?_; clear hb; rintro e w1 ⟨rfl, hb⟩)
    | (go_at_call 10; refine (from_ (new_any _ _) hb).mono ?_; clear hb; rintro e w2 ⟨rfl, hb⟩; unfold fileCells W.fnew))
  have hL := Ls.start (W.fnew 0) hb
  clear hb
  refine (set_g 768 128 true ⟨3, 0, 128, 0, 0, 0, 0, 0, 0, 0, 0⟩ (by exact hL) (by kernel_rfl) (by kernel_rfl)).mono ?_
  clear hL
  rintro e w' ⟨rfl, hL, hg⟩
  go_wp2_with fail
  refine (return_g (0) ⟨0, 0, 136, 0, 0, 0, 0, 0, 0, 0, 0⟩ (by exact hL) (by rfl) (by kernel_rfl)).mono ?_
  clear hL
  rintro e w' ⟨rfl, hL, hg⟩
  go_wp2_with fail
  refine (bell_g false ⟨0, 0, 136, 0, 0, 0, 0, 0, 0, 0, 0⟩ (by exact hL) (by kernel_rfl)).mono ?_
  clear hL
  rintro e w' ⟨rfl, hL, hg⟩
  go_wp2_with fail
  refine (pending_g false 0 (by exact hL) (by kernel_rfl) (by kernel_rfl)).mono ?_
  clear hL
  rintro e w' ⟨rfl, hL, hg⟩
  go_wp2_with fail
  refine (trap_g 0 0 64 0 ⟨3, 0, 128, 0, 0, 0, 64, 0, 0, 0, 0⟩ (by exact hL) (by rfl) (by kernel_rfl)).mono ?_
  clear hL
  rintro e w' ⟨rfl, hL, hg⟩
  go_wp2_with fail
  refine (pending_g false 0 (by exact hL) (by kernel_rfl) (by kernel_rfl)).mono ?_
  clear hL
  rintro e w' ⟨rfl, hL, hg⟩
  go_wp2_with fail
  refine (bell_g false ⟨3, 0, 128, 0, 0, 0, 64, 0, 0, 0, 0⟩ (by exact hL) (by kernel_rfl)).mono ?_
  clear hL
  rintro e w' ⟨rfl, hL, hg⟩
  go_wp2_with fail
  refine (return_g (64) ⟨0, 0, 136, 0, 0, 0, 64, 0, 0, 0, 0⟩ (by exact hL) (by rfl) (by kernel_rfl)).mono ?_
  clear hL
  rintro e w' ⟨rfl, hL, hg⟩
  go_wp2_with fail
  refine (pending_g false 0 (by exact hL) (by kernel_rfl) (by kernel_rfl)).mono ?_
  clear hL
  rintro e w' ⟨rfl, hL, hg⟩
  go_wp2
  go_ret
  exact ⟨rfl, hL.bel⟩

theorem bells_0100 (w : World) : Calls Try.prog 8 #[.bool false, .bool true, .bool false, .bool false] w fun e w' => e = .returned (.bool true) ∧ Below w.heap.size w w' := by
  have hb : Below w.heap.size w w := Below.refl _ _
  go_enter Try.func8, Try.ntmps8
  go_wp2_with (first
    | (go_at_call 9; refine (from_ (first6_any _) hb).mono ?_; clear hb; rintro e w1 ⟨rfl, hb⟩)
    | (go_at_call 10; refine (from_ (new_any _ _) hb).mono ?_; clear hb; rintro e w2 ⟨rfl, hb⟩; unfold fileCells W.fnew))
  have hL := Ls.start (W.fnew 0) hb
  clear hb
  refine (set_g 772 8 true ⟨3, 0, 0, 8, 0, 0, 0, 0, 0, 0, 0⟩ (by exact hL) (by kernel_rfl) (by kernel_rfl)).mono ?_
  clear hL
  rintro e w' ⟨rfl, hL, hg⟩
  go_wp2_with fail
  refine (set_g 768 0 true ⟨3, 0, 0, 8, 0, 0, 0, 0, 0, 0, 0⟩ (by exact hL) (by kernel_rfl) (by kernel_rfl)).mono ?_
  clear hL
  rintro e w' ⟨rfl, hL, hg⟩
  go_wp2_with fail
  refine (bell_g false ⟨3, 0, 0, 8, 0, 0, 0, 0, 0, 0, 0⟩ (by exact hL) (by kernel_rfl)).mono ?_
  clear hL
  rintro e w' ⟨rfl, hL, hg⟩
  go_wp2_with fail
  refine (pending_g false 0 (by exact hL) (by kernel_rfl) (by kernel_rfl)).mono ?_
  clear hL
  rintro e w' ⟨rfl, hL, hg⟩
  go_wp2_with fail
  refine (trap_g 0 0 64 0 ⟨3, 0, 6144, 8, 0, 0, 64, 0, 0, 0, 0⟩ (by exact hL) (by rfl) (by kernel_rfl)).mono ?_
  clear hL
  rintro e w' ⟨rfl, hL, hg⟩
  go_wp2_with fail
  refine (pending_g false 0 (by exact hL) (by kernel_rfl) (by kernel_rfl)).mono ?_
  clear hL
  rintro e w' ⟨rfl, hL, hg⟩
  go_wp2_with fail
  refine (bell_g false ⟨3, 0, 6144, 8, 0, 0, 64, 0, 0, 0, 0⟩ (by exact hL) (by kernel_rfl)).mono ?_
  clear hL
  rintro e w' ⟨rfl, hL, hg⟩
  go_wp2_with fail
  refine (return_g (64) ⟨3, 0, 128, 8, 0, 0, 64, 0, 0, 0, 0⟩ (by exact hL) (by rfl) (by kernel_rfl)).mono ?_
  clear hL
  rintro e w' ⟨rfl, hL, hg⟩
  go_wp2_with fail
  refine (pending_g false 0 (by exact hL) (by kernel_rfl) (by kernel_rfl)).mono ?_
  clear hL
  rintro e w' ⟨rfl, hL, hg⟩
  go_wp2
  go_ret
  exact ⟨rfl, hL.bel⟩

theorem bells_0101 (w : World) : Calls Try.prog 8 #[.bool false, .bool true, .bool false, .bool true] w fun e w' => e = .returned (.bool true) ∧ Below w.heap.size w w' := by
  have hb : Below w.heap.size w w := Below.refl _ _
  go_enter Try.func8, Try.ntmps8
  go_wp2_with (first
    | (go_at_call 9; refine (from_ (first6_any _) hb).mono ?_; clear hb; rintro e w1 ⟨rfl, hb⟩)
    | (go_at_call 10; refine (from_ (new_any _ _) hb).mono ?_; clear hb; rintro e w2 ⟨rfl, hb⟩; unfold fileCells W.fnew))
  have hL := Ls.start (W.fnew 0) hb
  clear hb
  refine (set_g 772 8 true ⟨3, 0, 0, 8, 0, 0, 0, 0, 0, 0, 0⟩ (by exact hL) (by kernel_rfl) (by kernel_rfl)).mono ?_
  clear hL
  rintro e w' ⟨rfl, hL, hg⟩
  go_wp2_with fail
  refine (set_g 768 0 true ⟨3, 0, 0, 8, 0, 0, 0, 0, 0, 0, 0⟩ (by exact hL) (by kernel_rfl) (by kernel_rfl)).mono ?_
  clear hL
  rintro e w' ⟨rfl, hL, hg⟩
  go_wp2_with fail
  refine (return_g (0) ⟨0, 0, 128, 8, 0, 0, 0, 0, 0, 0, 0⟩ (by exact hL) (by rfl) (by kernel_rfl)).mono ?_
  clear hL
  rintro e w' ⟨rfl, hL, hg⟩
  go_wp2_with fail
  refine (bell_g false ⟨0, 0, 128, 8, 0, 0, 0, 0, 0, 0, 0⟩ (by exact hL) (by kernel_rfl)).mono ?_
  clear hL
  rintro e w' ⟨rfl, hL, hg⟩
  go_wp2_with fail
  refine (pending_g false 0 (by exact hL) (by kernel_rfl) (by kernel_rfl)).mono ?_
  clear hL
  rintro e w' ⟨rfl, hL, hg⟩
  go_wp2_with fail
  refine (trap_g 0 0 64 0 ⟨3, 0, 0, 8, 0, 0, 64, 0, 0, 0, 0⟩ (by exact hL) (by rfl) (by kernel_rfl)).mono ?_
  clear hL
  rintro e w' ⟨rfl, hL, hg⟩
  go_wp2_with fail
  refine (pending_g false 0 (by exact hL) (by kernel_rfl) (by kernel_rfl)).mono ?_
  clear hL
  rintro e w' ⟨rfl, hL, hg⟩
  go_wp2_with fail
  refine (bell_g false ⟨3, 0, 0, 8, 0, 0, 64, 0, 0, 0, 0⟩ (by exact hL) (by kernel_rfl)).mono ?_
  clear hL
  rintro e w' ⟨rfl, hL, hg⟩
  go_wp2_with fail
  refine (return_g (64) ⟨0, 0, 128, 8, 0, 0, 64, 0, 0, 0, 0⟩ (by exact hL) (by rfl) (by kernel_rfl)).mono ?_
  clear hL
  rintro e w' ⟨rfl, hL, hg⟩
  go_wp2_with fail
  refine (pending_g false 0 (by exact hL) (by kernel_rfl) (by kernel_rfl)).mono ?_
  clear hL
  rintro e w' ⟨rfl, hL, hg⟩
  go_wp2
  go_ret
  exact ⟨rfl, hL.bel⟩

theorem bells_0110 (w : World) : Calls Try.prog 8 #[.bool false, .bool true, .bool true, .bool false] w fun e w' => e = .returned (.bool true) ∧ Below w.heap.size w w' := by
  have hb : Below w.heap.size w w := Below.refl _ _
  go_enter Try.func8, Try.ntmps8
  go_wp2_with (first
    | (go_at_call 9; refine (from_ (first6_any _) hb).mono ?_; clear hb; rintro e w1 ⟨rfl, hb⟩)
    | (go_at_call 10; refine (from_ (new_any _ _) hb).mono ?_; clear hb; rintro e w2 ⟨rfl, hb⟩; unfold fileCells W.fnew))
  have hL := Ls.start (W.fnew 0) hb
  clear hb
  refine (set_g 772 8 true ⟨3, 0, 0, 8, 0, 0, 0, 0, 0, 0, 0⟩ (by exact hL) (by kernel_rfl) (by kernel_rfl)).mono ?_
  clear hL
  rintro e w' ⟨rfl, hL, hg⟩
  go_wp2_with fail
  refine (set_g 768 8 true ⟨3, 0, 8, 8, 0, 0, 0, 0, 0, 0, 0⟩ (by exact hL) (by kernel_rfl) (by kernel_rfl)).mono ?_
  clear hL
  rintro e w' ⟨rfl, hL, hg⟩
  go_wp2_with fail
  refine (bell_g false ⟨3, 0, 8, 8, 0, 0, 0, 0, 0, 0, 0⟩ (by exact hL) (by kernel_rfl)).mono ?_
  clear hL
  rintro e w' ⟨rfl, hL, hg⟩
  go_wp2_with fail
  refine (pending_g false 0 (by exact hL) (by kernel_rfl) (by kernel_rfl)).mono ?_
  clear hL
  rintro e w' ⟨rfl, hL, hg⟩
  go_wp2_with fail
  refine (trap_g 0 0 64 0 ⟨3, 0, 6272, 8, 0, 0, 64, 0, 0, 0, 0⟩ (by exact hL) (by rfl) (by kernel_rfl)).mono ?_
  clear hL
  rintro e w' ⟨rfl, hL, hg⟩
  go_wp2_with fail
  refine (pending_g false 0 (by exact hL) (by kernel_rfl) (by kernel_rfl)).mono ?_
  clear hL
  rintro e w' ⟨rfl, hL, hg⟩
  go_wp2_with fail
  refine (bell_g false ⟨3, 0, 6272, 8, 0, 0, 64, 0, 0, 0, 0⟩ (by exact hL) (by kernel_rfl)).mono ?_
  clear hL
  rintro e w' ⟨rfl, hL, hg⟩
  go_wp2_with fail
  refine (return_g (64) ⟨3, 0, 136, 8, 0, 0, 64, 0, 0, 0, 0⟩ (by exact hL) (by rfl) (by kernel_rfl)).mono ?_
  clear hL
  rintro e w' ⟨rfl, hL, hg⟩
  go_wp2_with fail
  refine (pending_g false 0 (by exact hL) (by kernel_rfl) (by kernel_rfl)).mono ?_
  clear hL
  rintro e w' ⟨rfl, hL, hg⟩
  go_wp2
  go_ret
  exact ⟨rfl, hL.bel⟩

theorem bells_0111 (w : World) : Calls Try.prog 8 #[.bool false, .bool true, .bool true, .bool true] w fun e w' => e = .returned (.bool true) ∧ Below w.heap.size w w' := by
  have hb : Below w.heap.size w w := Below.refl _ _
  go_enter Try.func8, Try.ntmps8
  go_wp2_with (first
    | (go_at_call 9; refine (from_ (first6_any _) hb).mono ?_; clear hb; rintro e w1 ⟨rfl, hb⟩)
    | (go_at_call 10; refine (from_ (new_any _ _) hb).mono ?_; clear hb; rintro e w2 ⟨rfl, hb⟩; unfold fileCells W.fnew))
  have hL := Ls.start (W.fnew 0) hb
  clear hb
  refine (set_g 772 8 true ⟨3, 0, 0, 8, 0, 0, 0, 0, 0, 0, 0⟩ (by exact hL) (by kernel_rfl) (by kernel_rfl)).mono ?_
  clear hL
  rintro e w' ⟨rfl, hL, hg⟩
  go_wp2_with fail
  refine (set_g 768 128 true ⟨3, 0, 128, 8, 0, 0, 0, 0, 0, 0, 0⟩ (by exact hL) (by kernel_rfl) (by kernel_rfl)).mono ?_
  clear hL
  rintro e w' ⟨rfl, hL, hg⟩
  go_wp2_with fail
  refine (return_g (0) ⟨0, 0, 136, 8, 0, 0, 0, 0, 0, 0, 0⟩ (by exact hL) (by rfl) (by kernel_rfl)).mono ?_
  clear hL
  rintro e w' ⟨rfl, hL, hg⟩
  go_wp2_with fail
  refine (bell_g false ⟨0, 0, 136, 8, 0, 0, 0, 0, 0, 0, 0⟩ (by exact hL) (by kernel_rfl)).mono ?_
  clear hL
  rintro e w' ⟨rfl, hL, hg⟩
  go_wp2_with fail
  refine (pending_g false 0 (by exact hL) (by kernel_rfl) (by kernel_rfl)).mono ?_
  clear hL
  rintro e w' ⟨rfl, hL, hg⟩
  go_wp2_with fail
  refine (trap_g 0 0 64 0 ⟨3, 0, 128, 8, 0, 0, 64, 0, 0, 0, 0⟩ (by exact hL) (by rfl) (by kernel_rfl)).mono ?_
  clear hL
  rintro e w' ⟨rfl, hL, hg⟩
  go_wp2_with fail
  refine (pending_g false 0 (by exact hL) (by kernel_rfl) (by kernel_rfl)).mono ?_
  clear hL
  rintro e w' ⟨rfl, hL, hg⟩
  go_wp2_with fail
  refine (bell_g false ⟨3, 0, 128, 8, 0, 0, 64, 0, 0, 0, 0⟩ (by exact hL) (by kernel_rfl)).mono ?_
  clear hL
  rintro e w' ⟨rfl, hL, hg⟩
  go_wp2_with fail
  refine (return_g (64) ⟨0, 0, 136, 8, 0, 0, 64, 0, 0, 0, 0⟩ (by exact hL) (by rfl) (by kernel_rfl)).mono ?_
  clear hL
  rintro e w' ⟨rfl, hL, hg⟩
  go_wp2_with fail
  refine (pending_g false 0 (by exact hL) (by kernel_rfl) (by kernel_rfl)).mono ?_
  clear hL
  rintro e w' ⟨rfl, hL, hg⟩
  go_wp2
  go_ret
  exact ⟨rfl, hL.bel⟩

end Go.Proofs.Ytbagmlcakmhhaaa
