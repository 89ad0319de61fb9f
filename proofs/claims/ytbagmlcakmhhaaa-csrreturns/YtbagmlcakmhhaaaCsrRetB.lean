/- Behind a trap and a return all is as it was. -/
import Derived.Test.YtbagmlcakmhhaaaCsrRetA
namespace Go.Proofs.Ytbagmlcakmhhaaa
open Go.ChangeShapes Go.WideShapes Go.ChangeAt Go.RowKit
set_option linter.unusedVariables false
set_option linter.unusedSimpArgs false

set_option maxHeartbeats 1600000 in
theorem returns_0_128 (status cause tval pc x : Int) (hx : bits .andNot .u32 status 6144 = x) (hS : Hid (W.status (W.bitsOf x 3 1) (W.bitsOf x 7 1) (W.kmode x) = 128)) (w : World) : Calls Try.prog 4 #[.int .u32 status, .int .u32 cause, .int .u32 tval, .int .u32 pc, .bool false] w fun e w' => e = .returned (.bool true) ∧ Below w.heap.size w w' := by
  have hb : Below w.heap.size w w := Below.refl _ _
  go_enter Try.func4, Try.ntmps4
  go_wp2_with (first
    | (go_at_call 9; refine (from_ (first6_any _) hb).mono ?_; clear hb; rintro e w1 ⟨rfl, hb⟩)
    | (go_at_call 10; refine (from_ (new_any _ _) hb).mono ?_; clear hb; rintro e w2 ⟨rfl, hb⟩; unfold fileCells W.fnew))
  have hL := Ls.start (W.fnew 0) hb
  clear hb
  refine (set_g 772 8 true ⟨3, 0, 0, 8, 0, 0, 0, 0, 0, 0, 0⟩ (by exact hL) (by kernel_rfl) (by kernel_rfl)).mono ?_
  clear hL
  rintro e w' ⟨rfl, hL, hg⟩
  go_wp2_with fail
  refine (set_g 768 x true ⟨3, 0, 128, 8, 0, 0, 0, 0, 0, 0, 0⟩ (by exact hL) (by kernel_rfl) (by rw [← hS.out]; rfl)).mono ?_
  clear hL
  rintro e w' ⟨rfl, hL, hg⟩
  go_wp2_with fail
  refine (mode_g 3 (by exact hL) (by rfl)).mono ?_
  rintro e w' ⟨rfl, rfl⟩
  obtain ⟨c0, c1, c2, c3, c4, c5, c6, c7, c8, c9, c10, hz⟩ := hL.at_.cells
  simp only at c0 c1 c2 c3 c4 c5 c6 c7 c8 c9 c10
  have hlt := hL.lt
  go_wp2_with fail
  have hM := Ls.start (w := w) (wr := w') ⟨3, 0, 128, 8, 0, 0, 0, 0, 0, 0, 0⟩ hL.bel
  have hN := hL.call ((Below.refl w'.heap.size w').alloc (Nat.le_refl _) (.cells (fileCells ⟨3, 0, 128, 8, 0, 0, 0, 0, 0, 0, 0⟩) 26))
  have hne : w'.heap.size ≠ w2.heap.size := by have := hL.lt; omega
  have hc := hL.le
  clear hL c0 c1 c2 c3 c4 c5 c6 c7 c8 c9 c10 hz hlt
  have hL := hN
  clear hN
  refine (trap_g cause tval pc 0 ⟨3, 0, 6144, 8, 0, 0, W.algn pc, cause, tval, 0, 0⟩ (by exact hL) (by rfl) (by kernel_rfl)).mono ?_
  clear hL
  rintro e w' ⟨rfl, hL, hg⟩
  have hM := hM.other hg hne hc
  go_wp2_with fail
  refine (get_g 834 (cause) true (by exact hL) (by kernel_rfl) (by kernel_rfl)).mono ?_
  rintro e w' ⟨rfl, rfl⟩
  go_wp2_with fail
  refine (get_g 835 (tval) true (by exact hL) (by kernel_rfl) (by kernel_rfl)).mono ?_
  rintro e w' ⟨rfl, rfl⟩
  go_wp2_with fail
  refine (mode_g 3 (by exact hL) (by rfl)).mono ?_
  rintro e w' ⟨rfl, rfl⟩
  go_wp2_with fail
  refine (return_g (bits .andNot .u32 pc 3) ⟨3, 0, 128, 8, 0, 0, bits .andNot .u32 pc 3, cause, tval, 0, 0⟩ (by exact hL) (by rfl) (by kernel_rfl)).mono ?_
  clear hL
  rintro e w' ⟨rfl, hL, hg⟩
  have hM := hM.other hg hne hc
  go_wp2_with fail
  refine (mode_g 3 (by exact hL) (by rfl)).mono ?_
  rintro e w' ⟨rfl, rfl⟩
  go_wp2_with fail
  refine (bell_g true ⟨3, 0, 128, 8, 0, 0, bits .andNot .u32 pc 3, cause, tval, 8, 0⟩ (by exact hL) (by kernel_rfl)).mono ?_
  clear hL
  rintro e w' ⟨rfl, hL, hg⟩
  have hM := hM.other hg hne hc
  go_wp2_with fail
  refine (bell_g true ⟨3, 0, 128, 8, 0, 0, 0, 0, 0, 8, 0⟩ (by exact hM) (by kernel_rfl)).mono ?_
  clear hM
  rintro e w4 ⟨rfl, hM, hg⟩
  have hL := hL.other hg (Ne.symm hne) hM.le
  go_wp2_with fail
  refine (pending_g false 0 (by exact hL) (by kernel_rfl) (by kernel_rfl)).mono ?_
  clear hL
  rintro e w' ⟨rfl, hL, hg⟩
  have hM := hM.call hg
  go_wp2_with fail
  refine (pending_g false 0 (by exact hM) (by kernel_rfl) (by kernel_rfl)).mono ?_
  clear hM
  rintro e w5 ⟨rfl, hM, hg⟩
  go_wp2_with (go_at_call 29; refine (map2_any _ _).mono ?_; rintro e w6 ⟨rfl, rfl⟩)
  go_ret
  exact ⟨rfl, hM.bel⟩

set_option maxHeartbeats 1600000 in
theorem returns_0_136 (status cause tval pc x : Int) (hx : bits .andNot .u32 status 6144 = x) (hS : Hid (W.status (W.bitsOf x 3 1) (W.bitsOf x 7 1) (W.kmode x) = 136)) (w : World) : Calls Try.prog 4 #[.int .u32 status, .int .u32 cause, .int .u32 tval, .int .u32 pc, .bool false] w fun e w' => e = .returned (.bool true) ∧ Below w.heap.size w w' := by
  have hb : Below w.heap.size w w := Below.refl _ _
  go_enter Try.func4, Try.ntmps4
  go_wp2_with (first
    | (go_at_call 9; refine (from_ (first6_any _) hb).mono ?_; clear hb; rintro e w1 ⟨rfl, hb⟩)
    | (go_at_call 10; refine (from_ (new_any _ _) hb).mono ?_; clear hb; rintro e w2 ⟨rfl, hb⟩; unfold fileCells W.fnew))
  have hL := Ls.start (W.fnew 0) hb
  clear hb
  refine (set_g 772 8 true ⟨3, 0, 0, 8, 0, 0, 0, 0, 0, 0, 0⟩ (by exact hL) (by kernel_rfl) (by kernel_rfl)).mono ?_
  clear hL
  rintro e w' ⟨rfl, hL, hg⟩
  go_wp2_with fail
  refine (set_g 768 x true ⟨3, 0, 136, 8, 0, 0, 0, 0, 0, 0, 0⟩ (by exact hL) (by kernel_rfl) (by rw [← hS.out]; rfl)).mono ?_
  clear hL
  rintro e w' ⟨rfl, hL, hg⟩
  go_wp2_with fail
  refine (mode_g 3 (by exact hL) (by rfl)).mono ?_
  rintro e w' ⟨rfl, rfl⟩
  obtain ⟨c0, c1, c2, c3, c4, c5, c6, c7, c8, c9, c10, hz⟩ := hL.at_.cells
  simp only at c0 c1 c2 c3 c4 c5 c6 c7 c8 c9 c10
  have hlt := hL.lt
  go_wp2_with fail
  have hM := Ls.start (w := w) (wr := w') ⟨3, 0, 136, 8, 0, 0, 0, 0, 0, 0, 0⟩ hL.bel
  have hN := hL.call ((Below.refl w'.heap.size w').alloc (Nat.le_refl _) (.cells (fileCells ⟨3, 0, 136, 8, 0, 0, 0, 0, 0, 0, 0⟩) 26))
  have hne : w'.heap.size ≠ w2.heap.size := by have := hL.lt; omega
  have hc := hL.le
  clear hL c0 c1 c2 c3 c4 c5 c6 c7 c8 c9 c10 hz hlt
  have hL := hN
  clear hN
  refine (trap_g cause tval pc 0 ⟨3, 0, 6272, 8, 0, 0, W.algn pc, cause, tval, 0, 0⟩ (by exact hL) (by rfl) (by kernel_rfl)).mono ?_
  clear hL
  rintro e w' ⟨rfl, hL, hg⟩
  have hM := hM.other hg hne hc
  go_wp2_with fail
  refine (get_g 834 (cause) true (by exact hL) (by kernel_rfl) (by kernel_rfl)).mono ?_
  rintro e w' ⟨rfl, rfl⟩
  go_wp2_with fail
  refine (get_g 835 (tval) true (by exact hL) (by kernel_rfl) (by kernel_rfl)).mono ?_
  rintro e w' ⟨rfl, rfl⟩
  go_wp2_with fail
  refine (mode_g 3 (by exact hL) (by rfl)).mono ?_
  rintro e w' ⟨rfl, rfl⟩
  go_wp2_with fail
  refine (return_g (bits .andNot .u32 pc 3) ⟨3, 0, 136, 8, 0, 0, bits .andNot .u32 pc 3, cause, tval, 0, 0⟩ (by exact hL) (by rfl) (by kernel_rfl)).mono ?_
  clear hL
  rintro e w' ⟨rfl, hL, hg⟩
  have hM := hM.other hg hne hc
  go_wp2_with fail
  refine (mode_g 3 (by exact hL) (by rfl)).mono ?_
  rintro e w' ⟨rfl, rfl⟩
  go_wp2_with fail
  refine (bell_g true ⟨3, 0, 136, 8, 0, 0, bits .andNot .u32 pc 3, cause, tval, 8, 0⟩ (by exact hL) (by kernel_rfl)).mono ?_
  clear hL
  rintro e w' ⟨rfl, hL, hg⟩
  have hM := hM.other hg hne hc
  go_wp2_with fail
  refine (bell_g true ⟨3, 0, 136, 8, 0, 0, 0, 0, 0, 8, 0⟩ (by exact hM) (by kernel_rfl)).mono ?_
  clear hM
  rintro e w4 ⟨rfl, hM, hg⟩
  have hL := hL.other hg (Ne.symm hne) hM.le
  go_wp2_with fail
  refine (pending_g true 2147483651 (by exact hL) (by kernel_rfl) (by kernel_rfl)).mono ?_
  clear hL
  rintro e w' ⟨rfl, hL, hg⟩
  have hM := hM.call hg
  go_wp2_with fail
  refine (pending_g true 2147483651 (by exact hM) (by kernel_rfl) (by kernel_rfl)).mono ?_
  clear hM
  rintro e w5 ⟨rfl, hM, hg⟩
  go_wp2_with (go_at_call 29; refine (map2_any _ _).mono ?_; rintro e w6 ⟨rfl, rfl⟩)
  go_ret
  exact ⟨rfl, hM.bel⟩

end Go.Proofs.Ytbagmlcakmhhaaa
