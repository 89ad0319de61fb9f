/- WalkOdd: the walk. -/
import Derived.Test.YtkcdkjmkgncihaaWalkH
import Derived.Test.YtkcdkjmkgncihaaWalkN
namespace Go.Proofs.Ytkcdkjmkgncihaa
open Go.ChangeShapes Go.WideShapes Go.ChangeAt Go.RowKit
set_option linter.unusedVariables false
set_option linter.unusedSimpArgs false

set_option maxHeartbeats 1600000 in
theorem walkOdd_zero (va by_ sort : Int) (v0 : 0 ≤ va) (v1 : va < 4294967296) (hB : bits .and .u32 by_ 65532 = 0) (w : World) :
    Calls Try.prog 6 #[.int .u32 va, .int .u32 by_, .int .i64 sort] w fun e w' => e = .returned (.bool true) ∧ Below w.heap.size w w' := by
  have hI := W.and_1023 (va / 4096) (by omega) (by omega)
  have mk2 : W.mk 2 1 = 2049 := by kernel_rfl
  go_enter Try.func6, Try.ntmps6
  go_wp2_with (go_at_call 7; refine (first9_any _).mono ?_; rintro x w1 ⟨rfl, hb1⟩)
  generalize wrap64 ((wrap64 (sort.tmod 3 + 3)).tmod 3 + 1) = s at *
  refine (make_f 2 (by decide) (by decide) 1 (by decide) (by decide) _ _ rfl).mono ?_
  rw [mk2]
  rintro e w2 ⟨rfl, hb⟩
  have hb2 := bnext hb1 hb
  clear hb hb1
  go_wp2_with (fail)
  refine (next_one 2147483649 0 va s 65536 (by decide) (by decide) v0 v1 _ _ rfl _ _ _ _ _ _ (by decide) (by decide) _ (W.odd_more va s _ v0 v1 (by omega))).mono ?_
  unfold W.moreS
  dsimp only
  rintro e w3 ⟨rfl, hb⟩
  have hb3 := bnext hb2 hb
  clear hb hb2
  go_wp2_with (fail)
  have ox := Sp.new 3 0 (8192 + 4 * (va / 4096 % 1024)) 0 0 w3
  refine (next_nil 2147483649 0 va s 4096 (by decide) (by decide) v0 v1 _ _ _ _ (W.odd_y va s v0 v1)).mono ?_
  unfold W.fltS
  dsimp only
  rintro e w4 ⟨rfl, hb⟩
  replace ox := ox.below hb
  have hb4 := bnext (bnew hb3 _) hb
  clear hb hb3
  go_wp2_with (fail)
  have oy := Sp.new 2 0 0 0 (W.cause s false) w4
  refine (next_one 0 0 va s 65536 (by decide) (by decide) v0 v1 _ _ (by simp) _ _ _ _ _ _ (by decide) (by decide) _ (W.odd_z va s _ _)).mono ?_
  unfold W.fltS
  dsimp only
  rintro e w5 ⟨rfl, hb⟩
  replace ox := (ox.alloc _).below hb
  replace oy := oy.below hb
  have hb5 := bnext (bnew hb4 _) hb
  clear hb hb4
  obtain ⟨x0, x1, x2, x3, x4, xz⟩ := ox.cells
  obtain ⟨y0, y1, y2, y3, y4, yz⟩ := oy.cells
  have lx := ox.lt
  have ly := oy.lt
  go_wp2_with (fail)
  go_quiet ((go_at_call 13; exact Calls.quiet_of_same (cause_any _ _ _)))
  go_wp2
  go_ret
  exact ⟨rfl, below_drewN (bnew hb5 _) _⟩

set_option maxHeartbeats 1600000 in
theorem walkOdd_some (va by_ sort B : Int) (v0 : 0 ≤ va) (v1 : va < 4294967296) (hB : bits .and .u32 by_ 65532 = B) (b0 : 0 < B) (b1 : B ≤ 65532) (w : World) :
    Calls Try.prog 6 #[.int .u32 va, .int .u32 by_, .int .i64 sort] w fun e w' => e = .returned (.bool true) ∧ Below w.heap.size w w' := by
  have hI := W.and_1023 (va / 4096) (by omega) (by omega)
  have mk2 : W.mk 2 1 = 2049 := by kernel_rfl
  have hs : (4096 + 4 * (va / 4194304) + B) % 4294967296 = 4096 + 4 * (va / 4194304) + B := by omega
  have hq : (B == 0) = false := by simp; omega
  go_enter Try.func6, Try.ntmps6
  go_wp2_with (go_at_call 7; refine (first9_any _).mono ?_; rintro x w1 ⟨rfl, hb1⟩)
  generalize wrap64 ((wrap64 (sort.tmod 3 + 3)).tmod 3 + 1) = s at *
  refine (make_f 2 (by decide) (by decide) 1 (by decide) (by decide) _ _ rfl).mono ?_
  rw [mk2]
  rintro e w2 ⟨rfl, hb⟩
  have hb2 := bnext hb1 hb
  clear hb hb1
  go_wp2_with (fail)
  refine (next_one 2147483649 0 va s 65536 (by decide) (by decide) v0 v1 _ _ rfl _ _ _ _ _ _ (by decide) (by decide) _ (W.odd_flt va s _ v0 v1 (by omega))).mono ?_
  unfold W.fltS
  dsimp only
  rintro e w3 ⟨rfl, hb⟩
  have hb3 := bnext hb2 hb
  clear hb hb2
  go_wp2_with (fail)
  have ox := Sp.new 2 0 0 0 (W.cause s true) w3
  refine (next_nil 2147483649 0 va s 4096 (by decide) (by decide) v0 v1 _ _ _ _ (W.odd_y va s v0 v1)).mono ?_
  unfold W.fltS
  dsimp only
  rintro e w4 ⟨rfl, hb⟩
  replace ox := ox.below hb
  have hb4 := bnext (bnew hb3 _) hb
  clear hb hb3
  go_wp2_with (fail)
  have oy := Sp.new 2 0 0 0 (W.cause s false) w4
  refine (next_one 0 0 va s 65536 (by decide) (by decide) v0 v1 _ _ (by simp) _ _ _ _ _ _ (by decide) (by decide) _ (W.odd_z va s _ _)).mono ?_
  unfold W.fltS
  dsimp only
  rintro e w5 ⟨rfl, hb⟩
  replace ox := (ox.alloc _).below hb
  replace oy := oy.below hb
  have hb5 := bnext (bnew hb4 _) hb
  clear hb hb4
  obtain ⟨x0, x1, x2, x3, x4, xz⟩ := ox.cells
  obtain ⟨y0, y1, y2, y3, y4, yz⟩ := oy.cells
  have lx := ox.lt
  have ly := oy.lt
  go_wp2_with (fail)
  go_quiet ((go_at_call 13; exact Calls.quiet_of_same (cause_any _ _ _)))
  go_wp2_with (fail)
  have oz := Sp.new 2 0 0 0 (W.cause s true) w5
  clear x0 x1 x2 x3 x4 xz y0 y1 y2 y3 y4 yz lx ly
  replace oz := oz.below (below_drewN (Below.refl _ _) nq)
  replace oy := (oy.alloc (.cells #[.int .i64 2, .int .u32 0, .int .u32 0, .int .u32 0, .int .u32 (W.cause s true)] 28)).below (below_drewN (Below.refl _ _) nq)
  replace hb5 := below_drewN (bnew hb5 (.cells #[.int .i64 2, .int .u32 0, .int .u32 0, .int .u32 0, .int .u32 (W.cause s true)] 28)) nq
  generalize World.drewN (World.alloc w5 _) _ = W6 at *
  obtain ⟨x0, x1, x2, x3, x4, xz⟩ := oz.cells
  obtain ⟨y0, y1, y2, y3, y4, yz⟩ := oy.cells
  go_quiet ((go_at_call 13; exact Calls.quiet_of_same (cause_any _ _ _)))
  go_wp2
  go_ret
  exact ⟨rfl, below_drewN hb5 _⟩

theorem walkOdd_walk (va by_ sort : Int) (v0 : 0 ≤ va) (v1 : va < 4294967296) (b0 : 0 ≤ by_) (b1 : by_ < 4294967296) (s0 : -9223372036854775808 ≤ sort) (s1 : sort ≤ 9223372036854775807) (w : World) :
    Calls Try.prog 6 #[.int .u32 va, .int .u32 by_, .int .i64 sort] w fun e w' => e = .returned (.bool true) ∧ Below w.heap.size w w' := by
  have h : bits .and .u32 by_ 65532 = ((by_.toNat &&& 65532 : Nat) : Int) := u32_and by_ 65532 b0 b1 (by decide) (by decide)
  have hle : by_.toNat &&& 65532 ≤ 65532 := Nat.and_le_right
  by_cases hz : by_.toNat &&& 65532 = 0
  · exact walkOdd_zero va by_ sort v0 v1 (by rw [h, hz]; rfl) w
  · exact walkOdd_some va by_ sort _ v0 v1 h (by omega) (by omega) w
end Go.Proofs.Ytkcdkjmkgncihaa
