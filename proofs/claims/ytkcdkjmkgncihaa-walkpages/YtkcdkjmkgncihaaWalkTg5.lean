/- WalkPages: the walk. -/
import Derived.Test.YtkcdkjmkgncihaaWalkS
namespace Go.Proofs.Ytkcdkjmkgncihaa
open Go.ChangeShapes Go.WideShapes Go.ChangeAt Go.RowKit
set_option linter.unusedVariables false
set_option linter.unusedSimpArgs false

set_option maxHeartbeats 1600000 in
theorem pages_g5 (va page flags access P : Int) (f : Nat) (v0 : 0 ≤ va) (v1 : va < 4294967296) (hf : f < 256) (h193 : f &&& 193 = 193) (hF : bits .or .u32 (bits .or .u32 (bits .or .u32 (bits .and .u32 flags 62) 1) 64) 128 = f) (p0 : 0 ≤ P) (p1 : P < 1048576) (hP : bits .andNot .u32 (bits .and .u32 page 1048575) 1023 = P) (hg : P % 1024 = 0) (hl : W.leaf f = true) (c1 : (bits .and .u32 (f : Int) 16 != 0) = true) (c2 : (bits .and .u32 (f : Int) (W.asked access) != 0) = true) (c3 : (bits .and .u32 (f : Int) 4 != 0) = true) (c4 : (bits .and .u32 (f : Int) 2 == 0) = true) (w : World) :
    Calls Try.prog 4 #[.int .u32 va, .int .u32 page, .bool true, .int .u32 flags, .int .i64 access, .bool true] w fun e w' => e = .returned (.bool true) ∧ Below w.heap.size w w' := by
  have hl2 : (bits .and .u32 (f : Int) 10 == 0) = false := by have h := hl; unfold W.leaf at h; simpa using h
  have hmay := W.pg_may f hf h193 hl access
  rw [c1, c2, c3, c4] at hmay
  have hs := W.pg_one va access _ P f v0 v1 p0 p1 hf h193 hl hg rfl
  rw [show W.may (f : Int) access 0 = false by rw [hmay]; rfl] at hs
  simp only [cond_true, cond_false] at hs
  replace hs : Hid _ := hs
  have hmk := W.mk_lt P f
  generalize hE : W.mk P f = E at *
  go_enter Try.func4, Try.ntmps4
  go_wp2_with (go_at_call 7; refine (first9_any _).mono ?_; rintro x w1 ⟨rfl, hb1⟩)
  refine (make_f P (by omega) (by omega) f (by omega) (by omega) _ _ rfl).mono ?_
  rw [hE]
  rintro e w2 ⟨rfl, hb⟩
  have hb2 := bnext hb1 hb
  clear hb hb1
  go_wp2_with (fail)
  refine (next_one 2147483649 0 va access 65536 (by decide) (by decide) v0 v1 _ _ rfl _ _ _ _ _ _ hmk.1 hmk.2 _ hs.out).mono ?_
  unfold W.fltS
  dsimp only
  rintro e w4 ⟨rfl, hb⟩
  have hb4 := bnext hb2 hb
  clear hb hs
  go_wp2_with (go_at_call 15; refine (map3_any _ _).mono ?_; rintro e w' ⟨rfl, rfl⟩)
  go_quiet ((go_at_call 13; exact Calls.quiet_of_same (cause_any _ _ _)))
  go_wp2
  go_ret
  exact ⟨rfl, below_drewN (bnew hb4 _) _⟩

end Go.Proofs.Ytkcdkjmkgncihaa
