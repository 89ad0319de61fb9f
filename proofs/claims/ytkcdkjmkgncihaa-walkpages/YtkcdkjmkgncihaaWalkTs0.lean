/- WalkPages: the walk. -/
import Derived.Test.YtkcdkjmkgncihaaWalkS
namespace Go.Proofs.Ytkcdkjmkgncihaa
open Go.ChangeShapes Go.WideShapes Go.ChangeAt Go.RowKit
set_option linter.unusedVariables false
set_option linter.unusedSimpArgs false

set_option maxHeartbeats 1600000 in
theorem pages_s0 (va page flags access P : Int) (f : Nat) (v0 : 0 ≤ va) (v1 : va < 4294967296) (hf : f < 256) (h193 : f &&& 193 = 193) (hF : bits .or .u32 (bits .or .u32 (bits .or .u32 (bits .and .u32 flags 62) 1) 64) 128 = f) (p0 : 0 ≤ P) (p1 : P < 1048576) (hP : bits .and .u32 page 1048575 = P) (hl : W.leaf f = false) (w : World) :
    Calls Try.prog 4 #[.int .u32 va, .int .u32 page, .bool false, .int .u32 flags, .int .i64 access, .bool true] w fun e w' => e = .returned (.bool true) ∧ Below w.heap.size w w' := by
  have hl2 : (bits .and .u32 (f : Int) 10 == 0) = true := by have h := hl; unfold W.leaf at h; simpa using h
  have hmk := W.mk_lt P f
  generalize hE : W.mk P f = E at *
  go_enter Try.func4, Try.ntmps4
  go_wp2_with (go_at_call 7; refine (first9_any _).mono ?_; rintro x w1 ⟨rfl, hb1⟩)
  refine (make_f P (by omega) (by omega) f (by omega) (by omega) _ _ rfl).mono ?_
  rw [hE]
  rintro e w2 ⟨rfl, hb⟩
  have hb2 := bnext hb1 hb
  clear hb hb1
  go_wp2
  go_ret
  exact ⟨rfl, hb2⟩

end Go.Proofs.Ytkcdkjmkgncihaa
