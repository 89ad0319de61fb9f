/- WalkPages: the walk. -/
import Derived.Test.YtkcdkjmkgncihaaWalkS
namespace Go.Proofs.Ytkcdkjmkgncihaa
open Go.ChangeShapes Go.WideShapes Go.ChangeAt Go.RowKit
set_option linter.unusedVariables false
set_option linter.unusedSimpArgs false

set_option maxHeartbeats 1600000 in
theorem pages_s4 (va page flags access P : Int) (f : Nat) (v0 : 0 ≤ va) (v1 : va < 4294967296) (hf : f < 256) (h193 : f &&& 193 = 193) (hF : bits .or .u32 (bits .or .u32 (bits .or .u32 (bits .and .u32 flags 62) 1) 64) 128 = f) (p0 : 0 ≤ P) (p1 : P < 1048576) (hP : bits .and .u32 page 1048575 = P) (hl : W.leaf f = true) (c1 : (bits .and .u32 (f : Int) 16 != 0) = true) (c2 : (bits .and .u32 (f : Int) (W.asked access) != 0) = true) (c3 : (bits .and .u32 (f : Int) 4 != 0) = true) (c4 : (bits .and .u32 (f : Int) 2 == 0) = false) (w : World) :
    Calls Try.prog 4 #[.int .u32 va, .int .u32 page, .bool false, .int .u32 flags, .int .i64 access, .bool true] w fun e w' => e = .returned (.bool true) ∧ Below w.heap.size w w' := by
  have hl2 : (bits .and .u32 (f : Int) 10 == 0) = false := by have h := hl; unfold W.leaf at h; simpa using h
  have hmay := W.pg_may f hf h193 hl access
  rw [c1, c2, c3, c4] at hmay
  have hs := W.pg_two va access P f v0 v1 p0 p1 hf h193 hl
  rw [show W.may (f : Int) access 0 = true by rw [hmay]; rfl] at hs
  simp only [cond_true, cond_false] at hs
  replace hs : Hid _ := hs
  have ho := W.or_hi (P * 4096) (va % 4096) 12 (by omega) (by omega) (by omega) (by omega) (by omega) (by decide) (by omega)
  have ha := W.and_4095 va v0 v1
  have hI := W.and_1023 (va / 4096) (by omega) (by omega)
  have mk2 : W.mk 2 1 = 2049 := by kernel_rfl
  have hmk := W.mk_lt P f
  generalize hE : W.mk P f = E at *
  go_enter Try.func4, Try.ntmps4
  go_wp2_with (go_at_call 7; refine (first9_any _).mono ?_; rintro x w1 ⟨rfl, hb1⟩)
  refine (make_f P (by omega) (by omega) f (by omega) (by omega) _ _ rfl).mono ?_
  rw [hE]
  rintro e w2 ⟨rfl, hb⟩
  have hb2 := bnext hb1 hb
  clear hb hb1
  go_wp2_with (fail)
  refine (make_f 2 (by decide) (by decide) 1 (by decide) (by decide) _ _ (by simp)).mono ?_
  rw [mk2]
  rintro e w3 ⟨rfl, hb⟩
  have hb3 := bnext (bnew hb2 _) hb
  clear hb hb2
  go_wp2_with (fail)
  have ol := Tw.new (4096 + 4 * (va / 4194304)) 2049 (8192 + 4 * (va / 4096 % 1024)) E w3
  refine (next_two 2147483649 0 va access 65536 (by decide) (by decide) v0 v1 _ _ _ _ _ _ _ ol (by decide) hmk _ hs.out).mono ?_
  unfold W.hereS
  dsimp only
  rintro e w4 ⟨rfl, hb⟩
  have hb4 := bnext (bnew hb3 _) hb
  clear hb hs ol
  go_wp2_with (go_at_call 15; refine (map3_any _ _).mono ?_; rintro e w' ⟨rfl, rfl⟩)
  go_ret
  exact ⟨rfl, bnew hb4 _⟩

end Go.Proofs.Ytkcdkjmkgncihaa
