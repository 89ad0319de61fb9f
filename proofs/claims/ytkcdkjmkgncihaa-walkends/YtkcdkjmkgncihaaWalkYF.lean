/- WalkEnds, way F. -/
import Derived.Test.YtkcdkjmkgncihaaWalkW
import Derived.Deep.CutRange
import Derived.Deep.CutBlock
namespace Go.Proofs.Ytkcdkjmkgncihaa
open Go.ChangeShapes Go.WideShapes Go.ChangeAt Go.RowKit
set_option linter.unusedVariables false
set_option linter.unusedSimpArgs false

set_option maxRecDepth 100000 in
set_option maxHeartbeats 6400000 in
theorem ends_F (satp mode va acc : Int) (s0 : 0 ≤ satp) (s1 : satp < 4294967296) (v0 : 0 ≤ va) (v1 : va < 4294967296) (a : Option Addr) (n cap : Nat) (u : Nat → Int) (w : World) (hn : n ≤ 64) (hwd : Wd a n cap u w) (hu : ∀ j, 0 ≤ u j ∧ u j < 4294967296)
    (pf : Bool) (h0 : W.nextS satp mode va acc (4 * n) 0 (fun _ => 0) (fun _ => 0) = W.fltS acc pf) :
    Calls Try.prog 3 #[.slice a n cap, .int .u32 satp, .int .i64 mode, .int .u32 va, .int .i64 acc] w fun x w' => x = .returned (.bool true) ∧ Below w.heap.size w w' := by
  replace h0 : Hid _ := h0
  clear hu
  go_enter Try.func3, Try.ntmps3
  go_wp2_with (first
    | (go_at_call 7; refine (first9_any _).mono ?_; rintro x w1 ⟨rfl, hb1⟩)
    | (go_at_call 8; refine (hwd _ hb1).mono ?_; rintro x w2 ⟨am, cm, rfl, hmw, hb2⟩; replace hb2 := bnext hb1 hb2; clear hmw hb1 hwd))
  have hbW : Below w2.heap.size w2 w2 := Below.refl _ _
  refine wp_loop_rounds 7 ?_
  rw [rounds_succ]
  go_wp2_with (fail)
  refine (next_nil satp mode va acc (4 * n) s0 s1 v0 v1 _ _ _ _ h0.out).mono ?_
  unfold W.fltS
  dsimp only
  rintro x w5 ⟨rfl, hb⟩
  have hbm := bnext hbW hb
  clear hb h0 hbW
  go_wp2_with (fail)
  cases he : (W.cause acc pf == W.cause acc true)
  all_goals
    have he2 : Hid ((W.cause acc pf == W.cause acc true) = false → (W.cause acc pf == W.cause acc false) = true) := by intro h; cases pf; simp; simp at h
    first | (have he4 := he2.out he) | skip
    clear he2
    go_quiet ((go_at_call 13; exact Calls.quiet_of_same (cause_any _ _ _)))
    go_wp2
    go_ret
    exact ⟨rfl, bnext hb2 (below_drewN (bnew hbm _) _)⟩
end Go.Proofs.Ytkcdkjmkgncihaa
