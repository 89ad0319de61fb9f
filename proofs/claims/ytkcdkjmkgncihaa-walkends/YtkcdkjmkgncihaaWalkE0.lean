/- The way down, way 0. -/
import Derived.Test.YtkcdkjmkgncihaaWalkD
namespace Go.Proofs.Ytkcdkjmkgncihaa
open Go.ChangeShapes Go.WideShapes Go.ChangeAt Go.RowKit
set_option linter.unusedVariables false
set_option linter.unusedSimpArgs false

set_option maxHeartbeats 1600000 in
theorem down_0 (mode va acc bytes table : Int) (v0 : 0 ≤ va) (v1 : va < 4294967296) (t0 : 0 ≤ table) (t1 : table < 4294967296) (a : Option Addr) (n cap : Nat) (hm : n ≤ maxLen) (w : World)
    (c1 : W.entB table va bytes true = false) :
    Calls Try.prog 17 #[.agg #[.int .i64 mode, .int .u32 va, .int .i64 acc, .int .i64 bytes], .int .u32 table, .slice a n cap] w fun x w' => x = .returned (.tuple #[(W.fltS acc false).val, .int .i64 0]) ∧ Below w.heap.size w w' := by
  have d0 := Dw.first (mode := mode) (va := va) (acc := acc) (bytes := bytes) w
  have hent := fun w => entry_any mode va acc bytes table true v0 v1 t0 t1 w
  rw [c1] at hent
  simp only [cond_true, cond_false] at hent
  generalize W.entA table va true = E1 at *
  unfold W.Stp.val W.fltS
  dsimp only
  go_enter Try.func17, Try.ntmps17
  go_wp2
  refine wp_loop_rounds 3 ?_
  rw [rounds_succ]
  go_wp2_with (fail)
  refine (hent _).mono ?_
  rintro e w1 ⟨rfl, hb⟩
  have d1 := d0.below hb
  clear d0 hb hent
  obtain ⟨g0, g1, g2, g3⟩ := way_cells d1.way
  obtain ⟨f0, f1, f2, f3, f4, fz⟩ := res_cells d1.res
  have l2 := d1.lt
  have l1 : w.heap.size < w1.heap.size := by omega
  go_wp2_with (first
    | (go_at_call 19; refine (fault_any _ _ _ _ _ _).mono ?_; rintro e wf ⟨rfl, hbf⟩; have d9 := d1.below hbf; clear f0 f1 f2 f3 f4 fz; obtain ⟨f0, f1, f2, f3, f4, fz⟩ := res_cells d9.res))
  exact bodyPost_ret (v := .tuple #[.agg #[.int .i64 2, .int .u32 0, .int .u32 0, .int .u32 0, .int .u32 (W.cause acc false)], .int .i64 0]) (by simp [results, Try.results17, go_sem, *]) rfl ⟨rfl, fin5 d9.base (by omega) _ _ _ _ _⟩
end Go.Proofs.Ytkcdkjmkgncihaa
