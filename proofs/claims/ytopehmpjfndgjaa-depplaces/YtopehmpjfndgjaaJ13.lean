/- Texts in one: IsaO. -/
import Derived.Test.YtopehmpjfndgjaaJ12
/- What only returns: an instruction without the fields that its shape has no use for. -/
namespace Go.Proofs.Ytopehmpjfndgjaa
open Go.ChangeShapes Go.WideShapes Go.ChangeAt Go.RowKit
set_option linter.unusedVariables false
set_option linter.unusedSimpArgs false

set_option maxHeartbeats 12800000 in
theorem only_any (s : W.Sh) (hs : W.okSh s = true) (i : W.I) (w : World) :
    Calls Try.prog 45 #[shV s, inV i] w fun e w' => e = .returned (inV (W.only s i)) ∧ Below w.heap.size w w' := by
  have hb : Below w.heap.size w w := Below.refl _ _
  obtain ⟨fixed, rd, rs1, rs2, csr, ord, fmt, low, size⟩ := s
  unfold shV
  cases h5 : W.hasI fmt size <;> cases rd <;> cases rs1 <;> cases rs2 <;> cases csr <;> cases ord <;> first | (exfalso; revert hs; simp [W.okSh, W.hasImm, h5]; done) | clear hs
  all_goals
    unfold inV
    go_enter Try.func45, Try.ntmps45
    go_wp2_with (go_at_call 52; refine (hasImm_ex _ _ _ _ _ _ _ _ _ _).mono ?_; rintro e w' ⟨rfl, rfl⟩)
    refine bodyPost_ret (v := inV (W.only _ i)) ?_ rfl ⟨rfl, ?_⟩
    · simp [results, Try.results45, go_sem, inV, W.only, W.hasImm, h5]
    · repeat (first | exact hb | refine Below.setCell ?_ (by simp; try omega) _ | refine Below.alloc ?_ (by simp; try omega) _)

end Go.Proofs.Ytopehmpjfndgjaa
