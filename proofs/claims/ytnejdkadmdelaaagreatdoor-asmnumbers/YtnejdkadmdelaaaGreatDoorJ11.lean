/- Texts in one: First. -/
import Derived.Test.YtnejdkadmdelaaaGreatDoorJ10
/- Two instructions alike; the chapter's examples. -/
namespace Go.Proofs.YtnejdkadmdelaaaGreatDoor
open Go.ChangeShapes Go.WideShapes Go.ChangeAt Go.RowKit
set_option linter.unusedVariables false
set_option linter.unusedSimpArgs false

set_option maxHeartbeats 3200000 in
theorem sameInst_any (a b : W.I) (w : World) :
    Calls Tryz.prog 15 #[inV a, inV b] w fun e w' => e = .returned (.bool (W.same a b)) ∧ Below w.heap.size w w' := by
  have hb : Below w.heap.size w w := Below.refl _ _
  cases h0 : (a.op == b.op)
  case' true => cases h1 : (a.rd == b.rd)
  case' true.true => cases h2 : (a.rs1 == b.rs1)
  case' true.true.true => cases h3 : (a.rs2 == b.rs2)
  case' true.true.true.true => cases h4 : (a.csr == b.csr)
  case' true.true.true.true.true => cases h5 : (a.imm == b.imm)
  case' true.true.true.true.true.true => cases h6 : (a.aq == b.aq)
  case' true.true.true.true.true.true.true => cases h7 : (a.rl == b.rl)
  all_goals
    unfold inV
    go_enter Tryz.func15, Tryz.ntmps15
    go_wp2
    go_ret
    exact ⟨ret_bool' (by simp only [W.same, *, Bool.and_true, Bool.and_false, Bool.true_and, Bool.false_and]), (hb.alloc hb.size _).alloc (by simp) _⟩

theorem from2 {w0 w w' : World} (hb : Below w0.heap.size w0 w) (hm : Below w.heap.size w w') : Below w0.heap.size w0 w' := hb.trans (hm.mono hb.size)
theorem encE_le (i : W.I) : W.encE i ≤ 3 := by
  unfold W.encE
  cases W.known i.op <;> cases (W.layIB (W.shp i.op) i.imm && W.inRange i) <;> cases (W.same (W.only (W.shp i.op) i) i) <;> simp

end Go.Proofs.YtnejdkadmdelaaaGreatDoor
