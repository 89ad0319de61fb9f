/- Two instructions alike; the chapter's examples. -/
import Derived.Test.YthbcdlaejefkaaaDoorSee
namespace Go.Proofs.YthbcdlaejefkaaaDoor
open Go.ChangeShapes Go.WideShapes Go.ChangeAt Go.RowKit
set_option linter.unusedVariables false
set_option linter.unusedSimpArgs false

set_option maxHeartbeats 3200000 in
theorem sameInst_any (a b : W.I) (w : World) :
    Calls Tryd.prog 14 #[inV a, inV b] w fun e w' => e = .returned (.bool (W.same a b)) ∧ Below w.heap.size w w' := by
  have hb : Below w.heap.size w w := Below.refl _ _
  cases h0 : (a.op == b.op)
  case' true => cases h1 : (a.rd == b.rd)
  case' true.true => cases h2 : (a.rs1 == b.rs1)
  case' true.true.true => cases h3 : (a.rs2 == b.rs2)
  case' true.true.true.true => cases h4 : (a.csr == b.csr)
  case' true.true.true.true.true => cases h5 : (a.imm == b.imm)
  case' true.true.true.true.true.true => cases h6 : (a.aq == b.aq)
  case' true.true.true.true.true.true.true => cases h7 : (a.rl == b.rl)
  all_goals
    unfold inV
    go_enter Tryd.func14, Tryd.ntmps14
    go_wp2
    go_ret
    exact ⟨ret_bool' (by simp only [W.same, *, Bool.and_true, Bool.and_false, Bool.true_and, Bool.false_and]), (hb.alloc hb.size _).alloc (by simp) _⟩

theorem from2 {w0 w w' : World} (hb : Below w0.heap.size w0 w) (hm : Below w.heap.size w w') : Below w0.heap.size w0 w' := hb.trans (hm.mono hb.size)
theorem encE_le (i : W.I) : W.encE i ≤ 3 := by
  unfold W.encE
  cases W.known i.op <;> cases (W.layIB (W.shp i.op) i.imm && W.inRange i) <;> cases (W.same (W.only (W.shp i.op) i) i) <;> simp

set_option maxHeartbeats 3200000 in
theorem first_any (A : Nat → Addr) (w : World) (hS : Sent A w) : Calls Tryd.prog 9 #[] w fun e w' => e = .returned (.bool true) ∧ Below w.heap.size w w' := by
  have d1 : W.decI 5243027 = ⟨19, 1, 0, 0, 0, 5, false, false⟩ := by kernel_rfl
  have b1 : W.decB 5243027 = true := by kernel_rfl
  have b2 : W.decB 0 = false := by kernel_rfl
  have e1 : W.encE ⟨25, 0, 0, 0, 0, 32, false, false⟩ = 2 := by kernel_rfl
  have s1 : W.same ⟨19, 1, 0, 0, 0, 5, false, false⟩ ⟨19, 1, 0, 0, 0, 5, false, false⟩ = true := by kernel_rfl
  have n1 : (num 2 == 106) = true := by kernel_rfl
  have HS : Hid (Sent A w) := hS
  clear hS
  have hb : Below w.heap.size w w := Below.refl _ _
  generalize hv : errV A 2 = v
  have HV : Hid (v = errV A 2) := hv.symm
  clear hv
  go_enter Tryd.func9, Tryd.ntmps9
  go_wp2_with (first
    | (go_at_call_of 10 (Value.int IntKind.u32 5243027); refine (from_ (decode_any _ _) hb).mono ?_; clear hb; rintro e w1 ⟨rfl, hb⟩; rw [d1]; unfold inV)
    | (go_at_call_of 10 (Value.int IntKind.u32 0); refine (decode_any _ _).mono ?_; rintro e w2 ⟨rfl, hm⟩; have hI : Hid (InAt w1.heap.size ⟨19, 1, 0, 0, 0, 5, false, false⟩ w2) := (InAt.start w1 _ _).below hm; have hb := from2 (hb.alloc hb.size _) hm; clear hm; unfold inV)
    | (go_at_call 12; refine (encode_any A ⟨25, 0, 0, 0, 0, 32, false, false⟩ _ (HS.out.below (hb.alloc hb.size _))).mono ?_; rintro e w3 ⟨rfl, hm⟩; obtain ⟨x0, x1, x2, x3, x4, x5, x6, x7⟩ := (hI.out.below ((Below.refl _ _).alloc (Nat.le_refl _) _)).below hm; have hb := from2 (hb.alloc hb.size _) hm; clear hm; rw [e1, ← HV.out])
    | (go_at_call 14; refine (from_ (sameInst_any ⟨19, 1, 0, 0, 0, 5, false, false⟩ ⟨19, 1, 0, 0, 0, 5, false, false⟩ _) hb).mono ?_; clear hb; rintro e w4 ⟨rfl, hb⟩)
    | (go_at_call 15; rw [HV.out]; refine (from_ (is_any A 2 (by omega) _ _ (HS.out.below hb)) hb).mono ?_; clear hb; rintro e w5 ⟨rfl, hb⟩))
  go_ret
  exact ⟨rfl, hb⟩

end Go.Proofs.YthbcdlaejefkaaaDoor
