/- A list of calls in one region, each by its contract; and the rows of the document's table. -/
import Derived.Test.YthbcdlaejefkaaaDoorFirst
import Derived.Great.BuildSlice
import Derived.Great.CaseRows
namespace Go.Proofs.YthbcdlaejefkaaaDoor
open Go.ChangeShapes Go.WideShapes Go.ChangeAt Go.RowKit
set_option linter.unusedVariables false
set_option linter.unusedSimpArgs false

/-- The values in the slots from n on. -/
def puts (a : Act) : Nat → List Value → Act
  | _, [] => a
  | n, v :: vs => puts (a.put (some n) v) (n + 1) vs
/-- Each operation is a call that hands back the value, whatever the frame. -/
def Good (P : Program) : Nat → List Oper → List Value → Prop
  | _, [], [] => True
  | n, o :: l, v :: vs => (o.guard = none ∧ o.dst = some n ∧ ∃ f args, (∀ a : Act, ∀ w, (execOp a.eval o).run P w = .ok (.enter f args) w) ∧ ∀ w, Calls P f args w fun e w' => e = .returned v ∧ Below w.heap.size w w') ∧ Good P (n + 1) l vs
  | _, _, _ => False
theorem wpList_calls {P : Program} {ops : Array Oper} {rest : List Oper} {Q : Exit → Act → World → Prop} : ∀ (l : List Oper) (vs : List Value) (n : Nat) (a : Act) (w : World), Good P n l vs →
    (∀ w', Below w.heap.size w w' → wpList P ops Q rest (puts a n vs) w') → wpList P ops Q (l ++ rest) a w
  | [], [], n, a, w, _, h => h w (Below.refl _ _)
  | o :: l, v :: vs, n, a, w, ⟨⟨hg, hd, f, args, hrun, hc⟩, hr⟩, h => by
    refine wpList_plain hg fun K hK => ?_
    unfold Oper.wp
    rw [hrun, Oper.upon_enter]
    refine (hc w).mono fun e w'' hh => ?_
    obtain ⟨rfl, hb⟩ := hh
    rw [hd]
    exact hK _ _ (wpList_calls l vs (n + 1) _ w'' hr fun w' hb' => h w' (hb.trans (hb'.mono hb.size)))
  | [], _ :: _, _, _, _, hf, _ => absurd hf (by simp [Good])
  | _ :: _, [], _, _, _, hf, _ => absurd hf (by simp [Good])
end Go.Proofs.YthbcdlaejefkaaaDoor
