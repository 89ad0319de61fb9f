/- LoneAnswers: the law on numbers. -/
import Derived.Test.YtogchippkenppaaLonM
namespace Go.Proofs.Ytogchippkenppaa
set_option linter.unusedVariables false
namespace W
/-- What the line is, what the law has of it. -/
inductive An (x0 x1 x2 x3 : Int) : Lo → Bool → Bool → Prop
  | i : An x0 x1 x2 x3 ⟨0, 0, 0, 0, 0, 0, 0, 0⟩ false false
  | s : An x0 x1 x2 x3 ⟨0, 0, 0, 1, x0, x1, x2, x3⟩ false false
  | e : An x0 x1 x2 x3 ⟨0, 0, 0, 2, x0, x1, x2, x3⟩ false false
  | m : An x0 x1 x2 x3 ⟨0, 0, 0, 4, x0, x1, x2, x3⟩ true false
  | pe : An x0 x1 x2 x3 ⟨0, 0, 3, 2, x0, x1, x2, x3⟩ false false
  | pm : An x0 x1 x2 x3 ⟨0, 0, 3, 4, x0, x1, x2, x3⟩ false true
variable {x0 x1 x2 x3 : Int} {s : Lo} {D K : Bool}
theorem An.ask (h : An x0 x1 x2 x3 s D K) (wr : Bool) : s.ask wr = (s, [], false) ∨ ∃ s1 m, s.ask wr = (s1, [m], true) ∧ An x0 x1 x2 x3 (s1.take ⟨7, 0, -1, 0, x0, x1, x2, x3, true, false, wr⟩).1 D K := by
  cases h <;> cases wr
  all_goals
    first
      | exact Or.inl rfl
      | exact Or.inr ⟨_, _, rfl, An.i⟩
      | exact Or.inr ⟨_, _, rfl, An.s⟩
      | exact Or.inr ⟨_, _, rfl, An.e⟩
theorem An.evict (h : An x0 x1 x2 x3 s D K) : s.evict = (s, [], false) ∨ (∃ s1, s.evict = (s1, [], true) ∧ D = false ∧ K = false ∧ An x0 x1 x2 x3 s1 false false) ∨ ∃ s1 k h' a, s.evict = (s1, [⟨k, 0, 0, -1, x0, x1, x2, x3, h', D, a⟩], true) ∧ K = false ∧ An x0 x1 x2 x3 s1 false D ∧ An x0 x1 x2 x3 (s1.take ⟨9, 0, -1, 0, 0, 0, 0, 0, false, false, false⟩).1 false false := by
  cases h
  · exact Or.inl rfl
  · exact Or.inr (Or.inl ⟨_, rfl, rfl, rfl, An.i⟩)
  · exact Or.inr (Or.inr ⟨_, _, _, _, rfl, rfl, An.pe, An.i⟩)
  · exact Or.inr (Or.inr ⟨_, _, _, _, rfl, rfl, An.pm, An.i⟩)
  · exact Or.inl rfl
  · exact Or.inl rfl
theorem An.set (h : An x0 x1 x2 x3 s D K) : s.set x0 x1 x2 x3 = (s, false) ∨ ∃ s1, s.set x0 x1 x2 x3 = (s1, true) ∧ An x0 x1 x2 x3 s1 true K := by
  cases h
  · exact Or.inl rfl
  · exact Or.inl rfl
  · exact Or.inr ⟨_, rfl, An.m⟩
  · exact Or.inr ⟨_, rfl, An.m⟩
  · exact Or.inl rfl
  · exact Or.inl rfl
def dn0 (k : Int) : Mg := ⟨k, 0, -1, 0, 0, 0, 0, 0, false, false, false⟩
theorem An.tk (h : An x0 x1 x2 x3 s D K) : s.tk (dn0 4) = true ∧ s.tk (dn0 5) = true ∧ s.tk (dn0 6) = true := by
  cases h <;> exact ⟨rfl, rfl, rfl⟩
theorem An.inv (h : An x0 x1 x2 x3 s D K) : ∃ s1 l, s.take (dn0 4) = (s1, [lmk 0 0 10], l) ∧ s1.st = 0 := by
  cases h <;> exact ⟨_, _, rfl, rfl⟩
theorem An.share (h : An x0 x1 x2 x3 s D K) : ∃ s1 y0 y1 y2 y3 hh l, s.take (dn0 5) = (s1, [⟨11, 0, 0, -1, y0, y1, y2, y3, hh, D || K, false⟩], l) ∧ ((D || K) = true → hh = true ∧ y0 = x0 ∧ y1 = x1 ∧ y2 = x2 ∧ y3 = x3) := by
  cases h
  all_goals
    first
      | exact ⟨_, _, _, _, _, _, _, rfl, fun h => ⟨rfl, rfl, rfl, rfl, rfl⟩⟩
      | exact ⟨_, _, _, _, _, _, _, rfl, fun h => Bool.noConfusion h⟩
theorem An.tak (h : An x0 x1 x2 x3 s D K) : ∃ s1 y0 y1 y2 y3 hh l, s.take (dn0 6) = (s1, [⟨11, 0, 0, -1, y0, y1, y2, y3, hh, D || K, false⟩], l) ∧ s1.st = 0 ∧ ((D || K) = true → hh = true ∧ y0 = x0 ∧ y1 = x1 ∧ y2 = x2 ∧ y3 = x3) := by
  cases h
  all_goals
    first
      | exact ⟨_, _, _, _, _, _, _, rfl, rfl, fun h => ⟨rfl, rfl, rfl, rfl, rfl⟩⟩
      | exact ⟨_, _, _, _, _, _, _, rfl, rfl, fun h => Bool.noConfusion h⟩
end W
end Go.Proofs.Ytogchippkenppaa
