/- What a line is told, in memory. -/
import Derived.Test.YtogchippkenppaaLonA0
namespace Go.Proofs.Ytogchippkenppaa
open Go.ChangeShapes Go.WideShapes Go.ChangeAt Go.RowKit
set_option linter.unusedVariables false
structure W.Do where
  k : Int
  wr : Bool
  x0 : Int
  x1 : Int
  x2 : Int
  x3 : Int
  m : W.Mg
def W.do0 : W.Do := ⟨0, false, 0, 0, 0, 0, W.mg0⟩
def doL (d : W.Do) : List Value := [.int .i64 d.k, .bool d.wr, .int .u32 d.x0, .int .u32 d.x1, .int .u32 d.x2, .int .u32 d.x3] ++ mgL d.m
theorem do_msg {w : World} {b o : Nat} {d : W.Do} (h : w.rangeAt b o (doL d)) : w.rangeAt b (o + 6) (mgL d.m) := fun j v hv => by
  have e : (doL d)[6 + j]? = some v := by
    unfold doL
    rw [List.getElem?_append_right (by simp)]
    simpa using hv
  have := h (6 + j) v e
  rw [Nat.add_assoc]
  exact this
end Go.Proofs.Ytogchippkenppaa
