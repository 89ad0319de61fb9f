/- What each function of package enc returns, as a plain function of its numbers: a contract a function. -/
import Derived.Test.YtbagmlcakmhhaaaPack
import Derived.Test.YtbagmlcakmhhaaaMathE
namespace Go.Proofs.Ytbagmlcakmhhaaa
open Go.ChangeShapes Go.WideShapes Go.ChangeAt Go.RowKit
set_option linter.unusedVariables false

theorem one_cells (w : World) (t : TypeId) (a b c : Value) : (w.alloc (.cells #[a, b, c] t)).cell? ⟨w.heap.size, 0, none⟩ = some a ∧ (w.alloc (.cells #[a, b, c] t)).cell? ⟨w.heap.size, 1, none⟩ = some b ∧ (w.alloc (.cells #[a, b, c] t)).cell? ⟨w.heap.size, 2, none⟩ = some c := by
  simp [go_sem]

/-- A layout, as the program has it. -/
def layoutV (f : Int) : Value := .agg #[.int .i64 (W.wid f), .int .i64 (W.pW f 0), .int .i64 (W.pI f 0), .int .i64 (W.pN f 0), .int .i64 (W.pW f 1), .int .i64 (W.pI f 1), .int .i64 (W.pN f 1), .int .i64 (W.pW f 2), .int .i64 (W.pI f 2), .int .i64 (W.pN f 2), .int .i64 (W.pW f 3), .int .i64 (W.pI f 3), .int .i64 (W.pN f 3)]

theorem layout_other (f : Int) (h : ¬ W.isF f) : W.wid f = 0 ∧ W.pieces f = [] := by
  unfold W.isF at h
  simp only [not_or] at h
  obtain ⟨h1, h2, h3, h4, h5⟩ := h
  simp [W.wid, W.pieces, h1, h2, h3, h4, h5]

theorem keep_cell {w wr w' : World} {g : Nat} {o : Obj} {v : Value} (hbl : Below w.heap.size w wr) (hc : wr.cell? ⟨g, 0, none⟩ = some v) (hs : g < wr.heap.size) (hm : Below (wr.alloc o).heap.size (wr.alloc o) w') :
    Below w.heap.size w w' ∧ w'.cell? ⟨g, 0, none⟩ = some v ∧ g < w'.heap.size := by
  have hz := hbl.size
  have hz2 := hm.size
  have hz3 : (wr.alloc o).heap.size = wr.heap.size + 1 := by simp
  refine ⟨(hbl.alloc hz _).trans (hm.mono (by omega)), ?_, by omega⟩
  refine (hm.cell (p := ⟨g, 0, none⟩) (by show g < _; omega)).trans ?_
  rw [World.cell?_alloc_past _ _ _ hs]
  exact hc

end Go.Proofs.Ytbagmlcakmhhaaa
