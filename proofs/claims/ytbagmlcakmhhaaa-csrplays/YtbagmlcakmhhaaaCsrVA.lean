/- The document's registers: whether an interrupt is pending (A). -/
import Derived.Test.YtbagmlcakmhhaaaCsrS
import Derived.Deep.RegionWith
namespace Go.Proofs.Ytbagmlcakmhhaaa
open Go.ChangeShapes Go.WideShapes Go.ChangeAt Go.RowKit
set_option linter.unusedVariables false
set_option linter.unusedSimpArgs false


set_option maxHeartbeats 6400000 in
theorem rpend_A (G : W.F) (h1 : (bits .and .u32 (bits .and .u32 G.mip G.mie) 8 != 0) = false) (w : World) : Calls Try.prog 24 #[.agg (fileCells G)] w fun x w' => x = .returned (.bool false) ∧ Below w.heap.size w w' := by
  have hA := rcells G w
  go_enter Try.func24, Try.ntmps24
  have hB : Below w.heap.size w (w.alloc (.cells (fileCells G) RT)) := (Below.refl _ _).alloc (Nat.le_refl _) _
  obtain ⟨c0, c1, c2, c3, c4, c5, c6, c7, c8, c9, c10, hz⟩ := hA.cells
  have hlt := hA.lt
  unfold fileCells at *
  go_wp2
  generalize hW : World.alloc w _ = W1 at *
  generalize hK : w.heap.size = b0 at *
  clear hW
  have hu : undef = .tuple #[] := rfl
  first
   | (go_region_with (go_at_call 27; refine (rreg_any G _ rfl _).mono ?_; rintro e w1 ⟨rfl, hb⟩; replace hB : Below b0 w w1 := ⟨hb.os.trans hB.os, hb.tape.trans hB.tape, hb.output.trans hB.output, Nat.le_trans hB.size hb.size, fun i hi => (hb.block i (by have := hA.lt; exact Nat.lt_trans hi this)).trans (hB.block i hi)⟩; replace hA : At RT b0 G w1 := ⟨(hb.block _ (by exact hA.lt)).trans hA.out⟩; clear c0 c1 c2 c3 c4 c5 c6 c7 c8 c9 c10 hz hlt hb; obtain ⟨c0, c1, c2, c3, c4, c5, c6, c7, c8, c9, c10, hz⟩ := hA.cells; have hlt := hA.lt; first | rw [show W.reg G 836 = G.mip from rfl] | rw [show W.reg G 772 = G.mie from rfl] | rw [show W.reg G 768 = G.st from rfl]))
   | fail
  all_goals
    go_wp2
    go_ret
    exact ⟨rfl, by rw [hK]; exact hB⟩
end Go.Proofs.Ytbagmlcakmhhaaa
