/- Texts in one: HartJ26, HartJ27. -/
import Derived.Test.YteilpehekabccabGreatDoorJ27
/- Is an event as it has to be? Way 6. -/
namespace Go.Proofs.YteilpehekabccabGreatDoor
open Go.ChangeShapes Go.WideShapes Go.ChangeAt Go.RowKit
set_option linter.unusedVariables false
set_option linter.unusedSimpArgs false

set_option maxHeartbeats 3200000 in
theorem same_6 (e d : W.Ev) (h0 : (e.k == d.k) = true) (h1 : (e.pc == d.pc) = true) (h2 : (e.wd == d.wd) = true) (h3 : (e.fpa == d.fpa) = true) (h4 : (e.pa == d.pa) = true) (h5 : (e.ld == d.ld) = true) (h6 : (e.ca == d.ca) = false) (w : World)  : Calls Tryz.prog 15 #[.agg (evCells e), .agg (evCells d)] w fun x w' => x = .returned (.bool false) ∧ Below w.heap.size w w' := by
  obtain ⟨k, pc, wd, fpa, pa, ld, ⟨fa, fn, fc⟩, ⟨wa, wn, wc⟩, ca, tv, dn, fat, at_⟩ := e
  obtain ⟨dk, dpc, dwd, dfpa, dpa, dld, ⟨dfa, dfn, dfc⟩, ⟨dwa, dwn, dwc⟩, dca, dtv, ddn, dfat, dat_⟩ := d
  unfold evCells
  dsimp only at *
  go_enter Tryz.func15, Tryz.ntmps15
  go_wp2
  go_ret
  exact ⟨rfl, ((Below.refl _ _).alloc (Nat.le_refl _) _).alloc (by simp) _⟩
end Go.Proofs.YteilpehekabccabGreatDoor

/- Is an event as it has to be? Way 7. -/
namespace Go.Proofs.YteilpehekabccabGreatDoor
open Go.ChangeShapes Go.WideShapes Go.ChangeAt Go.RowKit
set_option linter.unusedVariables false
set_option linter.unusedSimpArgs false

set_option maxHeartbeats 3200000 in
theorem same_7 (e d : W.Ev) (h0 : (e.k == d.k) = true) (h1 : (e.pc == d.pc) = true) (h2 : (e.wd == d.wd) = true) (h3 : (e.fpa == d.fpa) = true) (h4 : (e.pa == d.pa) = true) (h5 : (e.ld == d.ld) = true) (h6 : (e.ca == d.ca) = true) (h7 : (e.tv == d.tv) = false) (w : World)  : Calls Tryz.prog 15 #[.agg (evCells e), .agg (evCells d)] w fun x w' => x = .returned (.bool false) ∧ Below w.heap.size w w' := by
  obtain ⟨k, pc, wd, fpa, pa, ld, ⟨fa, fn, fc⟩, ⟨wa, wn, wc⟩, ca, tv, dn, fat, at_⟩ := e
  obtain ⟨dk, dpc, dwd, dfpa, dpa, dld, ⟨dfa, dfn, dfc⟩, ⟨dwa, dwn, dwc⟩, dca, dtv, ddn, dfat, dat_⟩ := d
  unfold evCells
  dsimp only at *
  go_enter Tryz.func15, Tryz.ntmps15
  go_wp2
  go_ret
  exact ⟨rfl, ((Below.refl _ _).alloc (Nat.le_refl _) _).alloc (by simp) _⟩
end Go.Proofs.YteilpehekabccabGreatDoor
