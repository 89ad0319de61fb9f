/- Texts in one: HartJ20, HartJ21. -/
import Derived.Test.YteilpehekabccabGreatDoorJ27
/- Is an event as it has to be? Way 0. -/
namespace Go.Proofs.YteilpehekabccabGreatDoor
open Go.ChangeShapes Go.WideShapes Go.ChangeAt Go.RowKit
set_option linter.unusedVariables false
set_option linter.unusedSimpArgs false

set_option maxHeartbeats 3200000 in
theorem same_0 (e d : W.Ev) (h0 : (e.k == d.k) = false) (w : World)  : Calls Tryz.prog 15 #[.agg (evCells e), .agg (evCells d)] w fun x w' => x = .returned (.bool false) ∧ Below w.heap.size w w' := by
  obtain ⟨k, pc, wd, fpa, pa, ld, ⟨fa, fn, fc⟩, ⟨wa, wn, wc⟩, ca, tv, dn, fat, at_⟩ := e
  obtain ⟨dk, dpc, dwd, dfpa, dpa, dld, ⟨dfa, dfn, dfc⟩, ⟨dwa, dwn, dwc⟩, dca, dtv, ddn, dfat, dat_⟩ := d
  unfold evCells
  dsimp only at *
  go_enter Tryz.func15, Tryz.ntmps15
  go_wp2
  go_ret
  exact ⟨rfl, ((Below.refl _ _).alloc (Nat.le_refl _) _).alloc (by simp) _⟩
end Go.Proofs.YteilpehekabccabGreatDoor

/- Is an event as it has to be? Way 1. -/
namespace Go.Proofs.YteilpehekabccabGreatDoor
open Go.ChangeShapes Go.WideShapes Go.ChangeAt Go.RowKit
set_option linter.unusedVariables false
set_option linter.unusedSimpArgs false

set_option maxHeartbeats 3200000 in
theorem same_1 (e d : W.Ev) (h0 : (e.k == d.k) = true) (h1 : (e.pc == d.pc) = false) (w : World)  : Calls Tryz.prog 15 #[.agg (evCells e), .agg (evCells d)] w fun x w' => x = .returned (.bool false) ∧ Below w.heap.size w w' := by
  obtain ⟨k, pc, wd, fpa, pa, ld, ⟨fa, fn, fc⟩, ⟨wa, wn, wc⟩, ca, tv, dn, fat, at_⟩ := e
  obtain ⟨dk, dpc, dwd, dfpa, dpa, dld, ⟨dfa, dfn, dfc⟩, ⟨dwa, dwn, dwc⟩, dca, dtv, ddn, dfat, dat_⟩ := d
  unfold evCells
  dsimp only at *
  go_enter Tryz.func15, Tryz.ntmps15
  go_wp2
  go_ret
  exact ⟨rfl, ((Below.refl _ _).alloc (Nat.le_refl _) _).alloc (by simp) _⟩
end Go.Proofs.YteilpehekabccabGreatDoor
