/- Texts in one: HartJ28, HartJ29. -/
import Derived.Test.YteilpehekabccabGreatDoorJ27
/- Is an event as it has to be? Way 8. -/
namespace Go.Proofs.YteilpehekabccabGreatDoor
open Go.ChangeShapes Go.WideShapes Go.ChangeAt Go.RowKit
set_option linter.unusedVariables false
set_option linter.unusedSimpArgs false

set_option maxHeartbeats 3200000 in
theorem same_8 (e d : W.Ev) (h0 : (e.k == d.k) = true) (h1 : (e.pc == d.pc) = true) (h2 : (e.wd == d.wd) = true) (h3 : (e.fpa == d.fpa) = true) (h4 : (e.pa == d.pa) = true) (h5 : (e.ld == d.ld) = true) (h6 : (e.ca == d.ca) = true) (h7 : (e.tv == d.tv) = true) (h8 : (e.dn == d.dn) = false) (w : World)  : Calls Tryz.prog 15 #[.agg (evCells e), .agg (evCells d)] w fun x w' => x = .returned (.bool false) ∧ Below w.heap.size w w' := by
  obtain ⟨k, pc, wd, fpa, pa, ld, ⟨fa, fn, fc⟩, ⟨wa, wn, wc⟩, ca, tv, dn, fat, at_⟩ := e
  obtain ⟨dk, dpc, dwd, dfpa, dpa, dld, ⟨dfa, dfn, dfc⟩, ⟨dwa, dwn, dwc⟩, dca, dtv, ddn, dfat, dat_⟩ := d
  unfold evCells
  dsimp only at *
  go_enter Tryz.func15, Tryz.ntmps15
  go_wp2
  go_ret
  exact ⟨rfl, ((Below.refl _ _).alloc (Nat.le_refl _) _).alloc (by simp) _⟩
end Go.Proofs.YteilpehekabccabGreatDoor

/- Is an event as it has to be? Way 9. -/
namespace Go.Proofs.YteilpehekabccabGreatDoor
open Go.ChangeShapes Go.WideShapes Go.ChangeAt Go.RowKit
set_option linter.unusedVariables false
set_option linter.unusedSimpArgs false

set_option maxHeartbeats 3200000 in
theorem same_9 (e d : W.Ev) (h0 : (e.k == d.k) = true) (h1 : (e.pc == d.pc) = true) (h2 : (e.wd == d.wd) = true) (h3 : (e.fpa == d.fpa) = true) (h4 : (e.pa == d.pa) = true) (h5 : (e.ld == d.ld) = true) (h6 : (e.ca == d.ca) = true) (h7 : (e.tv == d.tv) = true) (h8 : (e.dn == d.dn) = true) (w : World) (Hfw : ∀ w', Below w.heap.size w w' → Calls Tryz.prog 24 #[.slice e.fw.a e.fw.n e.fw.c, .slice d.fw.a d.fw.n d.fw.c] w' fun x w'' => x = .returned (.bool false) ∧ Below w'.heap.size w' w'') : Calls Tryz.prog 15 #[.agg (evCells e), .agg (evCells d)] w fun x w' => x = .returned (.bool false) ∧ Below w.heap.size w w' := by
  obtain ⟨k, pc, wd, fpa, pa, ld, ⟨fa, fn, fc⟩, ⟨wa, wn, wc⟩, ca, tv, dn, fat, at_⟩ := e
  obtain ⟨dk, dpc, dwd, dfpa, dpa, dld, ⟨dfa, dfn, dfc⟩, ⟨dwa, dwn, dwc⟩, dca, dtv, ddn, dfat, dat_⟩ := d
  unfold evCells
  dsimp only at *
  have hb2 : Below w.heap.size w ((w.alloc (.cells #[.int .i64 k, .int .u32 pc, .int .u32 wd, .int .u32 fpa, .int .u32 pa, .int .u32 ld, .slice fa fn fc, .slice wa wn wc, .int .u32 ca, .int .u32 tv, .bool dn, .int .i64 fat, .int .i64 at_] 29)).alloc (.cells #[.int .i64 dk, .int .u32 dpc, .int .u32 dwd, .int .u32 dfpa, .int .u32 dpa, .int .u32 dld, .slice dfa dfn dfc, .slice dwa dwn dwc, .int .u32 dca, .int .u32 dtv, .bool ddn, .int .i64 dfat, .int .i64 dat_] 29)) := ((Below.refl _ _).alloc (Nat.le_refl _) _).alloc (by simp) _
  go_enter Tryz.func15, Tryz.ntmps15
  go_wp2_with (fail)
  refine (Hfw _ hb2).mono ?_
  rintro x w1 ⟨rfl, hb⟩
  go_wp2
  go_ret
  exact ⟨rfl, hb2.trans (hb.mono hb2.size)⟩
end Go.Proofs.YteilpehekabccabGreatDoor
