/- What Uses answers. -/
import Derived.Test.YthbcdlaejefkaaaDoorIsaH
import Derived.Deep.RegionHeld3
import Derived.Deep.DrawnRows
namespace Go.Proofs.YthbcdlaejefkaaaDoor
open Go.ChangeShapes Go.WideShapes Go.ChangeAt Go.RowKit
set_option linter.unusedVariables false
set_option linter.unusedSimpArgs false
attribute [local go_sem ↓] Go.wp_at_zero Go.wp_at_succ

abbrev SU (w : World) (n : Nat) (s : W.Sh) (w' : World) : Prop :=
  Below w.heap.size w w' ∧ n < w'.heap.size ∧ w'.cell? ⟨n, 0, none⟩ = some (.int .u32 s.fixed) ∧ w'.cell? ⟨n, 1, none⟩ = some (.bool s.rd) ∧ w'.cell? ⟨n, 2, none⟩ = some (.bool s.rs1) ∧ w'.cell? ⟨n, 3, none⟩ = some (.bool s.rs2) ∧ w'.cell? ⟨n, 4, none⟩ = some (.bool s.csr) ∧ w'.cell? ⟨n, 5, none⟩ = some (.bool s.ord) ∧ w'.cell? ⟨n, 6, none⟩ = some (.int .u8 s.fmt) ∧ w'.cell? ⟨n, 7, none⟩ = some (.int .i64 s.low) ∧ w'.cell? ⟨n, 8, none⟩ = some (.int .i64 s.size)
theorem SU.below {w a b : World} {n : Nat} {s : W.Sh} (h : SU w n s a) (hm : Below a.heap.size a b) : SU w n s b := by
  obtain ⟨h1, h2, h3⟩ := h
  have q : ∀ j, b.cell? ⟨n, j, none⟩ = a.cell? ⟨n, j, none⟩ := fun j => hm.cell h2
  refine ⟨h1.trans (hm.mono h1.size), by have := hm.size; omega, ?_⟩
  simp only [q]
  exact h3
theorem SU.start {w w1 : World} {s : W.Sh} {t : TypeId} (hb : Below w.heap.size w w1) :
    SU w w1.heap.size s ((w1.alloc (.cells #[.int .u32 s.fixed, .bool s.rd, .bool s.rs1, .bool s.rs2, .bool s.csr, .bool s.ord, .int .u8 s.fmt, .int .i64 s.low, .int .i64 s.size] t)).drew) := by
  refine SU.below ⟨hb.alloc hb.size _, by simp, ?_⟩ (Below.refl _ _).drew
  simp [go_sem]

set_option maxRecDepth 100000 in
set_option maxHeartbeats 6400000 in
theorem uses_any (op : Int) (w : World) :
    Calls Tryd.prog 17 #[.int .i64 op] w fun e w' => e = .returned (.tuple #[.bool (W.shp op).rd, .bool (W.shp op).rs1, .bool (W.shp op).rs2, .bool (W.hasImm (W.shp op))]) ∧ Below w.heap.size w w' := by
  generalize hs : W.shp op = s
  have HS : Hid (W.shp op = s) := hs
  clear hs
  go_enter Tryd.func17, Tryd.ntmps17
  go_wp2_with (first
    | (go_at_call 25; refine (shapeOf_any _ _).mono ?_; rintro e w1 ⟨rfl, hb1⟩; rw [HS.out]; unfold shV))
  have hS0 := SU.start (s := s) (t := 59) hb1
  clear hb1
  go_region_held3 (fun w' => Below w.heap.size w w' ∧ w1.heap.size < w'.heap.size ∧ w'.cell? ⟨w1.heap.size, 0, none⟩ = some (.int .u32 s.fixed) ∧ w'.cell? ⟨w1.heap.size, 1, none⟩ = some (.bool s.rd) ∧ w'.cell? ⟨w1.heap.size, 2, none⟩ = some (.bool s.rs1) ∧ w'.cell? ⟨w1.heap.size, 3, none⟩ = some (.bool s.rs2) ∧ w'.cell? ⟨w1.heap.size, 4, none⟩ = some (.bool s.csr) ∧ w'.cell? ⟨w1.heap.size, 5, none⟩ = some (.bool s.ord) ∧ w'.cell? ⟨w1.heap.size, 6, none⟩ = some (.int .u8 s.fmt) ∧ w'.cell? ⟨w1.heap.size, 7, none⟩ = some (.int .i64 s.low) ∧ w'.cell? ⟨w1.heap.size, 8, none⟩ = some (.int .i64 s.size))
    (first
      | with_reducible assumption
      | (with_reducible refine SU.below (w := w) (n := w1.heap.size) (s := s) ?_ hm; with_reducible assumption)
      | (refine SU.below (w := w) (n := w1.heap.size) (s := s) ?_ hm; assumption))
    (first
      | (go_at_call 39; refine (hasImm_any s _).mono ?_; rintro e w' ⟨rfl, hm⟩))
  all_goals
    have hB : Below w.heap.size w w' := by (go_split_ands; assumption)
    go_wp2
    exact bodyPost_ret (v := .tuple #[.bool s.rd, .bool s.rs1, .bool s.rs2, .bool (W.hasImm s)]) (by simp [results, Tryd.results17, go_sem]) rfl ⟨rfl, hB⟩
end Go.Proofs.YthbcdlaejefkaaaDoor
