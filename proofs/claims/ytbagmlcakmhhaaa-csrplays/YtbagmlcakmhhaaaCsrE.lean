/- All of package csr. -/
import Derived.Test.YtbagmlcakmhhaaaCsrD
import Derived.Deep.RegionHeld3
import Derived.Deep.RegionWith
import Derived.BigRegion
namespace Go.Proofs.Ytbagmlcakmhhaaa
open Go.ChangeShapes Go.WideShapes Go.ChangeAt Go.RowKit
set_option linter.unusedVariables false
set_option linter.unusedSimpArgs false

set_option maxHeartbeats 3200000 in
theorem all_any (T : TypeId) (b : Nat) (G : W.F) (w : World) (h : At T b G w) : Calls Try.prog 12 #[.pointer (some ⟨b, 0, none⟩)] w fun x w' => x = .returned (.slice (some ⟨w.heap.size, 0, none⟩) 10 10) ∧ w'.heap[w.heap.size]? = some (.cells #[.int .u32 G.satp, .int .u32 G.st, .int .u32 G.mie, .int .u32 G.tvec, .int .u32 G.scr, .int .u32 G.epc, .int .u32 G.cause, .int .u32 G.tval, .int .u32 G.mip, .int .u32 G.hart] 24) ∧ Below w.heap.size w w' := by
  obtain ⟨c0, c1, c2, c3, c4, c5, c6, c7, c8, c9, c10, hz⟩ := h.cells
  have hlt := h.lt
  go_enter Try.func12, Try.ntmps12
  go_wp2
  go_region_held3 (fun w' => w'.cell? ⟨b, 1, none⟩ = some (.int .u32 G.satp) ∧ w'.cell? ⟨b, 2, none⟩ = some (.int .u32 G.st) ∧ w'.cell? ⟨b, 3, none⟩ = some (.int .u32 G.mie) ∧ w'.cell? ⟨b, 4, none⟩ = some (.int .u32 G.tvec) ∧ w'.cell? ⟨b, 5, none⟩ = some (.int .u32 G.scr) ∧ w'.cell? ⟨b, 6, none⟩ = some (.int .u32 G.epc) ∧ w'.cell? ⟨b, 7, none⟩ = some (.int .u32 G.cause) ∧ w'.cell? ⟨b, 8, none⟩ = some (.int .u32 G.tval) ∧ w'.cell? ⟨b, 9, none⟩ = some (.int .u32 G.mip) ∧ w'.cell? ⟨b, 10, none⟩ = some (.int .u32 G.hart))
    (go_keep)
    (fail)
  go_wp2
  go_ret
  exact ⟨rfl, by show (w.heap.push _)[w.heap.size]? = _; simp, ((Below.refl _ _).alloc (Nat.le_refl _) _).drew⟩

end Go.Proofs.Ytbagmlcakmhhaaa
