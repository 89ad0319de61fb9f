/- Trap, Pending and All of package csr: the regions that draw their order. -/
import Derived.Test.YtbagmlcakmhhaaaCsrC
import Derived.Deep.RegionWith
import Derived.BigRegion
namespace Go.Proofs.Ytbagmlcakmhhaaa
open Go.ChangeShapes Go.WideShapes Go.ChangeAt Go.RowKit
set_option linter.unusedVariables false
set_option linter.unusedSimpArgs false

theorem pending_any (T : TypeId) (b : Nat) (G : W.F) (w : World) (h : At T b G w) : Calls Try.prog 23 #[.pointer (some ⟨b, 0, none⟩)] w fun x w' => x = .returned (.tuple #[.int .u32 (W.pendV G), .bool (W.pend G)]) ∧ Below w.heap.size w w' := by
  obtain ⟨c0, c1, c2, c3, c4, c5, c6, c7, c8, c9, c10, hz⟩ := h.cells
  have hlt := h.lt
  cases h1 : (G.m == 0)
  all_goals cases h2 : (W.bitsOf G.st 3 1 == 1)
  all_goals cases h3 : (bits .and .u32 (bits .and .u32 G.mip G.mie) 8 != 0)
  all_goals
    have e1 : Hid (W.pend G = ((G.m == 0 || W.bitsOf G.st 3 1 == 1) && (bits .and .u32 (bits .and .u32 G.mip G.mie) 8 != 0)) ∧ W.pendV G = bif W.pend G then 2147483651 else 0) := by exact (⟨rfl, rfl⟩ : W.pend G = _ ∧ W.pendV G = _)
    rw [h1, h2, h3] at e1
    have e2 := e1.out.1
    have e3 := e1.out.2
    clear e1
    rw [e2] at e3
    have e2 : Hid (_ = _) := e2
    have e3 : Hid (_ = _) := e3
    go_enter Try.func23, Try.ntmps23
    go_wp2_with (go_at_call 31; refine (bits_any _ _ _ _).mono ?_; rintro e w1 ⟨rfl, k1, rfl⟩)
    go_quiet (fail)
    go_wp2
    first
    | exact bodyPost_ret (v := .tuple #[.int .u32 0, .bool false]) (by simp [results, Try.results23, go_sem]) rfl ⟨by rw [e2.out, e3.out]; rfl, by repeat (first | exact Below.refl _ _ | refine below_drewN ?_ _)⟩
    | exact bodyPost_ret (v := .tuple #[.int .u32 2147483651, .bool true]) (by simp [results, Try.results23, go_sem]) rfl ⟨by rw [e2.out, e3.out]; rfl, by repeat (first | exact Below.refl _ _ | refine below_drewN ?_ _)⟩
end Go.Proofs.Ytbagmlcakmhhaaa
