/- Trap of package csr. -/
import Derived.Test.YtbagmlcakmhhaaaCsrD
import Derived.Deep.RegionHeld3
import Derived.Deep.RegionWith
namespace Go.Proofs.Ytbagmlcakmhhaaa
open Go.ChangeShapes Go.WideShapes Go.ChangeAt Go.RowKit
set_option linter.unusedVariables false
set_option linter.unusedSimpArgs false

set_option maxHeartbeats 3200000 in
theorem trap_any (T : TypeId) (b : Nat) (G : W.F) (c t q : Int) (w : World) (h : At T b G w) : Calls Try.prog 17 #[.pointer (some ⟨b, 0, none⟩), .int .u32 c, .int .u32 t, .int .u32 q] w fun x w' => x = .returned (.int .u32 G.tvec) ∧ At T b (W.trap G c t q) w' ∧ w.grownBy w' (some b) := by
  obtain ⟨c0, c1, c2, c3, c4, c5, c6, c7, c8, c9, c10, hz⟩ := h.cells
  have hlt := h.lt
  go_enter Try.func17, Try.ntmps17
  go_wp2_with (go_at_call 33; refine (algn_any _ _).mono ?_; rintro e w1 ⟨rfl, rfl⟩)
  generalize hW : ((World.setCell (World.setCell (World.setCell w _ _) _ _) _ _)) = W1
  have h1 : At T b { G with epc := W.algn q, cause := c, tval := t } W1 := by
    rw [← hW]
    exact ((h.put (G' := { G with epc := W.algn q }) (by rfl)).put (G' := { G with epc := W.algn q, cause := c }) (by rfl)).put (by rfl)
  have g1 : w.grownBy W1 (some b) := by
    rw [← hW]
    exact gtrans (gtrans (gset _ _ _ _) (gset _ _ _ _)) (gset _ _ _ _)
  clear hW c0 c1 c2 c3 c4 c5 c6 c7 c8 c9 c10 hz hlt
  obtain ⟨c0, c1, c2, c3, c4, c5, c6, c7, c8, c9, c10, hz⟩ := h1.cells
  have hlt := h1.lt
  simp only at c0 c1 c2 c3 c4 c5 c6 c7 c8 c9 c10
  go_region_with (first
    | (go_at_call 31; refine (bits_any _ _ _ _).mono ?_; rintro e w2 ⟨rfl, k, rfl⟩)
    | (go_at_call 30; refine (status_any _ _ _ _).mono ?_; rintro e w3 ⟨rfl, hb3⟩; have h3 := (h1.drewN _).below hb3; clear c0 c1 c2 c3 c4 c5 c6 c7 c8 c9 c10 hz hlt; obtain ⟨c0, c1, c2, c3, c4, c5, c6, c7, c8, c9, c10, hz⟩ := h3.cells; have hlt := h3.lt))
  all_goals
    go_wp2
    go_ret
    exact ⟨rfl, (h3.put (G' := { G with epc := W.algn q, cause := c, tval := t, st := W.status 0 (W.bitsOf G.st 3 1) G.m }) (by rfl)).put (by rfl), gtrans g1 (gtrans (gtrans (gbelow ((below_drewN (Below.refl _ _) _).trans hb3)) (gset _ _ _ _)) (gset _ _ _ _))⟩
end Go.Proofs.Ytbagmlcakmhhaaa
