/- The traits of an operation: kind 4. -/
import Derived.Test.YtibohlbkkaghkaaDoorPpoE
namespace Go.Proofs.YtibohlbkkaghkaaDoor
open Go.ChangeShapes Go.WideShapes Go.ChangeAt Go.RowKit
set_option linter.unusedVariables false
set_option linter.unusedSimpArgs false

set_option maxHeartbeats 1600000 in
theorem actOf_4 (g off : Nat) (o : W.Opr) (w : World) (h : OpAt g off o w) (z0 : -9223372036854775808 ≤ o.sz) (z1 : o.sz ≤ 9223372036854775807) (hk : o.k = 4) : Calls Tryd.prog 65 #[.pointer (some ⟨g, off, none⟩)] w fun e w' => e = .returned (.agg (acC (W.actO o))) ∧ Below w.heap.size w w' := by
  have hs := fun w' (hb : Below w.heap.size w w') => spanOf_any g off o w' (h.below hb) z0 z1
  have H0 : Hid (OpAt g off o w) := h
  have lt := h.lt
  clear h
  obtain ⟨k, sz, ad, vl, gt, pr, aq, rl, pd, sc⟩ := o
  unfold acC W.actO W.trt
  dsimp only at *
  unfold spV at hs
  generalize W.spn ⟨k, sz, ad, vl, gt, pr, aq, rl, pd, sc⟩ = S at *
  obtain ⟨F, Z⟩ := S
  dsimp only at *
  have HS : Hid (∀ w', _ → Calls _ _ _ _ _) := hs
  clear hs
  subst hk
  simp only [show ((4 : Int) == 4) = true from rfl, cond_true]
  go_enter Tryd.func65, Tryd.ntmps65
  go_wp2_with (fail)
  refine (HS.out _ ((Below.refl _ _).alloc (Nat.le_refl _) _)).mono ?_
  rintro e w1 ⟨rfl, b1⟩
  have B1 : Below w.heap.size w w1 := ((Below.refl _ _).alloc (Nat.le_refl _) _).trans (b1.mono (by simp))
  obtain ⟨l1, c0, _, _, c5, c6, c7⟩ := H0.out.below B1
  obtain ⟨hc, hf⟩ := bcell b1
  have hz := b1.size
  simp at hz
  have hzz : w.heap.size < w1.heap.size := by omega
  clear b1 HS H0
  dsimp only at c0 c5 c6 c7
  go_wp2
  exact bodyPost_ret (v := .agg #[.int .u32 0, .int .u64 0, .int .u8 4]) (by simp [results, Tryd.results65, go_sem, hc, hf, hzz]) rfl ⟨rfl, (((B1.setCell (Nat.le_refl _) _).setCell (Nat.le_refl _) _).setCell (Nat.le_refl _) _).alloc (by simp [World.setCell]; omega) _⟩
end Go.Proofs.YtibohlbkkaghkaaDoor
