/- The traits of an operation: kind 3. -/
import Derived.Test.YtibohlbkkaghkaaDoorPpoE
namespace Go.Proofs.YtibohlbkkaghkaaDoor
open Go.ChangeShapes Go.WideShapes Go.ChangeAt Go.RowKit
set_option linter.unusedVariables false
set_option linter.unusedSimpArgs false

set_option maxHeartbeats 1600000 in
theorem actOf_3 (g off : Nat) (o : W.Opr) (w : World) (h : OpAt g off o w) (z0 : -9223372036854775808 ≤ o.sz) (z1 : o.sz ≤ 9223372036854775807) (hk : o.k = 3) : Calls Tryd.prog 65 #[.pointer (some ⟨g, off, none⟩)] w fun e w' => e = .returned (.agg (acC (W.actO o))) ∧ Below w.heap.size w w' := by
  have hs := fun w' (hb : Below w.heap.size w w') => spanOf_any g off o w' (h.below hb) z0 z1
  have H0 : Hid (OpAt g off o w) := h
  have lt := h.lt
  clear h
  obtain ⟨k, sz, ad, vl, gt, pr, aq, rl, pd, sc⟩ := o
  unfold acC W.actO W.trt
  dsimp only at *
  unfold spV at hs
  generalize W.spn ⟨k, sz, ad, vl, gt, pr, aq, rl, pd, sc⟩ = S at *
  obtain ⟨F, Z⟩ := S
  dsimp only at *
  have HS : Hid (∀ w', _ → Calls _ _ _ _ _) := hs
  clear hs
  subst hk
  simp only [show ((3 : Int) == 4) = false from rfl, show ((3 : Int) == 1) = false from rfl, show ((3 : Int) == 2) = false from rfl, show ((3 : Int) == 3) = true from rfl, cond_true, cond_false]
  have r0 : bits .or .u8 8 19 = 27 := by kernel_rfl
  have r1 : (bits .and .u8 27 2 != 0) = true := by kernel_rfl
  have r2 : bits .or .u8 27 16 = 27 := by kernel_rfl
  have r3 : bits .or .u8 27 32 = 59 := by kernel_rfl
  have r4 : bits .or .u8 27 64 = 91 := by kernel_rfl
  have r5 : bits .or .u8 59 64 = 123 := by kernel_rfl
  cases pr <;> cases aq <;> cases rl
  · go_enter Tryd.func65, Tryd.ntmps65
    go_wp2_with (fail)
    refine (HS.out _ ((Below.refl _ _).alloc (Nat.le_refl _) _)).mono ?_
    rintro e w1 ⟨rfl, b1⟩
    have B1 : Below w.heap.size w w1 := ((Below.refl _ _).alloc (Nat.le_refl _) _).trans (b1.mono (by simp))
    obtain ⟨l1, c0, _, _, c5, c6, c7⟩ := H0.out.below B1
    obtain ⟨hc, hf⟩ := bcell b1
    have hz := b1.size
    simp at hz
    have hzz : w.heap.size < w1.heap.size := by omega
    clear b1 HS H0
    dsimp only at c0 c5 c6 c7
    go_wp2
    exact bodyPost_ret (v := .agg #[.int .u32 F, .int .u64 Z, .int .u8 27]) (by simp [results, Tryd.results65, go_sem, hc, hf, hzz]) rfl ⟨rfl, (((B1.setCell (Nat.le_refl _) _).setCell (Nat.le_refl _) _).setCell (Nat.le_refl _) _).alloc (by simp [World.setCell]; omega) _⟩
  · go_enter Tryd.func65, Tryd.ntmps65
    go_wp2_with (fail)
    refine (HS.out _ ((Below.refl _ _).alloc (Nat.le_refl _) _)).mono ?_
    rintro e w1 ⟨rfl, b1⟩
    have B1 : Below w.heap.size w w1 := ((Below.refl _ _).alloc (Nat.le_refl _) _).trans (b1.mono (by simp))
    obtain ⟨l1, c0, _, _, c5, c6, c7⟩ := H0.out.below B1
    obtain ⟨hc, hf⟩ := bcell b1
    have hz := b1.size
    simp at hz
    have hzz : w.heap.size < w1.heap.size := by omega
    clear b1 HS H0
    dsimp only at c0 c5 c6 c7
    go_wp2
    exact bodyPost_ret (v := .agg #[.int .u32 F, .int .u64 Z, .int .u8 91]) (by simp [results, Tryd.results65, go_sem, hc, hf, hzz]) rfl ⟨rfl, (((B1.setCell (Nat.le_refl _) _).setCell (Nat.le_refl _) _).setCell (Nat.le_refl _) _).alloc (by simp [World.setCell]; omega) _⟩
  · go_enter Tryd.func65, Tryd.ntmps65
    go_wp2_with (fail)
    refine (HS.out _ ((Below.refl _ _).alloc (Nat.le_refl _) _)).mono ?_
    rintro e w1 ⟨rfl, b1⟩
    have B1 : Below w.heap.size w w1 := ((Below.refl _ _).alloc (Nat.le_refl _) _).trans (b1.mono (by simp))
    obtain ⟨l1, c0, _, _, c5, c6, c7⟩ := H0.out.below B1
    obtain ⟨hc, hf⟩ := bcell b1
    have hz := b1.size
    simp at hz
    have hzz : w.heap.size < w1.heap.size := by omega
    clear b1 HS H0
    dsimp only at c0 c5 c6 c7
    go_wp2
    exact bodyPost_ret (v := .agg #[.int .u32 F, .int .u64 Z, .int .u8 59]) (by simp [results, Tryd.results65, go_sem, hc, hf, hzz]) rfl ⟨rfl, (((B1.setCell (Nat.le_refl _) _).setCell (Nat.le_refl _) _).setCell (Nat.le_refl _) _).alloc (by simp [World.setCell]; omega) _⟩
  · go_enter Tryd.func65, Tryd.ntmps65
    go_wp2_with (fail)
    refine (HS.out _ ((Below.refl _ _).alloc (Nat.le_refl _) _)).mono ?_
    rintro e w1 ⟨rfl, b1⟩
    have B1 : Below w.heap.size w w1 := ((Below.refl _ _).alloc (Nat.le_refl _) _).trans (b1.mono (by simp))
    obtain ⟨l1, c0, _, _, c5, c6, c7⟩ := H0.out.below B1
    obtain ⟨hc, hf⟩ := bcell b1
    have hz := b1.size
    simp at hz
    have hzz : w.heap.size < w1.heap.size := by omega
    clear b1 HS H0
    dsimp only at c0 c5 c6 c7
    go_wp2
    exact bodyPost_ret (v := .agg #[.int .u32 F, .int .u64 Z, .int .u8 123]) (by simp [results, Tryd.results65, go_sem, hc, hf, hzz]) rfl ⟨rfl, (((B1.setCell (Nat.le_refl _) _).setCell (Nat.le_refl _) _).setCell (Nat.le_refl _) _).alloc (by simp [World.setCell]; omega) _⟩
  · go_enter Tryd.func65, Tryd.ntmps65
    go_wp2_with (fail)
    refine (HS.out _ ((Below.refl _ _).alloc (Nat.le_refl _) _)).mono ?_
    rintro e w1 ⟨rfl, b1⟩
    have B1 : Below w.heap.size w w1 := ((Below.refl _ _).alloc (Nat.le_refl _) _).trans (b1.mono (by simp))
    obtain ⟨l1, c0, _, _, c5, c6, c7⟩ := H0.out.below B1
    obtain ⟨hc, hf⟩ := bcell b1
    have hz := b1.size
    simp at hz
    have hzz : w.heap.size < w1.heap.size := by omega
    clear b1 HS H0
    dsimp only at c0 c5 c6 c7
    go_wp2
    exact bodyPost_ret (v := .agg #[.int .u32 F, .int .u64 Z, .int .u8 27]) (by simp [results, Tryd.results65, go_sem, hc, hf, hzz]) rfl ⟨rfl, (((B1.setCell (Nat.le_refl _) _).setCell (Nat.le_refl _) _).setCell (Nat.le_refl _) _).alloc (by simp [World.setCell]; omega) _⟩
  · go_enter Tryd.func65, Tryd.ntmps65
    go_wp2_with (fail)
    refine (HS.out _ ((Below.refl _ _).alloc (Nat.le_refl _) _)).mono ?_
    rintro e w1 ⟨rfl, b1⟩
    have B1 : Below w.heap.size w w1 := ((Below.refl _ _).alloc (Nat.le_refl _) _).trans (b1.mono (by simp))
    obtain ⟨l1, c0, _, _, c5, c6, c7⟩ := H0.out.below B1
    obtain ⟨hc, hf⟩ := bcell b1
    have hz := b1.size
    simp at hz
    have hzz : w.heap.size < w1.heap.size := by omega
    clear b1 HS H0
    dsimp only at c0 c5 c6 c7
    go_wp2
    exact bodyPost_ret (v := .agg #[.int .u32 F, .int .u64 Z, .int .u8 91]) (by simp [results, Tryd.results65, go_sem, hc, hf, hzz]) rfl ⟨rfl, (((B1.setCell (Nat.le_refl _) _).setCell (Nat.le_refl _) _).setCell (Nat.le_refl _) _).alloc (by simp [World.setCell]; omega) _⟩
  · go_enter Tryd.func65, Tryd.ntmps65
    go_wp2_with (fail)
    refine (HS.out _ ((Below.refl _ _).alloc (Nat.le_refl _) _)).mono ?_
    rintro e w1 ⟨rfl, b1⟩
    have B1 : Below w.heap.size w w1 := ((Below.refl _ _).alloc (Nat.le_refl _) _).trans (b1.mono (by simp))
    obtain ⟨l1, c0, _, _, c5, c6, c7⟩ := H0.out.below B1
    obtain ⟨hc, hf⟩ := bcell b1
    have hz := b1.size
    simp at hz
    have hzz : w.heap.size < w1.heap.size := by omega
    clear b1 HS H0
    dsimp only at c0 c5 c6 c7
    go_wp2
    exact bodyPost_ret (v := .agg #[.int .u32 F, .int .u64 Z, .int .u8 59]) (by simp [results, Tryd.results65, go_sem, hc, hf, hzz]) rfl ⟨rfl, (((B1.setCell (Nat.le_refl _) _).setCell (Nat.le_refl _) _).setCell (Nat.le_refl _) _).alloc (by simp [World.setCell]; omega) _⟩
  · go_enter Tryd.func65, Tryd.ntmps65
    go_wp2_with (fail)
    refine (HS.out _ ((Below.refl _ _).alloc (Nat.le_refl _) _)).mono ?_
    rintro e w1 ⟨rfl, b1⟩
    have B1 : Below w.heap.size w w1 := ((Below.refl _ _).alloc (Nat.le_refl _) _).trans (b1.mono (by simp))
    obtain ⟨l1, c0, _, _, c5, c6, c7⟩ := H0.out.below B1
    obtain ⟨hc, hf⟩ := bcell b1
    have hz := b1.size
    simp at hz
    have hzz : w.heap.size < w1.heap.size := by omega
    clear b1 HS H0
    dsimp only at c0 c5 c6 c7
    go_wp2
    exact bodyPost_ret (v := .agg #[.int .u32 F, .int .u64 Z, .int .u8 123]) (by simp [results, Tryd.results65, go_sem, hc, hf, hzz]) rfl ⟨rfl, (((B1.setCell (Nat.le_refl _) _).setCell (Nat.le_refl _) _).setCell (Nat.le_refl _) _).alloc (by simp [World.setCell]; omega) _⟩
end Go.Proofs.YtibohlbkkaghkaaDoor
