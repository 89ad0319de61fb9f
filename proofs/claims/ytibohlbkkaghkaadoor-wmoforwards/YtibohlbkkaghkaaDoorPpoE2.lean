/- The traits of an operation: kind 2. -/
import Derived.Test.YtibohlbkkaghkaaDoorPpoE
namespace Go.Proofs.YtibohlbkkaghkaaDoor
open Go.ChangeShapes Go.WideShapes Go.ChangeAt Go.RowKit
set_option linter.unusedVariables false
set_option linter.unusedSimpArgs false

set_option maxHeartbeats 1600000 in
theorem actOf_2 (g off : Nat) (o : W.Opr) (w : World) (h : OpAt g off o w) (z0 : -9223372036854775808 ≤ o.sz) (z1 : o.sz ≤ 9223372036854775807) (hk : o.k = 2) : Calls Tryd.prog 65 #[.pointer (some ⟨g, off, none⟩)] w fun e w' => e = .returned (.agg (acC (W.actO o))) ∧ Below w.heap.size w w' := by
  have hs := fun w' (hb : Below w.heap.size w w') => spanOf_any g off o w' (h.below hb) z0 z1
  have H0 : Hid (OpAt g off o w) := h
  have lt := h.lt
  clear h
  obtain ⟨k, sz, ad, vl, gt, pr, aq, rl, pd, sc⟩ := o
  unfold acC W.actO W.trt
  dsimp only at *
  unfold spV at hs
  generalize W.spn ⟨k, sz, ad, vl, gt, pr, aq, rl, pd, sc⟩ = S at *
  obtain ⟨F, Z⟩ := S
  dsimp only at *
  have HS : Hid (∀ w', _ → Calls _ _ _ _ _) := hs
  clear hs
  subst hk
  simp only [show ((2 : Int) == 4) = false from rfl, show ((2 : Int) == 1) = false from rfl, show ((2 : Int) == 2) = true from rfl, show ((2 : Int) == 3) = false from rfl, cond_true, cond_false]
  have r0 : bits .or .u8 8 2 = 10 := by kernel_rfl
  have r1 : (bits .and .u8 10 2 != 0) = true := by kernel_rfl
  have r2 : bits .or .u8 10 16 = 26 := by kernel_rfl
  have r3 : bits .or .u8 10 32 = 42 := by kernel_rfl
  have r4 : bits .or .u8 10 64 = 74 := by kernel_rfl
  have r5 : bits .or .u8 42 64 = 106 := by kernel_rfl
  have r6 : bits .or .u8 26 32 = 58 := by kernel_rfl
  have r7 : bits .or .u8 26 64 = 90 := by kernel_rfl
  have r8 : bits .or .u8 58 64 = 122 := by kernel_rfl
  cases pr <;> cases aq <;> cases rl
  · go_enter Tryd.func65, Tryd.ntmps65
    go_wp2_with (fail)
    refine (HS.out _ ((Below.refl _ _).alloc (Nat.le_refl _) _)).mono ?_
    rintro e w1 ⟨rfl, b1⟩
    have B1 : Below w.heap.size w w1 := ((Below.refl _ _).alloc (Nat.le_refl _) _).trans (b1.mono (by simp))
    obtain ⟨l1, c0, _, _, c5, c6, c7⟩ := H0.out.below B1
    obtain ⟨hc, hf⟩ := bcell b1
    have hz := b1.size
    simp at hz
    have hzz : w.heap.size < w1.heap.size := by omega
    clear b1 HS H0
    dsimp only at c0 c5 c6 c7
    go_wp2
    exact bodyPost_ret (v := .agg #[.int .u32 F, .int .u64 Z, .int .u8 10]) (by simp [results, Tryd.results65, go_sem, hc, hf, hzz]) rfl ⟨rfl, (((B1.setCell (Nat.le_refl _) _).setCell (Nat.le_refl _) _).setCell (Nat.le_refl _) _).alloc (by simp [World.setCell]; omega) _⟩
  · go_enter Tryd.func65, Tryd.ntmps65
    go_wp2_with (fail)
    refine (HS.out _ ((Below.refl _ _).alloc (Nat.le_refl _) _)).mono ?_
    rintro e w1 ⟨rfl, b1⟩
    have B1 : Below w.heap.size w w1 := ((Below.refl _ _).alloc (Nat.le_refl _) _).trans (b1.mono (by simp))
    obtain ⟨l1, c0, _, _, c5, c6, c7⟩ := H0.out.below B1
    obtain ⟨hc, hf⟩ := bcell b1
    have hz := b1.size
    simp at hz
    have hzz : w.heap.size < w1.heap.size := by omega
    clear b1 HS H0
    dsimp only at c0 c5 c6 c7
    go_wp2
    exact bodyPost_ret (v := .agg #[.int .u32 F, .int .u64 Z, .int .u8 74]) (by simp [results, Tryd.results65, go_sem, hc, hf, hzz]) rfl ⟨rfl, (((B1.setCell (Nat.le_refl _) _).setCell (Nat.le_refl _) _).setCell (Nat.le_refl _) _).alloc (by simp [World.setCell]; omega) _⟩
  · go_enter Tryd.func65, Tryd.ntmps65
    go_wp2_with (fail)
    refine (HS.out _ ((Below.refl _ _).alloc (Nat.le_refl _) _)).mono ?_
    rintro e w1 ⟨rfl, b1⟩
    have B1 : Below w.heap.size w w1 := ((Below.refl _ _).alloc (Nat.le_refl _) _).trans (b1.mono (by simp))
    obtain ⟨l1, c0, _, _, c5, c6, c7⟩ := H0.out.below B1
    obtain ⟨hc, hf⟩ := bcell b1
    have hz := b1.size
    simp at hz
    have hzz : w.heap.size < w1.heap.size := by omega
    clear b1 HS H0
    dsimp only at c0 c5 c6 c7
    go_wp2
    exact bodyPost_ret (v := .agg #[.int .u32 F, .int .u64 Z, .int .u8 42]) (by simp [results, Tryd.results65, go_sem, hc, hf, hzz]) rfl ⟨rfl, (((B1.setCell (Nat.le_refl _) _).setCell (Nat.le_refl _) _).setCell (Nat.le_refl _) _).alloc (by simp [World.setCell]; omega) _⟩
  · go_enter Tryd.func65, Tryd.ntmps65
    go_wp2_with (fail)
    refine (HS.out _ ((Below.refl _ _).alloc (Nat.le_refl _) _)).mono ?_
    rintro e w1 ⟨rfl, b1⟩
    have B1 : Below w.heap.size w w1 := ((Below.refl _ _).alloc (Nat.le_refl _) _).trans (b1.mono (by simp))
    obtain ⟨l1, c0, _, _, c5, c6, c7⟩ := H0.out.below B1
    obtain ⟨hc, hf⟩ := bcell b1
    have hz := b1.size
    simp at hz
    have hzz : w.heap.size < w1.heap.size := by omega
    clear b1 HS H0
    dsimp only at c0 c5 c6 c7
    go_wp2
    exact bodyPost_ret (v := .agg #[.int .u32 F, .int .u64 Z, .int .u8 106]) (by simp [results, Tryd.results65, go_sem, hc, hf, hzz]) rfl ⟨rfl, (((B1.setCell (Nat.le_refl _) _).setCell (Nat.le_refl _) _).setCell (Nat.le_refl _) _).alloc (by simp [World.setCell]; omega) _⟩
  · go_enter Tryd.func65, Tryd.ntmps65
    go_wp2_with (fail)
    refine (HS.out _ ((Below.refl _ _).alloc (Nat.le_refl _) _)).mono ?_
    rintro e w1 ⟨rfl, b1⟩
    have B1 : Below w.heap.size w w1 := ((Below.refl _ _).alloc (Nat.le_refl _) _).trans (b1.mono (by simp))
    obtain ⟨l1, c0, _, _, c5, c6, c7⟩ := H0.out.below B1
    obtain ⟨hc, hf⟩ := bcell b1
    have hz := b1.size
    simp at hz
    have hzz : w.heap.size < w1.heap.size := by omega
    clear b1 HS H0
    dsimp only at c0 c5 c6 c7
    go_wp2
    exact bodyPost_ret (v := .agg #[.int .u32 F, .int .u64 Z, .int .u8 26]) (by simp [results, Tryd.results65, go_sem, hc, hf, hzz]) rfl ⟨rfl, (((B1.setCell (Nat.le_refl _) _).setCell (Nat.le_refl _) _).setCell (Nat.le_refl _) _).alloc (by simp [World.setCell]; omega) _⟩
  · go_enter Tryd.func65, Tryd.ntmps65
    go_wp2_with (fail)
    refine (HS.out _ ((Below.refl _ _).alloc (Nat.le_refl _) _)).mono ?_
    rintro e w1 ⟨rfl, b1⟩
    have B1 : Below w.heap.size w w1 := ((Below.refl _ _).alloc (Nat.le_refl _) _).trans (b1.mono (by simp))
    obtain ⟨l1, c0, _, _, c5, c6, c7⟩ := H0.out.below B1
    obtain ⟨hc, hf⟩ := bcell b1
    have hz := b1.size
    simp at hz
    have hzz : w.heap.size < w1.heap.size := by omega
    clear b1 HS H0
    dsimp only at c0 c5 c6 c7
    go_wp2
    exact bodyPost_ret (v := .agg #[.int .u32 F, .int .u64 Z, .int .u8 90]) (by simp [results, Tryd.results65, go_sem, hc, hf, hzz]) rfl ⟨rfl, (((B1.setCell (Nat.le_refl _) _).setCell (Nat.le_refl _) _).setCell (Nat.le_refl _) _).alloc (by simp [World.setCell]; omega) _⟩
  · go_enter Tryd.func65, Tryd.ntmps65
    go_wp2_with (fail)
    refine (HS.out _ ((Below.refl _ _).alloc (Nat.le_refl _) _)).mono ?_
    rintro e w1 ⟨rfl, b1⟩
    have B1 : Below w.heap.size w w1 := ((Below.refl _ _).alloc (Nat.le_refl _) _).trans (b1.mono (by simp))
    obtain ⟨l1, c0, _, _, c5, c6, c7⟩ := H0.out.below B1
    obtain ⟨hc, hf⟩ := bcell b1
    have hz := b1.size
    simp at hz
    have hzz : w.heap.size < w1.heap.size := by omega
    clear b1 HS H0
    dsimp only at c0 c5 c6 c7
    go_wp2
    exact bodyPost_ret (v := .agg #[.int .u32 F, .int .u64 Z, .int .u8 58]) (by simp [results, Tryd.results65, go_sem, hc, hf, hzz]) rfl ⟨rfl, (((B1.setCell (Nat.le_refl _) _).setCell (Nat.le_refl _) _).setCell (Nat.le_refl _) _).alloc (by simp [World.setCell]; omega) _⟩
  · go_enter Tryd.func65, Tryd.ntmps65
    go_wp2_with (fail)
    refine (HS.out _ ((Below.refl _ _).alloc (Nat.le_refl _) _)).mono ?_
    rintro e w1 ⟨rfl, b1⟩
    have B1 : Below w.heap.size w w1 := ((Below.refl _ _).alloc (Nat.le_refl _) _).trans (b1.mono (by simp))
    obtain ⟨l1, c0, _, _, c5, c6, c7⟩ := H0.out.below B1
    obtain ⟨hc, hf⟩ := bcell b1
    have hz := b1.size
    simp at hz
    have hzz : w.heap.size < w1.heap.size := by omega
    clear b1 HS H0
    dsimp only at c0 c5 c6 c7
    go_wp2
    exact bodyPost_ret (v := .agg #[.int .u32 F, .int .u64 Z, .int .u8 122]) (by simp [results, Tryd.results65, go_sem, hc, hf, hzz]) rfl ⟨rfl, (((B1.setCell (Nat.le_refl _) _).setCell (Nat.le_refl _) _).setCell (Nat.le_refl _) _).alloc (by simp [World.setCell]; omega) _⟩
end Go.Proofs.YtibohlbkkaghkaaDoor
