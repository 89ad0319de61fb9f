/- The document's registers: looked at. -/
import Derived.Test.YtbagmlcakmhhaaaCsrS
import Derived.Deep.RegionWith
namespace Go.Proofs.Ytbagmlcakmhhaaa
open Go.ChangeShapes Go.WideShapes Go.ChangeAt Go.RowKit
set_option linter.unusedVariables false
set_option linter.unusedSimpArgs false


theorem rget_any (G : W.F) (n : Int) (w : World) : Calls Try.prog 22 #[.agg (fileCells G), .int .i64 n] w fun x w' => x = .returned (.tuple #[.int .u32 (W.getV G n), .bool (W.getB G n)]) ∧ Below w.heap.size w w' := by
  have hA := rcells G w
  cases hn : W.isReg n
  case false =>
    have g : (n == 384) = false ∧ (n == 768) = false ∧ (n == 772) = false ∧ (n == 773) = false ∧ (n == 832) = false ∧ (n == 833) = false ∧ (n == 834) = false ∧ (n == 835) = false ∧ (n == 836) = false ∧ (n == 3860) = false := by
      simp only [W.isReg, Bool.or_eq_false_iff] at hn
      exact hn
    obtain ⟨g0, g1, g2, g3, g4, g5, g6, g7, g8, g9⟩ := g
    have e1 : Hid (W.getV G n = 0 ∧ W.getB G n = false) := by
      have : W.getV G n = 0 ∧ W.getB G n = false := by simp [W.getV, W.getB, W.reg, hn, g0, g1, g2, g3, g4, g5, g6, g7, g8, g9]
      exact this
    have e2 : Hid (W.atN n = -1) := by
      have : W.atN n = -1 := by simp [W.atN, g0, g1, g2, g3, g4, g5, g6, g7, g8, g9]
      exact this
    clear g0 g1 g2 g3 g4 g5 g6 g7 g8 g9 hn
    unfold fileCells
    go_enter Try.func22, Try.ntmps22
    go_wp2_with (go_at_call 35; refine (at_g _ (-1) e2.out _).mono ?_; rintro e w1 ⟨rfl, hb⟩)
    exact bodyPost_ret (v := .tuple #[.int .u32 0, .bool false]) (by simp [results, Try.results22, go_sem]) rfl ⟨by rw [e1.out.1, e1.out.2], ((Below.refl _ _).alloc (Nat.le_refl _) _).trans (hb.mono (by simp))⟩
  have hr := isReg_cases n hn
  cases hm : (G.m == 0)
  case true =>
    have e1 : Hid (W.getV G n = 0 ∧ W.getB G n = false) := by
      have : W.getV G n = 0 ∧ W.getB G n = false := by simp [W.getV, W.getB, hm]
      exact this
    clear hn
    rcases hr with rfl | rfl | rfl | rfl | rfl | rfl | rfl | rfl | rfl | rfl
    all_goals
      unfold fileCells
      go_enter Try.func22, Try.ntmps22
      go_wp2_with (go_at_call 35; refine (at_g _ _ rfl _).mono ?_; rintro e w1 ⟨rfl, hb⟩; have h1 := hA.below (by exact hb); obtain ⟨c0, c1, c2, c3, c4, c5, c6, c7, c8, c9, c10, hz⟩ := h1.cells; have hlt := h1.lt; simp only [W.atN])
      exact bodyPost_ret (v := .tuple #[.int .u32 0, .bool false]) (by simp [results, Try.results22, go_sem]) rfl ⟨by rw [e1.out.1, e1.out.2], ((Below.refl _ _).alloc (Nat.le_refl _) _).trans (hb.mono (by simp))⟩
  clear hn
  rcases hr with rfl | rfl | rfl | rfl | rfl | rfl | rfl | rfl | rfl | rfl
  · have e1 : Hid (W.getV G 384 = G.satp ∧ W.getB G 384 = true) := by
      have : W.getV G 384 = G.satp ∧ W.getB G 384 = true := by simp [W.getV, W.getB, hm, W.reg, W.isReg]
      exact this
    unfold fileCells
    go_enter Try.func22, Try.ntmps22
    go_wp2_with (go_at_call 35; refine (at_g _ _ rfl _).mono ?_; rintro e w1 ⟨rfl, hb⟩; have h1 := hA.below (by exact hb); obtain ⟨c0, c1, c2, c3, c4, c5, c6, c7, c8, c9, c10, hz⟩ := h1.cells; have hlt := h1.lt; simp only [W.atN])
    exact bodyPost_ret (v := .tuple #[.int .u32 G.satp, .bool true]) (by simp [results, Try.results22, go_sem]) rfl ⟨by rw [e1.out.1, e1.out.2], ((Below.refl _ _).alloc (Nat.le_refl _) _).trans (hb.mono (by simp))⟩
  · have e1 : Hid (W.getV G 768 = G.st ∧ W.getB G 768 = true) := by
      have : W.getV G 768 = G.st ∧ W.getB G 768 = true := by simp [W.getV, W.getB, hm, W.reg, W.isReg]
      exact this
    unfold fileCells
    go_enter Try.func22, Try.ntmps22
    go_wp2_with (go_at_call 35; refine (at_g _ _ rfl _).mono ?_; rintro e w1 ⟨rfl, hb⟩; have h1 := hA.below (by exact hb); obtain ⟨c0, c1, c2, c3, c4, c5, c6, c7, c8, c9, c10, hz⟩ := h1.cells; have hlt := h1.lt; simp only [W.atN])
    exact bodyPost_ret (v := .tuple #[.int .u32 G.st, .bool true]) (by simp [results, Try.results22, go_sem]) rfl ⟨by rw [e1.out.1, e1.out.2], ((Below.refl _ _).alloc (Nat.le_refl _) _).trans (hb.mono (by simp))⟩
  · have e1 : Hid (W.getV G 772 = G.mie ∧ W.getB G 772 = true) := by
      have : W.getV G 772 = G.mie ∧ W.getB G 772 = true := by simp [W.getV, W.getB, hm, W.reg, W.isReg]
      exact this
    unfold fileCells
    go_enter Try.func22, Try.ntmps22
    go_wp2_with (go_at_call 35; refine (at_g _ _ rfl _).mono ?_; rintro e w1 ⟨rfl, hb⟩; have h1 := hA.below (by exact hb); obtain ⟨c0, c1, c2, c3, c4, c5, c6, c7, c8, c9, c10, hz⟩ := h1.cells; have hlt := h1.lt; simp only [W.atN])
    exact bodyPost_ret (v := .tuple #[.int .u32 G.mie, .bool true]) (by simp [results, Try.results22, go_sem]) rfl ⟨by rw [e1.out.1, e1.out.2], ((Below.refl _ _).alloc (Nat.le_refl _) _).trans (hb.mono (by simp))⟩
  · have e1 : Hid (W.getV G 773 = G.tvec ∧ W.getB G 773 = true) := by
      have : W.getV G 773 = G.tvec ∧ W.getB G 773 = true := by simp [W.getV, W.getB, hm, W.reg, W.isReg]
      exact this
    unfold fileCells
    go_enter Try.func22, Try.ntmps22
    go_wp2_with (go_at_call 35; refine (at_g _ _ rfl _).mono ?_; rintro e w1 ⟨rfl, hb⟩; have h1 := hA.below (by exact hb); obtain ⟨c0, c1, c2, c3, c4, c5, c6, c7, c8, c9, c10, hz⟩ := h1.cells; have hlt := h1.lt; simp only [W.atN])
    exact bodyPost_ret (v := .tuple #[.int .u32 G.tvec, .bool true]) (by simp [results, Try.results22, go_sem]) rfl ⟨by rw [e1.out.1, e1.out.2], ((Below.refl _ _).alloc (Nat.le_refl _) _).trans (hb.mono (by simp))⟩
  · have e1 : Hid (W.getV G 832 = G.scr ∧ W.getB G 832 = true) := by
      have : W.getV G 832 = G.scr ∧ W.getB G 832 = true := by simp [W.getV, W.getB, hm, W.reg, W.isReg]
      exact this
    unfold fileCells
    go_enter Try.func22, Try.ntmps22
    go_wp2_with (go_at_call 35; refine (at_g _ _ rfl _).mono ?_; rintro e w1 ⟨rfl, hb⟩; have h1 := hA.below (by exact hb); obtain ⟨c0, c1, c2, c3, c4, c5, c6, c7, c8, c9, c10, hz⟩ := h1.cells; have hlt := h1.lt; simp only [W.atN])
    exact bodyPost_ret (v := .tuple #[.int .u32 G.scr, .bool true]) (by simp [results, Try.results22, go_sem]) rfl ⟨by rw [e1.out.1, e1.out.2], ((Below.refl _ _).alloc (Nat.le_refl _) _).trans (hb.mono (by simp))⟩
  · have e1 : Hid (W.getV G 833 = G.epc ∧ W.getB G 833 = true) := by
      have : W.getV G 833 = G.epc ∧ W.getB G 833 = true := by simp [W.getV, W.getB, hm, W.reg, W.isReg]
      exact this
    unfold fileCells
    go_enter Try.func22, Try.ntmps22
    go_wp2_with (go_at_call 35; refine (at_g _ _ rfl _).mono ?_; rintro e w1 ⟨rfl, hb⟩; have h1 := hA.below (by exact hb); obtain ⟨c0, c1, c2, c3, c4, c5, c6, c7, c8, c9, c10, hz⟩ := h1.cells; have hlt := h1.lt; simp only [W.atN])
    exact bodyPost_ret (v := .tuple #[.int .u32 G.epc, .bool true]) (by simp [results, Try.results22, go_sem]) rfl ⟨by rw [e1.out.1, e1.out.2], ((Below.refl _ _).alloc (Nat.le_refl _) _).trans (hb.mono (by simp))⟩
  · have e1 : Hid (W.getV G 834 = G.cause ∧ W.getB G 834 = true) := by
      have : W.getV G 834 = G.cause ∧ W.getB G 834 = true := by simp [W.getV, W.getB, hm, W.reg, W.isReg]
      exact this
    unfold fileCells
    go_enter Try.func22, Try.ntmps22
    go_wp2_with (go_at_call 35; refine (at_g _ _ rfl _).mono ?_; rintro e w1 ⟨rfl, hb⟩; have h1 := hA.below (by exact hb); obtain ⟨c0, c1, c2, c3, c4, c5, c6, c7, c8, c9, c10, hz⟩ := h1.cells; have hlt := h1.lt; simp only [W.atN])
    exact bodyPost_ret (v := .tuple #[.int .u32 G.cause, .bool true]) (by simp [results, Try.results22, go_sem]) rfl ⟨by rw [e1.out.1, e1.out.2], ((Below.refl _ _).alloc (Nat.le_refl _) _).trans (hb.mono (by simp))⟩
  · have e1 : Hid (W.getV G 835 = G.tval ∧ W.getB G 835 = true) := by
      have : W.getV G 835 = G.tval ∧ W.getB G 835 = true := by simp [W.getV, W.getB, hm, W.reg, W.isReg]
      exact this
    unfold fileCells
    go_enter Try.func22, Try.ntmps22
    go_wp2_with (go_at_call 35; refine (at_g _ _ rfl _).mono ?_; rintro e w1 ⟨rfl, hb⟩; have h1 := hA.below (by exact hb); obtain ⟨c0, c1, c2, c3, c4, c5, c6, c7, c8, c9, c10, hz⟩ := h1.cells; have hlt := h1.lt; simp only [W.atN])
    exact bodyPost_ret (v := .tuple #[.int .u32 G.tval, .bool true]) (by simp [results, Try.results22, go_sem]) rfl ⟨by rw [e1.out.1, e1.out.2], ((Below.refl _ _).alloc (Nat.le_refl _) _).trans (hb.mono (by simp))⟩
  · have e1 : Hid (W.getV G 836 = G.mip ∧ W.getB G 836 = true) := by
      have : W.getV G 836 = G.mip ∧ W.getB G 836 = true := by simp [W.getV, W.getB, hm, W.reg, W.isReg]
      exact this
    unfold fileCells
    go_enter Try.func22, Try.ntmps22
    go_wp2_with (go_at_call 35; refine (at_g _ _ rfl _).mono ?_; rintro e w1 ⟨rfl, hb⟩; have h1 := hA.below (by exact hb); obtain ⟨c0, c1, c2, c3, c4, c5, c6, c7, c8, c9, c10, hz⟩ := h1.cells; have hlt := h1.lt; simp only [W.atN])
    exact bodyPost_ret (v := .tuple #[.int .u32 G.mip, .bool true]) (by simp [results, Try.results22, go_sem]) rfl ⟨by rw [e1.out.1, e1.out.2], ((Below.refl _ _).alloc (Nat.le_refl _) _).trans (hb.mono (by simp))⟩
  · have e1 : Hid (W.getV G 3860 = G.hart ∧ W.getB G 3860 = true) := by
      have : W.getV G 3860 = G.hart ∧ W.getB G 3860 = true := by simp [W.getV, W.getB, hm, W.reg, W.isReg]
      exact this
    unfold fileCells
    go_enter Try.func22, Try.ntmps22
    go_wp2_with (go_at_call 35; refine (at_g _ _ rfl _).mono ?_; rintro e w1 ⟨rfl, hb⟩; have h1 := hA.below (by exact hb); obtain ⟨c0, c1, c2, c3, c4, c5, c6, c7, c8, c9, c10, hz⟩ := h1.cells; have hlt := h1.lt; simp only [W.atN])
    exact bodyPost_ret (v := .tuple #[.int .u32 G.hart, .bool true]) (by simp [results, Try.results22, go_sem]) rfl ⟨by rw [e1.out.1, e1.out.2], ((Below.refl _ _).alloc (Nat.le_refl _) _).trans (hb.mono (by simp))⟩
end Go.Proofs.Ytbagmlcakmhhaaa
