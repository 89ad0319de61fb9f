/- SetLine of the document's memory. -/
import Derived.Test.YtjdiepklgcdamaaDoorMemV
namespace Go.Proofs.YtjdiepklgcdamaaDoor
open Go.ChangeShapes Go.WideShapes Go.ChangeAt Go.RowKit
set_option linter.unusedVariables false
set_option linter.unusedSimpArgs false

/-- f with the first m words of line i put. -/
def W.lk (m : Nat) (f : Nat → Int) (i : Nat) (L : Nat → Int) : Nat → Int := fun j => if i * 4 ≤ j ∧ j < i * 4 + m then L (j - i * 4) else f j
theorem lk_rg {f L : Nat → Int} (hf : ∀ j, 0 ≤ f j ∧ f j < 4294967296) (hL : ∀ j, 0 ≤ L j ∧ L j < 4294967296) (m i j : Nat) : 0 ≤ W.lk m f i L j ∧ W.lk m f i L j < 4294967296 := by
  unfold W.lk
  split
  · exact hL _
  · exact hf _
theorem lk_succ (n m i : Nat) (f L : Nat → Int) (hf : ∀ j, 0 ≤ f j ∧ f j < 4294967296) (hL : ∀ j, 0 ≤ L j ∧ L j < 4294967296) (hi : i < n) (hm : m < 4) : W.stored n (W.lk m f i L) (i * 16 + 4 * m) 4 (L m) = W.lk (m + 1) f i L := by
  rw [store_word n i m _ _ (lk_rg hf hL m i) (hL _).1 (hL _).2 hi hm]
  funext j
  unfold W.lk
  by_cases e : j = i * 4 + m
  · rw [if_pos e, if_pos (by omega), e, Nat.add_sub_cancel_left]
  · rw [if_neg e]
    by_cases e2 : i * 4 ≤ j ∧ j < i * 4 + m
    · rw [if_pos e2, if_pos (by omega)]
    · rw [if_neg e2, if_neg (by omega)]
theorem lk_0 (f L : Nat → Int) (i : Nat) : W.lk 0 f i L = f := by
  funext j
  unfold W.lk
  rw [if_neg (by omega)]
theorem lk_4 (n : Nat) (f L : Nat → Int) (i : Nat) (hi : i < n) : W.lk 4 f i L = W.lined n f i L := by
  have h : 0 ≤ (i : Int) ∧ (i : Int) < n := by omega
  unfold W.lined
  rw [if_pos h]
  funext j
  unfold W.lk
  by_cases e : j / 4 = i
  · rw [if_pos (by omega), if_pos (by omega), show j - i * 4 = j % 4 by omega]
  · rw [if_neg (by omega), if_neg (by omega)]

theorem rsetLine_no (b c n : Nat) (f : Nat → Int) (i : Int) (L : Nat → Int) (w : World) (h : RAt b c n f w) (hi : ¬ (0 ≤ i ∧ i < n)) : Calls Tryd.prog 17 #[.pointer (some ⟨b, 0, none⟩), .int .i64 i, lineV L] w fun e w' => e = .returned (.bool false) ∧ Below w.heap.size w w' := by
  have n2 := h.n2
  have h2 := (h.below ((Below.refl _ _).alloc (Nat.le_refl _) (.cells #[.int .u32 (L 0), .int .u32 (L 1), .int .u32 (L 2), .int .u32 (L 3)] 38)))
  have hd := h2.head
  obtain ⟨m, hm⟩ : ∃ m, 16 * n = m := ⟨_, rfl⟩
  rw [hm] at hd
  have hm2 : (m : Int) / 16 = n := by omega
  unfold lineV
  by_cases h0 : i < 0
  · go_enter Tryd.func17, Tryd.ntmps17
    go_wp2
    go_ret
    exact ⟨rfl, (Below.refl _ _).alloc (Nat.le_refl _) _⟩
  · have h1 : (n : Int) ≤ i := by omega
    go_enter Tryd.func17, Tryd.ntmps17
    go_wp2
    go_ret
    exact ⟨rfl, (Below.refl _ _).alloc (Nat.le_refl _) _⟩

set_option maxHeartbeats 1600000 in
theorem rsetLine_yes (b c n : Nat) (f : Nat → Int) (i : Nat) (L : Nat → Int) (hL : ∀ k, 0 ≤ L k ∧ L k < 4294967296) (w : World) (h : RAt b c n f w) (hi : i < n) : Calls Tryd.prog 17 #[.pointer (some ⟨b, 0, none⟩), .int .i64 (i : Int), lineV L] w fun e w' => e = .returned (.bool true) ∧ RAt b c n (W.lined n f i L) w' ∧ w.grownBy w' (some c) := by
  have n2 := h.n2
  have hrg := h.rg
  have hlt := h.lt
  have bA := (Below.refl w.heap.size w).alloc (Nat.le_refl _) (.cells #[.int .u32 (L 0), .int .u32 (L 1), .int .u32 (L 2), .int .u32 (L 3)] 38)
  have h3 := h.below bA
  have q1 := Ln.new L w
  have hd := h3.head
  obtain ⟨m, hm⟩ : ∃ m, 16 * n = m := ⟨_, rfl⟩
  rw [hm] at hd
  have hm2 : (m : Int) / 16 = n := by omega
  have hin : (i : Int) < n := by omega
  have hz1 : decide ((i : Int) < 0) = false := by simp
  have hz2 : decide ((n : Int) ≤ i) = false := by simp; omega
  have hz3 : decide (n ≤ i) = false := by simp; omega
  have l0 := hL 0
  have l1 := hL 1
  have l2 := hL 2
  have l3 := hL 3
  unfold lineV
  go_enter Tryd.func17, Tryd.ntmps17
  go_wp2
  generalize World.alloc w _ = W1 at *
  have gr : W1.grownBy W1 (some c) := gbelow (Below.refl _ _)
  have h4 : RAt b c n (W.lk 0 f i L) W1 := by rw [lk_0]; exact h3
  go_loopw [7] (fun k wr => (k = .int .i64 0 ∧ RAt b c n (W.lk 0 f i L) wr ∧ Ln w.heap.size L wr ∧ W1.grownBy wr (some c)) ∨ (k = .int .i64 1 ∧ RAt b c n (W.lk 1 f i L) wr ∧ Ln w.heap.size L wr ∧ W1.grownBy wr (some c)) ∨ (k = .int .i64 2 ∧ RAt b c n (W.lk 2 f i L) wr ∧ Ln w.heap.size L wr ∧ W1.grownBy wr (some c)) ∨ (k = .int .i64 3 ∧ RAt b c n (W.lk 3 f i L) wr ∧ Ln w.heap.size L wr ∧ W1.grownBy wr (some c)) ∨ (k = .int .i64 4 ∧ RAt b c n (W.lk 4 f i L) wr ∧ Ln w.heap.size L wr ∧ W1.grownBy wr (some c))) (fun k _ => 4 - (intOf k).toNat)
  case atStart => exact Or.inl ⟨rfl, h4, q1, gr⟩
  case round =>
    clear hd h3 h4 gr
    rcases hrel with ⟨rfl, r1, r2, r3⟩ | ⟨rfl, r1, r2, r3⟩ | ⟨rfl, r1, r2, r3⟩ | ⟨rfl, r1, r2, r3⟩ | ⟨rfl, r1, r2, r3⟩
    · obtain ⟨d0, d1, d2, d3, dz⟩ := r2.cells
      go_wp2_with fail
      refine (rstore_l r1 _ (i * 16 + 4 * 0) _ _ true l0.1 l0.2 (by omega) (by omega) (W.has_in n _ 4 (W.al_4 _ (by omega)) (by omega))).mono ?_
      rintro e w' ⟨rfl, r4, r5⟩
      go_wp2
      go_roundw
      case rel => exact Or.inr (Or.inl ⟨by go_num, by rw [← lk_succ n 0 i f L hrg hL hi (by decide)]; exact r4, r2.kept r5 (by omega), gtrans r3 r5⟩)
      case measure => simp [intOf]
    · obtain ⟨d0, d1, d2, d3, dz⟩ := r2.cells
      go_wp2_with fail
      refine (rstore_l r1 _ (i * 16 + 4 * 1) _ _ true l1.1 l1.2 (by omega) (by omega) (W.has_in n _ 4 (W.al_4 _ (by omega)) (by omega))).mono ?_
      rintro e w' ⟨rfl, r4, r5⟩
      go_wp2
      go_roundw
      case rel => exact Or.inr (Or.inr (Or.inl ⟨by go_num, by rw [← lk_succ n 1 i f L hrg hL hi (by decide)]; exact r4, r2.kept r5 (by omega), gtrans r3 r5⟩))
      case measure => simp [intOf]
    · obtain ⟨d0, d1, d2, d3, dz⟩ := r2.cells
      go_wp2_with fail
      refine (rstore_l r1 _ (i * 16 + 4 * 2) _ _ true l2.1 l2.2 (by omega) (by omega) (W.has_in n _ 4 (W.al_4 _ (by omega)) (by omega))).mono ?_
      rintro e w' ⟨rfl, r4, r5⟩
      go_wp2
      go_roundw
      case rel => exact Or.inr (Or.inr (Or.inr (Or.inl ⟨by go_num, by rw [← lk_succ n 2 i f L hrg hL hi (by decide)]; exact r4, r2.kept r5 (by omega), gtrans r3 r5⟩)))
      case measure => simp [intOf]
    · obtain ⟨d0, d1, d2, d3, dz⟩ := r2.cells
      go_wp2_with fail
      refine (rstore_l r1 _ (i * 16 + 4 * 3) _ _ true l3.1 l3.2 (by omega) (by omega) (W.has_in n _ 4 (W.al_4 _ (by omega)) (by omega))).mono ?_
      rintro e w' ⟨rfl, r4, r5⟩
      go_wp2
      go_roundw
      case rel => exact Or.inr (Or.inr (Or.inr (Or.inr (⟨by go_num, by rw [← lk_succ n 3 i f L hrg hL hi (by decide)]; exact r4, r2.kept r5 (by omega), gtrans r3 r5⟩))))
      case measure => simp [intOf]
    · go_wp2
      go_ret
      exact ⟨rfl, by rw [← lk_4 n f L i hi]; exact r1, gtrans (gbelow bA) r3⟩

theorem rsetLine_any (b c n : Nat) (f : Nat → Int) (i : Int) (L : Nat → Int) (hL : ∀ k, 0 ≤ L k ∧ L k < 4294967296) (w : World) (h : RAt b c n f w) : Calls Tryd.prog 17 #[.pointer (some ⟨b, 0, none⟩), .int .i64 i, lineV L] w fun e w' => e = .returned (.bool (decide (0 ≤ i ∧ i < n))) ∧ RAt b c n (W.lined n f i L) w' ∧ w.grownBy w' (some c) := by
  by_cases hi : 0 ≤ i ∧ i < n
  · obtain ⟨k, rfl⟩ := Int.eq_ofNat_of_zero_le hi.1
    refine (rsetLine_yes b c n f k L hL w h (by omega)).mono fun e w' ⟨a1, a2, a3⟩ => ⟨by rw [a1, decide_eq_true hi], a2, a3⟩
  · refine (rsetLine_no b c n f i L w h hi).mono fun e w' ⟨a1, a2⟩ => ⟨by rw [a1, decide_eq_false hi], ?_, gbelow a2⟩
    rw [W.lined, if_neg hi]; exact h.below a2
end Go.Proofs.YtjdiepklgcdamaaDoor
