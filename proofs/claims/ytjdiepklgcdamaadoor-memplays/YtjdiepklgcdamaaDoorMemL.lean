/- Lines held against one another; where a line of a law's own lies. -/
import Derived.Test.YtjdiepklgcdamaaDoorMemK
namespace Go.Proofs.YtjdiepklgcdamaaDoor
open Go.ChangeShapes Go.WideShapes Go.ChangeAt Go.RowKit
set_option linter.unusedVariables false
set_option linter.unusedSimpArgs false

theorem sameLine_yes (L : Nat → Int) (w : World) : Calls Tryd.prog 23 #[lineV L, lineV L] w fun e w' => e = .returned (.bool true) ∧ Below w.heap.size w w' := by
  unfold lineV
  go_enter Tryd.func23, Tryd.ntmps23
  go_wp2
  go_ret
  exact ⟨rfl, ((Below.refl _ _).alloc (Nat.le_refl _) _).alloc (by simp) _⟩
theorem sameLine_eq (L M : Nat → Int) (w : World) (h : ∀ j, j < 4 → L j = M j) : Calls Tryd.prog 23 #[lineV L, lineV M] w fun e w' => e = .returned (.bool true) ∧ Below w.heap.size w w' := by
  have e : lineV L = lineV M := by unfold lineV; rw [h 0 (by decide), h 1 (by decide), h 2 (by decide), h 3 (by decide)]
  rw [e]
  exact sameLine_yes M w

theorem W.off_0 (x : Int) (x0 : 0 ≤ x) (x1 : x < 4294967296) : bits .andNot .u32 x 0 = x := by
  rw [W.off_eq x 0 x0 x1 (by decide) (by decide), u32_and x 0 x0 x1 (by decide) (by decide)]
  simp
theorem W.off_1 (x : Int) (x0 : 0 ≤ x) (x1 : x < 4294967296) : bits .andNot .u32 x 1 = x / 2 * 2 := by
  rw [W.off_eq x 1 x0 x1 (by decide) (by decide), W.and1 x x0 x1]
  omega
theorem W.off_3 (x : Int) (x0 : 0 ≤ x) (x1 : x < 4294967296) : bits .andNot .u32 x 3 = x / 4 * 4 := by
  have := W.low_and x 2 (by decide) x0 x1
  rw [W.off_eq x 3 x0 x1 (by decide) (by decide), show (3 : Int) = 2 ^ 2 - 1 from rfl, this]
  omega

theorem lineOf_stored (n A : Nat) (f : Nat → Int) (s v : Int) (hh : W.has n A s = true) (j : Nat) (hj : j < 4) : W.lineOf n (W.stored n f A s v) ((A / 16 : Nat) : Int) j = W.wl (W.lineOf n f ((A / 16 : Nat) : Int)) A s v j := by
  obtain ⟨ha, hl⟩ := has_al hh
  have hi : 0 ≤ ((A / 16 : Nat) : Int) ∧ ((A / 16 : Nat) : Int) < n := by omega
  unfold W.lineOf W.wl W.stored
  rw [if_pos hi, if_pos hi, hh, ha]
  simp only [cond_true, W.put]
  have e : (((A / 16 : Nat) : Int)).toNat = A / 16 := by omega
  rw [e]
  by_cases e2 : A / 16 * 4 + j = A / 4
  · rw [if_pos e2, if_pos (by omega)]
  · rw [if_neg e2, if_neg (by omega)]
theorem load_part (n A : Nat) (f : Nat → Int) (s : Int) (hh : W.has n A s = true) : W.loadV n f A s = W.part (W.lineOf n f ((A / 16 : Nat) : Int)) A s := by
  obtain ⟨ha, hl⟩ := has_al hh
  have hi : 0 ≤ ((A / 16 : Nat) : Int) ∧ ((A / 16 : Nat) : Int) < n := by omega
  unfold W.lineOf W.part W.loadV
  rw [if_pos hi, hh, ha]
  simp only [cond_true]
  have e : (((A / 16 : Nat) : Int)).toNat = A / 16 := by omega
  rw [e, show A / 16 * 4 + A % 16 / 4 = A / 4 by omega]
theorem lineOf_rg {n : Nat} {f : Nat → Int} (hr : ∀ j, 0 ≤ f j ∧ f j < 4294967296) (i : Int) (j : Nat) : 0 ≤ W.lineOf n f i j ∧ W.lineOf n f i j < 4294967296 := by
  unfold W.lineOf
  split
  · exact hr _
  · exact ⟨Int.le_refl 0, show (0 : Int) < 4294967296 by decide⟩
theorem Ln.set4 {b : Nat} {L M : Nat → Int} {w : World} (h : Ln b L w) : Ln b M ((((w.setCell ⟨b, 0, none⟩ (.int .u32 (M 0))).setCell ⟨b, 1, none⟩ (.int .u32 (M 1))).setCell ⟨b, 2, none⟩ (.int .u32 (M 2))).setCell ⟨b, 3, none⟩ (.int .u32 (M 3))) := by
  refine ⟨?_⟩
  have e := h.out
  simp only [World.setCell, Array.getElem?_modify, if_true, e, Option.map_some]
  simp
theorem SL.of {w w' : World} {a b : Nat} {L M : Nat → Int} (hB : Below w.heap.size w w') (h4 : Ln a L w') (h6 : Ln b M w') : Below w.heap.size w w' ∧ a < w'.heap.size ∧ b < w'.heap.size ∧ w'.cell? ⟨a, 0, none⟩ = some (.int .u32 (L 0)) ∧ w'.cell? ⟨a, 1, none⟩ = some (.int .u32 (L 1)) ∧ w'.cell? ⟨a, 2, none⟩ = some (.int .u32 (L 2)) ∧ w'.cell? ⟨a, 3, none⟩ = some (.int .u32 (L 3)) ∧ w'.cell? ⟨b, 0, none⟩ = some (.int .u32 (M 0)) ∧ w'.cell? ⟨b, 1, none⟩ = some (.int .u32 (M 1)) ∧ w'.cell? ⟨b, 2, none⟩ = some (.int .u32 (M 2)) ∧ w'.cell? ⟨b, 3, none⟩ = some (.int .u32 (M 3)) := by
  obtain ⟨c0, c1, c2, c3, _⟩ := h4.cells
  obtain ⟨d0, d1, d2, d3, _⟩ := h6.cells
  exact ⟨hB, h4.lt, h6.lt, c0, c1, c2, c3, d0, d1, d2, d3⟩
theorem SL.below {w w' w2 : World} {a b : Nat} {L M : Nat → Int} (h : Below w.heap.size w w' ∧ a < w'.heap.size ∧ b < w'.heap.size ∧ w'.cell? ⟨a, 0, none⟩ = some (.int .u32 (L 0)) ∧ w'.cell? ⟨a, 1, none⟩ = some (.int .u32 (L 1)) ∧ w'.cell? ⟨a, 2, none⟩ = some (.int .u32 (L 2)) ∧ w'.cell? ⟨a, 3, none⟩ = some (.int .u32 (L 3)) ∧ w'.cell? ⟨b, 0, none⟩ = some (.int .u32 (M 0)) ∧ w'.cell? ⟨b, 1, none⟩ = some (.int .u32 (M 1)) ∧ w'.cell? ⟨b, 2, none⟩ = some (.int .u32 (M 2)) ∧ w'.cell? ⟨b, 3, none⟩ = some (.int .u32 (M 3))) (hm : Below w'.heap.size w' w2) : Below w.heap.size w w2 ∧ a < w2.heap.size ∧ b < w2.heap.size ∧ w2.cell? ⟨a, 0, none⟩ = some (.int .u32 (L 0)) ∧ w2.cell? ⟨a, 1, none⟩ = some (.int .u32 (L 1)) ∧ w2.cell? ⟨a, 2, none⟩ = some (.int .u32 (L 2)) ∧ w2.cell? ⟨a, 3, none⟩ = some (.int .u32 (L 3)) ∧ w2.cell? ⟨b, 0, none⟩ = some (.int .u32 (M 0)) ∧ w2.cell? ⟨b, 1, none⟩ = some (.int .u32 (M 1)) ∧ w2.cell? ⟨b, 2, none⟩ = some (.int .u32 (M 2)) ∧ w2.cell? ⟨b, 3, none⟩ = some (.int .u32 (M 3)) := by
  obtain ⟨hB, ha, hb, c0, c1, c2, c3, d0, d1, d2, d3⟩ := h
  have q : ∀ x j, x < w'.heap.size → w2.cell? ⟨x, j, none⟩ = w'.cell? ⟨x, j, none⟩ := fun x j hx => hm.cell hx
  have hs := hm.size
  refine ⟨hB.trans (hm.mono hB.size), by omega, by omega, ?_⟩
  rw [q a 0 ha, q a 1 ha, q a 2 ha, q a 3 ha, q b 0 hb, q b 1 hb, q b 2 hb, q b 3 hb]
  exact ⟨c0, c1, c2, c3, d0, d1, d2, d3⟩
end Go.Proofs.YtjdiepklgcdamaaDoor
