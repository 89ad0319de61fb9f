/- The laws' first. -/
import Derived.Test.YtbppeehhohdfiaaPpoT
import Derived.Test.YtbppeehhohdfiaaPpoU
namespace Go.Proofs.Ytbppeehhohdfiaa
open Go.ChangeShapes Go.WideShapes Go.ChangeAt Go.RowKit
set_option linter.unusedVariables false
set_option linter.unusedSimpArgs false

namespace W
def ozL (l : List Opr) (j : Nat) : Oz := oz0 (l[j]?.getD (op3 0 0 0))
theorem ozL_at (l : List Opr) (j : Nat) (o : Opr) (h : l[j]? = some o) : ozL l j = oz0 o := by unfold ozL; rw [h]; rfl
theorem ozL_ok (l : List Opr) (h : ∀ o ∈ l, 0 ≤ o.sz ∧ o.sz ≤ 4 ∧ 0 ≤ o.ad ∧ o.ad < 4294967296) (j : Nat) (hj : j < l.length) : OzOk (ozL l j) := by
  have e : l[j]? = some l[j] := List.getElem?_eq_getElem hj
  rw [ozL_at l j _ e]
  obtain ⟨h1, h2, h3, h4⟩ := h l[j] (List.getElem_mem hj)
  exact ⟨by show _ ≤ l[j].sz; omega, by show l[j].sz ≤ _; omega, h3, h4⟩
theorem why_a : whyI (ozL [op3 1 4 0, op3 2 4 4]) 2 0 1 = 0 := by decide +kernel
theorem why_b : whyI (ozL [op3 1 4 0, opB 1 2, op3 2 4 4]) 3 0 2 = 4 := by decide +kernel
end W
theorem ol_row (w : World) (l : List W.Opr) (T : TypeId) : Ol (some ⟨w.heap.size, 0, none⟩) l.length (W.ozL l) (w.alloc (.cells (opsR l) T)) := (ow_row l T (heap_alloc_last w _) (W.ozL l) (W.ozL_at l)).ol
/-- Why of a list of one's own. -/
theorem why_row (l : List W.Opr) (w : World) (W1 : World) (T : TypeId) (hb : Below (w.alloc (.cells (opsR l) T)).heap.size (w.alloc (.cells (opsR l) T)) W1) (hl : l.length ≤ 4000) (h : ∀ o ∈ l, 0 ≤ o.sz ∧ o.sz ≤ 4 ∧ 0 ≤ o.ad ∧ o.ad < 4294967296) (i k : Int) (i0 : -9223372036854775808 ≤ i) (i1 : i ≤ 9223372036854775807) (k0 : -9223372036854775808 ≤ k) (k1 : k ≤ 9223372036854775807) (v : Int) (hv : W.whyI (W.ozL l) l.length i k = v) :
    Calls Try.prog 12 #[.slice (some ⟨w.heap.size, 0, none⟩) l.length l.length, .int .i64 i, .int .i64 k] W1 fun e w' => e = .returned (.int .i64 v) ∧ Below W1.heap.size W1 w' := by
  have := whyI_any _ l.length l.length (W.ozL l) W1 ((ol_row w l T).below hb) hl (Nat.le_refl _) (fun j hj => W.ozL_ok l h j hj) i k i0 i1 k0 k1
  rw [hv] at this
  exact this
attribute [local go_sem ↓] bdO_eq bsO_eq ldO_eq
set_option maxRecDepth 10000 in
set_option maxHeartbeats 1600000 in
theorem first13_any (w : World) : Calls Try.prog 8 #[] w fun e w' => e = .returned (.bool true) ∧ Below w.heap.size w w' := by
  have b1 := bdO_2 1 4
  have b2 := bdO_3 2 4 4
  have b3 := bdO_b 1 2
  have s2 := bsO_2 (W.op3 1 4 0) (W.op3 2 4 4)
  have s3 := bsO_3 (W.op3 1 4 0) (W.opB 1 2) (W.op3 2 4 4)
  have hA : ∀ o ∈ [W.op3 1 4 0, W.op3 2 4 4], 0 ≤ o.sz ∧ o.sz ≤ 4 ∧ 0 ≤ o.ad ∧ o.ad < 4294967296 := by decide
  have hB : ∀ o ∈ [W.op3 1 4 0, W.opB 1 2, W.op3 2 4 4], 0 ≤ o.sz ∧ o.sz ≤ 4 ∧ 0 ≤ o.ad ∧ o.ad < 4294967296 := by decide
  have hh := heap_alloc_last w (.cells (opsR [W.op3 1 4 0, W.op3 2 4 4]) 30)
  have l0 := fun W' (hb : Below (w.alloc (.cells (opsR [W.op3 1 4 0, W.op3 2 4 4]) 30)).heap.size (w.alloc (.cells (opsR [W.op3 1 4 0, W.op3 2 4 4]) 30)) W') => ldO_row [W.op3 1 4 0, W.op3 2 4 4] _ ((hb.block _ (by simp)).trans hh) 0 _ rfl
  have l1 := fun W' (hb : Below (w.alloc (.cells (opsR [W.op3 1 4 0, W.op3 2 4 4]) 30)).heap.size (w.alloc (.cells (opsR [W.op3 1 4 0, W.op3 2 4 4]) 30)) W') => ldO_row [W.op3 1 4 0, W.op3 2 4 4] _ ((hb.block _ (by simp)).trans hh) 1 _ rfl
  have e0 := l0 _ (Below.refl _ _).drew
  have e1 := l1 _ (Below.refl _ _).drew
  rw [Nat.zero_mul] at e0
  rw [Nat.one_mul] at e1
  have y1 := fun W1 hb => why_row [W.op3 1 4 0, W.op3 2 4 4] w W1 30 hb (by decide) hA 0 1 (by decide) (by decide) (by decide) (by decide) 0 W.why_a
  have y2 := fun w W1 hb => why_row [W.op3 1 4 0, W.opB 1 2, W.op3 2 4 4] w W1 30 hb (by decide) hB 0 2 (by decide) (by decide) (by decide) (by decide) 4 W.why_b
  have hbw := al_1 w (.cells (opsR [W.op3 1 4 0, W.op3 2 4 4]) 30)
  have hws : (w.alloc (.cells (opsR [W.op3 1 4 0, W.op3 2 4 4]) 30)).heap.size = w.heap.size + 1 := by simp
  have HY : Hid (_ ∧ _ ∧ _) := ⟨y1, y2, hbw⟩
  clear y1 y2 hA hB hh l0 l1 hbw hws
  generalize hW1 : w.alloc (.cells (opsR [W.op3 1 4 0, W.op3 2 4 4]) 30) = W1 at *
  go_enter Try.func8, Try.ntmps8
  go_wp2
  go_region
  go_wp2_with (fail)
  refine (HY.out.1 _ ((Below.refl _ _).alloc (Nat.le_refl _) _).drew).mono ?_
  rintro e w3 ⟨rfl, b3'⟩
  have hb3 : Below (W1.alloc (.cells (opsR [W.op3 1 4 0, W.opB 1 2, W.op3 2 4 4]) 30)).heap.size (W1.alloc (.cells (opsR [W.op3 1 4 0, W.opB 1 2, W.op3 2 4 4]) 30)) w3 := (Below.refl _ _).drew.trans b3'
  go_wp2_with (fail)
  refine (HY.out.2.1 W1 w3 hb3).mono ?_
  rintro e w4 ⟨rfl, b4⟩
  have B4 : Below w.heap.size w w4 := HY.out.2.2.trans ((((Below.refl W1.heap.size W1).alloc (Nat.le_refl _) _).trans ((hb3.trans (b4.mono hb3.size)).mono (by simp))).mono HY.out.2.2.size)
  go_wp2
  go_ret
  exact ⟨rfl, B4⟩
end Go.Proofs.Ytbppeehhohdfiaa
