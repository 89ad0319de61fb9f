/- Two entries in a block of their own. -/
import Derived.Test.YtkcdkjmkgncihaaWalkH
import Derived.Test.YtkcdkjmkgncihaaWalkP
namespace Go.Proofs.Ytkcdkjmkgncihaa
open Go.ChangeShapes Go.WideShapes Go.ChangeAt Go.RowKit
set_option linter.unusedVariables false
set_option linter.unusedSimpArgs false

def Tw (b : Nat) (a1 v1 a0 v0 : Int) (w : World) : Prop := w.heap[b]? = some (.cells #[.int .u32 a1, .int .u32 v1, .int .u32 0, .int .i64 0, .bool false, .int .u32 a0, .int .u32 v0, .int .u32 0, .int .i64 0, .bool false] 32)
theorem Tw.lt {b : Nat} {a1 v1 a0 v0 : Int} {w : World} (h : Tw b a1 v1 a0 v0 w) : b < w.heap.size := by
  obtain ⟨h1, _⟩ := Array.getElem?_eq_some_iff.1 h
  exact h1
theorem Tw.below {b : Nat} {a1 v1 a0 v0 : Int} {w w' : World} (h : Tw b a1 v1 a0 v0 w) (hb : Below w.heap.size w w') : Tw b a1 v1 a0 v0 w' := (hb.block _ h.lt).trans h
theorem Tw.alloc {b : Nat} {a1 v1 a0 v0 : Int} {w : World} (h : Tw b a1 v1 a0 v0 w) (o : Obj) : Tw b a1 v1 a0 v0 (w.alloc o) := h.below ((Below.refl _ _).alloc (Nat.le_refl _) _)
theorem Tw.new (a1 v1 a0 v0 : Int) (w : World) : Tw w.heap.size a1 v1 a0 v0 (w.alloc (.cells #[.int .u32 a1, .int .u32 v1, .int .u32 0, .int .i64 0, .bool false, .int .u32 a0, .int .u32 v0, .int .u32 0, .int .i64 0, .bool false] 32)) := by
  show (w.heap.push _)[w.heap.size]? = _
  simp
theorem Tw.set {b : Nat} {a1 v1 a0 v0 : Int} {w : World} (h : Tw b a1 v1 a0 v0 w) (v : Int) : Tw b a1 v1 a0 v (w.setCell ⟨b, 6, none⟩ (.int .u32 v)) := by
  have e0 : w.heap[b]? = _ := h
  show (w.setCell ⟨b, 6, none⟩ (.int .u32 v)).heap[b]? = _
  simp only [World.setCell, Array.getElem?_modify, if_true, e0, Option.map_some]
  simp
theorem Tw.cells {b : Nat} {a1 v1 a0 v0 : Int} {w : World} (h : Tw b a1 v1 a0 v0 w) :
    w.cell? ⟨b, 5, none⟩ = some (.int .u32 a0) ∧ w.cell? ⟨b, 6, none⟩ = some (.int .u32 v0) ∧ ∀ o, w.frozen? ⟨b, o, none⟩ = false := by
  have e0 : w.heap[b]? = _ := h
  simp [World.cell?, World.frozen?, e0]
theorem Tw.reads {b : Nat} {a1 v1 a0 v0 : Int} {w : World} (h : Tw b a1 v1 a0 v0 w) (h1 : 0 ≤ v1 ∧ v1 < 4294967296) (h0 : 0 ≤ v0 ∧ v0 < 4294967296) : Reads (some ⟨b, 0, none⟩) 2 (W.two ⟨a1, v1, 0, 0, false⟩ ⟨a0, v0, 0, 0, false⟩) w := by
  have e0 : w.heap[b]? = _ := h
  refine ⟨by decide, fun _ => ⟨b, 0, rfl, h.lt, ?_⟩, fun j => ?_⟩
  · intro j hj
    match j, hj with
    | 0, _ => simp [World.cell?, e0, W.two]
    | 1, _ => simp [World.cell?, e0, W.two]
  · by_cases hj : j = 0
    · subst hj; exact h1
    · simp only [W.two, if_neg hj]; exact h0
theorem next_two (satp mode va acc bytes : Int) (s0 : 0 ≤ satp) (s1 : satp < 4294967296) (v0 : 0 ≤ va) (v1 : va < 4294967296) (b cap : Nat) (a1 x1 a0 x0 : Int) (w : World) (h : Tw b a1 x1 a0 x0 w) (h1 : 0 ≤ x1 ∧ x1 < 4294967296) (h0 : 0 ≤ x0 ∧ x0 < 4294967296) (S : W.Stp)
    (hS : W.nextS satp mode va acc bytes 2 (W.two a1 a0) (W.two x1 x0) = S) :
    Calls Try.prog 9 #[.int .u32 satp, .int .i64 mode, .int .u32 va, .int .i64 acc, .int .i64 bytes, .slice (some ⟨b, 0, none⟩) 2 cap] w fun x w' => x = .returned (.agg #[.int .i64 S.k, .int .u32 S.pa, .int .u32 S.ad, .int .u32 S.vl, .int .u32 S.ca]) ∧ Below w.heap.size w w' := by
  refine next_any satp mode va acc bytes s0 s1 v0 v1 _ 2 cap _ w (h.reads h1 h0) S ?_
  rw [← hS]
  congr 1
  · funext j; unfold W.two; split <;> rfl
  · funext j; unfold W.two; split <;> rfl
end Go.Proofs.Ytkcdkjmkgncihaa
