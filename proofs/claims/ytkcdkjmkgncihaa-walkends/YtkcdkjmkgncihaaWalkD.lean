/- The way down: what lies in memory on it. -/
import Derived.Test.YtkcdkjmkgncihaaWalkC
namespace Go.Proofs.Ytkcdkjmkgncihaa
open Go.ChangeShapes Go.WideShapes Go.ChangeAt Go.RowKit
set_option linter.unusedVariables false

/-- An entry that was read. -/
structure W.Pt where
  a : Int
  v : Int
  o : Int
  t : Int
  f : Bool
def W.Pt.val (p : W.Pt) : Value := .agg #[.int .u32 p.a, .int .u32 p.v, .int .u32 p.o, .int .i64 p.t, .bool p.f]

/-- Within down: the way in block B, the result in the next one. -/
structure Dw (B : Nat) (mode va acc bytes : Int) (w0 w : World) : Prop where
  base : Below w0.heap.size w0 w
  hB : w0.heap.size = B
  way : w.heap[B]? = some (.cells #[.int .i64 mode, .int .u32 va, .int .i64 acc, .int .i64 bytes] 46)
  res : w.heap[B + 1]? = some (.cells #[.int .i64 0, .int .u32 0, .int .u32 0, .int .u32 0, .int .u32 0] 28)

theorem Dw.lt {B : Nat} {mode va acc bytes : Int} {w0 w : World} (h : Dw B mode va acc bytes w0 w) : B + 1 < w.heap.size := by
  obtain ⟨h1, _⟩ := Array.getElem?_eq_some_iff.1 h.res
  exact h1
theorem Dw.below {B : Nat} {mode va acc bytes : Int} {w0 w w' : World} (h : Dw B mode va acc bytes w0 w) (hb : Below w.heap.size w w') : Dw B mode va acc bytes w0 w' :=
  ⟨h.base.trans (hb.mono h.base.size), h.hB, (hb.block _ (by have := h.lt; omega)).trans h.way, (hb.block _ h.lt).trans h.res⟩
theorem Dw.first {mode va acc bytes : Int} (w : World) : Dw w.heap.size mode va acc bytes w ((w.alloc (.cells #[.int .i64 mode, .int .u32 va, .int .i64 acc, .int .i64 bytes] 46)).alloc (.cells #[.int .i64 0, .int .u32 0, .int .u32 0, .int .u32 0, .int .u32 0] 28)) := by
  refine ⟨((Below.refl _ _).alloc (Nat.le_refl _) _).alloc (by simp) _, rfl, ?_, ?_⟩
  · show ((w.heap.push _).push _)[w.heap.size]? = _
    rw [Array.getElem?_push, Array.getElem?_push]
    simp
  · show ((w.heap.push _).push _)[w.heap.size + 1]? = _
    rw [Array.getElem?_push]
    simp
theorem Dw.drewN {B : Nat} {mode va acc bytes : Int} {w0 w : World} (h : Dw B mode va acc bytes w0 w) (k : Nat) : Dw B mode va acc bytes w0 (w.drewN k) := h.below (below_drewN (Below.refl _ _) k)
theorem Dw.alloc {B : Nat} {mode va acc bytes : Int} {w0 w : World} (h : Dw B mode va acc bytes w0 w) (o : Obj) : Dw B mode va acc bytes w0 (w.alloc o) := h.below ((Below.refl _ _).alloc (Nat.le_refl _) _)

/-- The entries that were read lie in block b. -/
def Rd (b off n : Nat) (p : Nat → W.Pt) (w : World) : Prop :=
  ∀ j, j < n → w.cell? ⟨b, off + j * 5, none⟩ = some (.int .u32 (p j).a) ∧ w.cell? ⟨b, off + j * 5 + 1, none⟩ = some (.int .u32 (p j).v) ∧ w.cell? ⟨b, off + j * 5 + 2, none⟩ = some (.int .u32 (p j).o) ∧ w.cell? ⟨b, off + j * 5 + 3, none⟩ = some (.int .i64 (p j).t) ∧ w.cell? ⟨b, off + j * 5 + 4, none⟩ = some (.bool (p j).f)
theorem Rd.below {b off n : Nat} {p : Nat → W.Pt} {w w' : World} {B : Nat} (h : Rd b off n p w) (hb : Below B w w') (hl : b < B) : Rd b off n p w' := fun j hj => by
  obtain ⟨h0, h1, h2, h3, h4⟩ := h j hj
  exact ⟨(hb.cell hl).trans h0, (hb.cell hl).trans h1, (hb.cell hl).trans h2, (hb.cell hl).trans h3, (hb.cell hl).trans h4⟩
end Go.Proofs.Ytkcdkjmkgncihaa
