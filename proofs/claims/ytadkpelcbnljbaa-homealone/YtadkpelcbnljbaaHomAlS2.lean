/- HomeAlone: the answer's block and the ints, in steps. -/
import Derived.Test.YtadkpelcbnljbaaHomAlS
namespace Go.Proofs.Ytadkpelcbnljbaa
open Go.ChangeShapes Go.WideShapes Go.ChangeAt Go.RowKit
set_option linter.unusedVariables false
set_option linter.unusedSimpArgs false
variable {n0 hb sb nb ab : Nat} {s s' : W.Hm} {w w' w'' w0 : World} {X : Nat → Prop} {Z : Prop} {g : List Int} {y : W.D4} {sl : W.Sl} {l : List W.Mg} {M M' : W.Mg}

/-- The memory of a round, and the answer. -/
structure Aj (n0 hb sb nb ab : Nat) (X : Nat → Prop) (Z : Prop) (s : W.Hm) (g : List Int) (y : W.D4) (sl : W.Sl) (l : List W.Mg) (M : W.Mg) (w0 w : World) : Prop where
  a : Ai n0 hb sb nb X Z s g y sl l w0 w
  m : MsgAt ab M w
  x : X ab
theorem Aj.set (h : Aj n0 hb sb nb ab X Z s g y sl l M w0 w) (k : Nat) (v : Value) (e : (mgL M).set k v = mgL M') : Aj n0 hb sb nb ab X Z s g y sl l M' w0 (w.setCell ⟨ab, k, none⟩ v) :=
  ⟨h.a.setX h.x (gset1 w ab k v), h.m.set1 k v e, h.x⟩
theorem Aj.setG (h : Aj n0 hb sb nb ab X Z s g y sl l M w0 w) (k : Nat) (hk : k < 4) (v : Int) : Aj n0 hb sb nb ab X Z s (W.gSet g k v) y sl l M w0 (w.setCell ⟨sb, k, none⟩ (.int .i64 v)) :=
  ⟨h.a.setG k hk v, ((gset1 w sb k (.int .i64 v)).block ab h.m.lt (fun e => (h.a.xz ab h.x).1 (Option.some.inj e))).trans h.m, h.x⟩
theorem Aj.below (h : Aj n0 hb sb nb ab X Z s g y sl l M w0 w) (hb2 : Below w.heap.size w w') : Aj n0 hb sb nb ab X Z s g y sl l M w0 w' := ⟨h.a.below hb2, h.m.below hb2, h.x⟩
theorem Aj.dat (h : Aj n0 hb sb nb ab X Z s g y sl l M w0 w) : Aj n0 hb sb nb ab X Z s g y sl l ⟨M.k, M.l, M.f, M.t, y.1, y.2.1, y.2.2.1, y.2.2.2, M.h, M.d, M.a⟩ w0 ((((w.setCell ⟨ab, 4, none⟩ (.int .u32 y.1)).setCell ⟨ab, 5, none⟩ (.int .u32 y.2.1)).setCell ⟨ab, 6, none⟩ (.int .u32 y.2.2.1)).setCell ⟨ab, 7, none⟩ (.int .u32 y.2.2.2)) :=
  (((h.set (M' := ⟨M.k, M.l, M.f, M.t, y.1, M.d1, M.d2, M.d3, M.h, M.d, M.a⟩) 4 _ rfl).set (M' := ⟨M.k, M.l, M.f, M.t, y.1, y.2.1, M.d2, M.d3, M.h, M.d, M.a⟩) 5 _ rfl).set (M' := ⟨M.k, M.l, M.f, M.t, y.1, y.2.1, y.2.2.1, M.d3, M.h, M.d, M.a⟩) 6 _ rfl).set 7 _ rfl
theorem Aj.gg (h : Aj n0 hb sb nb ab X Z s g y sl l M w0 w) {g' : List Int} (e : g = g') : Aj n0 hb sb nb ab X Z s g' y sl l M w0 w := e ▸ h
theorem gSet_2 (g : List Int) (k a b : Int) : W.gSet (W.gSet g k a) k b = W.gSet g k b := by simp [W.gSet]
def W.yGet (y : W.D4) (Q : Nat) : Int := if Q = 0 then y.1 else if Q = 1 then y.2.1 else if Q = 2 then y.2.2.1 else y.2.2.2
def W.ySet (y : W.D4) (Q : Nat) (v : Int) : W.D4 := if Q = 0 then (v, y.2.1, y.2.2.1, y.2.2.2) else if Q = 1 then (y.1, v, y.2.2.1, y.2.2.2) else if Q = 2 then (y.1, y.2.1, v, y.2.2.2) else (y.1, y.2.1, y.2.2.1, v)
theorem LnAt.cQ (h : LnAt nb y.1 y.2.1 y.2.2.1 y.2.2.2 w) (Q : Nat) (hQ : Q < 4) : w.cell? ⟨nb, Q, none⟩ = some (.int .u32 (W.yGet y Q)) := by
  have : Q = 0 ∨ Q = 1 ∨ Q = 2 ∨ Q = 3 := by omega
  rcases this with rfl | rfl | rfl | rfl
  · exact h.c0
  · exact h.c1
  · exact h.c2
  · exact h.c3
theorem LnAt.setQ (h : LnAt nb y.1 y.2.1 y.2.2.1 y.2.2.2 w) (Q : Nat) (hQ : Q < 4) (v : Int) : LnAt nb (W.ySet y Q v).1 (W.ySet y Q v).2.1 (W.ySet y Q v).2.2.1 (W.ySet y Q v).2.2.2 (w.setCell ⟨nb, Q, none⟩ (.int .u32 v)) := by
  have h' : w.heap[nb]? = some _ := h
  have : Q = 0 ∨ Q = 1 ∨ Q = 2 ∨ Q = 3 := by omega
  unfold LnAt World.setCell
  rcases this with rfl | rfl | rfl | rfl <;> simp [Array.getElem?_modify, h', W.ySet]
/-- What was written last is turned. -/
theorem Ai.setY (h : Ai n0 hb sb nb X Z s g y sl l w0 w) (Q : Nat) (hQ : Q < 4) (v : Int) : Ai n0 hb sb nb X Z s g (W.ySet y Q v) sl l w0 (w.setCell ⟨nb, Q, none⟩ (.int .u32 v)) := by
  have hg := gset1 w nb Q (.int .u32 v)
  have oth : ∀ b, b = sb ∨ SB sl b → (w.setCell ⟨nb, Q, none⟩ (.int .u32 v)).heap[b]? = w.heap[b]? := fun b hb => hg.block b (h.q.lt (hb.elim Or.inl (fun r => Or.inr (Or.inr (Or.inr r))))) (fun e => by
    obtain rfl : b = nb := by cases e; rfl
    rcases hb with q | q
    · exact h.ne q.symm
    · exact (h.dz _ q).2.1 rfl)
  refine ⟨h.q.oth hg (Or.inr (Or.inl rfl)) h.nz.2.1, ms_blk h.ms hg.size (fun b hb => oth b (Or.inr hb)), ?_, h.cg.blk (oth sb (Or.inl rfl)), h.gl, h.y.setQ Q hQ v, h.ne, h.dz, h.xz, h.nz⟩
  rcases h.sp with z | z
  · exact Or.inl z
  · exact Or.inr (spr_blk z h.ms.nc (fun b hb => oth b (Or.inr hb)))
theorem end_dirty {g : List Int} {R : Nat} (hR : R < 4) (h : W.gEnd g R true ∈ W.allG) : W.dirtyG (W.gEnd g R true) = true := by
  have e : W.gSet (W.gEnd g R true) R 4 = W.gEnd g R true := by
    show W.gSet (W.gSet g R 4) R 4 = W.gSet g R 4
    exact gSet_2 g R 4 4
  have := W.dirty_set _ h R hR
  rwa [e] at this
end Go.Proofs.Ytadkpelcbnljbaa
