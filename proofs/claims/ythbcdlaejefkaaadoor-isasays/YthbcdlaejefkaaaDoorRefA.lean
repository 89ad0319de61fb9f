/- What the document's Encode returns. -/
import Derived.Test.YthbcdlaejefkaaaDoorMath12
import Derived.Test.YthbcdlaejefkaaaDoorSee
namespace Go.Proofs.YthbcdlaejefkaaaDoor
open Go.ChangeShapes Go.WideShapes Go.ChangeAt Go.RowKit
set_option linter.unusedVariables false
set_option linter.unusedSimpArgs false

theorem renc_kind (i : W.I) (w : World) (h : ¬ (1 ≤ i.op ∧ i.op ≤ 69)) : Calls Tryd.prog 13 #[inV i] w fun e w' => e = .returned (.tuple #[.int .u32 0, .int .i64 102]) ∧ Below w.heap.size w w' := by
  unfold inV
  have H : Hid (¬ (1 ≤ i.op ∧ i.op ≤ 69)) := h
  clear h
  go_enter Tryd.func13, Tryd.ntmps13
  go_wp2_with (go_at_call 16; refine (of_none _ H.out _).mono ?_; rintro e w1 ⟨rfl, hm⟩; have hb : Hid (Below w.heap.size w w1) := ((Below.refl _ _).alloc (Nat.le_refl _) _).trans (hm.mono (by simp)); clear hm)
  exact bodyPost_ret (v := .tuple #[.int .u32 0, .int .i64 102]) (by simp [results, Tryd.results13, go_sem]) rfl ⟨rfl, by repeat (first | exact hb.out | exact hb.out.alloc hb.out.size _)⟩

/-- A row lies in block g. -/
def RwAt (g : Nat) (r : W.Rw) (wc : World) : Prop :=
  wc.cell? ⟨g, 0, none⟩ = some (.int .i64 r.op) ∧ wc.cell? ⟨g, 1, none⟩ = some (.string ⟨r.name.toArray⟩) ∧ wc.cell? ⟨g, 2, none⟩ = some (.int .u32 r.oc) ∧ wc.cell? ⟨g, 3, none⟩ = some (.int .u32 r.f3) ∧ wc.cell? ⟨g, 4, none⟩ = some (.int .u32 r.f7) ∧ wc.cell? ⟨g, 5, none⟩ = some (.bool r.h3) ∧ wc.cell? ⟨g, 6, none⟩ = some (.bool r.h7) ∧ wc.cell? ⟨g, 7, none⟩ = some (.int .u8 r.fm) ∧ wc.cell? ⟨g, 8, none⟩ = some (.bool r.rd) ∧ wc.cell? ⟨g, 9, none⟩ = some (.bool r.rs1) ∧ wc.cell? ⟨g, 10, none⟩ = some (.bool r.rs2) ∧ wc.cell? ⟨g, 11, none⟩ = some (.bool r.csr) ∧ wc.cell? ⟨g, 12, none⟩ = some (.int .u32 r.wh) ∧ wc.cell? ⟨g, 13, none⟩ = some (.bool r.pair)
theorem RwAt.below {g : Nat} {r : W.Rw} {a b : World} (h : RwAt g r a) (hm : Below a.heap.size a b) : RwAt g r b := by
  have hg := World.block_lt_of_cell? _ _ h.1
  have q : ∀ j, b.cell? ⟨g, j, none⟩ = a.cell? ⟨g, j, none⟩ := fun j => hm.cell hg
  unfold RwAt
  simp only [q]
  exact h
theorem RwAt.start (w : World) (r : W.Rw) (t : TypeId) : RwAt w.heap.size r (w.alloc (.cells (rwA r) t)) := by
  unfold RwAt rwA; simp [go_sem]

namespace W
/-- Are only fields told that the row has? -/
def shOk (r : Rw) (i : I) : Bool := (r.rd || i.rd == 0) && ((r.rs1 || i.rs1 == 0) && ((r.rs2 || i.rs2 == 0) && ((r.csr || i.csr == 0) && ((!(r.fm == 0) || i.imm == 0) && (r.pair || (!i.aq && !i.rl))))))
end W

end Go.Proofs.YthbcdlaejefkaaaDoor
