/- Texts in one: NumE, RefA, RefR1, RefR2. -/
import Derived.Test.YtopehmpjfndgjaaJ15
import Derived.Test.YtopehmpjfndgjaaJ33
/- The numbers of the document's errors. -/
namespace Go.Proofs.Ytopehmpjfndgjaa
/-- The document's number of an error. -/
def num : Nat → Int
  | 0 => 0
  | 1 => 102
  | 2 => 106
  | _ => 104
end Go.Proofs.Ytopehmpjfndgjaa

/- What the document's Encode returns. -/
namespace Go.Proofs.Ytopehmpjfndgjaa
open Go.ChangeShapes Go.WideShapes Go.ChangeAt Go.RowKit
set_option linter.unusedVariables false
set_option linter.unusedSimpArgs false

theorem renc_kind (i : W.I) (w : World) (h : ¬ (1 ≤ i.op ∧ i.op ≤ 69)) : Calls Try.prog 21 #[inV i] w fun e w' => e = .returned (.tuple #[.int .u32 0, .int .i64 102]) ∧ Below w.heap.size w w' := by
  unfold inV
  have H : Hid (¬ (1 ≤ i.op ∧ i.op ≤ 69)) := h
  clear h
  go_enter Try.func21, Try.ntmps21
  go_wp2_with (go_at_call 31; refine (of_none _ H.out _).mono ?_; rintro e w1 ⟨rfl, hm⟩; have hb : Hid (Below w.heap.size w w1) := ((Below.refl _ _).alloc (Nat.le_refl _) _).trans (hm.mono (by simp)); clear hm)
  exact bodyPost_ret (v := .tuple #[.int .u32 0, .int .i64 102]) (by simp [results, Try.results21, go_sem]) rfl ⟨rfl, by repeat (first | exact hb.out | exact hb.out.alloc hb.out.size _)⟩

/-- A row lies in block g. -/
def RwAt (g : Nat) (r : W.Rw) (wc : World) : Prop :=
  wc.cell? ⟨g, 0, none⟩ = some (.int .i64 r.op) ∧ wc.cell? ⟨g, 1, none⟩ = some (.string ⟨r.name.toArray⟩) ∧ wc.cell? ⟨g, 2, none⟩ = some (.int .u32 r.oc) ∧ wc.cell? ⟨g, 3, none⟩ = some (.int .u32 r.f3) ∧ wc.cell? ⟨g, 4, none⟩ = some (.int .u32 r.f7) ∧ wc.cell? ⟨g, 5, none⟩ = some (.bool r.h3) ∧ wc.cell? ⟨g, 6, none⟩ = some (.bool r.h7) ∧ wc.cell? ⟨g, 7, none⟩ = some (.int .u8 r.fm) ∧ wc.cell? ⟨g, 8, none⟩ = some (.bool r.rd) ∧ wc.cell? ⟨g, 9, none⟩ = some (.bool r.rs1) ∧ wc.cell? ⟨g, 10, none⟩ = some (.bool r.rs2) ∧ wc.cell? ⟨g, 11, none⟩ = some (.bool r.csr) ∧ wc.cell? ⟨g, 12, none⟩ = some (.int .u32 r.wh) ∧ wc.cell? ⟨g, 13, none⟩ = some (.bool r.pair)
theorem RwAt.below {g : Nat} {r : W.Rw} {a b : World} (h : RwAt g r a) (hm : Below a.heap.size a b) : RwAt g r b := by
  have hg := World.block_lt_of_cell? _ _ h.1
  have q : ∀ j, b.cell? ⟨g, j, none⟩ = a.cell? ⟨g, j, none⟩ := fun j => hm.cell hg
  unfold RwAt
  simp only [q]
  exact h
theorem RwAt.start (w : World) (r : W.Rw) (t : TypeId) : RwAt w.heap.size r (w.alloc (.cells (rwA r) t)) := by
  unfold RwAt rwA; simp [go_sem]

namespace W
/-- Are only fields told that the row has? -/
def shOk (r : Rw) (i : I) : Bool := (r.rd || i.rd == 0) && ((r.rs1 || i.rs1 == 0) && ((r.rs2 || i.rs2 == 0) && ((r.csr || i.csr == 0) && ((!(r.fm == 0) || i.imm == 0) && (r.pair || (!i.aq && !i.rl))))))
end W

end Go.Proofs.Ytopehmpjfndgjaa

/- What the document's Encode returns. -/
namespace Go.Proofs.Ytopehmpjfndgjaa
open Go.ChangeShapes Go.WideShapes Go.ChangeAt Go.RowKit
set_option linter.unusedVariables false
set_option linter.unusedSimpArgs false

set_option maxRecDepth 100000 in
set_option maxHeartbeats 3200000 in
theorem renc_r1 (i : W.I) (r : W.Rw) (w : World) (m0 : 0 ≤ i.imm) (m1 : i.imm < 4294967296) (o1 : 1 ≤ i.op) (o2 : i.op ≤ 69) (hr : Hid (W.rw (i.op.toNat - 1) = r)) (a1 : W.fr 0 i.rd 31 = false) : Calls Try.prog 21 #[inV i] w fun e w' => e = .returned (.tuple #[.int .u32 0, .int .i64 106]) ∧ Below w.heap.size w w' := by
  have O1 : Hid (1 ≤ i.op) := o1
  have O2 : Hid (i.op ≤ 69) := o2
  have M : Hid (0 ≤ i.imm ∧ i.imm < 4294967296) := (⟨m0, m1⟩ : 0 ≤ i.imm ∧ i.imm < 4294967296)
  clear o1 o2 m0 m1
  unfold inV
  go_enter Try.func21, Try.ntmps21
  go_wp2_with (first
    | (go_at_call 31; refine (of_some _ O1.out O2.out _).mono ?_; rintro e w1 ⟨rfl, hm⟩; have hb : Hid (Below w.heap.size w w1) := ((Below.refl _ _).alloc (Nat.le_refl _) _).trans (hm.mono (by simp)); have hlt : w.heap.size < w1.heap.size := (by have := hm.size; simp at this; omega); obtain ⟨x0, x1, x2, x3, x4, x5, x6, x7⟩ := (InAt.start w i _).below hm; clear hm; rw [hr.out]; unfold rwV rwA)
    | (go_at_call 32; refine (layl_any _ _ _ M.out.1 M.out.2).mono ?_; rintro e w' ⟨rfl, rfl⟩)
    | (go_at_call 33; refine (reg_any _ _).mono ?_; rintro e w' ⟨rfl, rfl⟩))
  exact bodyPost_ret (v := .tuple #[.int .u32 0, .int .i64 106]) (by simp [results, Try.results21, go_sem]) rfl ⟨rfl, hb.out.alloc hb.out.size _⟩

end Go.Proofs.Ytopehmpjfndgjaa

/- What the document's Encode returns. -/
namespace Go.Proofs.Ytopehmpjfndgjaa
open Go.ChangeShapes Go.WideShapes Go.ChangeAt Go.RowKit
set_option linter.unusedVariables false
set_option linter.unusedSimpArgs false

set_option maxRecDepth 100000 in
set_option maxHeartbeats 3200000 in
theorem renc_r2 (i : W.I) (r : W.Rw) (w : World) (m0 : 0 ≤ i.imm) (m1 : i.imm < 4294967296) (o1 : 1 ≤ i.op) (o2 : i.op ≤ 69) (hr : Hid (W.rw (i.op.toNat - 1) = r)) (a1 : W.fr 0 i.rd 31 = true) (a2 : W.fr 0 i.rs1 31 = false) : Calls Try.prog 21 #[inV i] w fun e w' => e = .returned (.tuple #[.int .u32 0, .int .i64 106]) ∧ Below w.heap.size w w' := by
  have O1 : Hid (1 ≤ i.op) := o1
  have O2 : Hid (i.op ≤ 69) := o2
  have M : Hid (0 ≤ i.imm ∧ i.imm < 4294967296) := (⟨m0, m1⟩ : 0 ≤ i.imm ∧ i.imm < 4294967296)
  clear o1 o2 m0 m1
  unfold inV
  go_enter Try.func21, Try.ntmps21
  go_wp2_with (first
    | (go_at_call 31; refine (of_some _ O1.out O2.out _).mono ?_; rintro e w1 ⟨rfl, hm⟩; have hb : Hid (Below w.heap.size w w1) := ((Below.refl _ _).alloc (Nat.le_refl _) _).trans (hm.mono (by simp)); have hlt : w.heap.size < w1.heap.size := (by have := hm.size; simp at this; omega); obtain ⟨x0, x1, x2, x3, x4, x5, x6, x7⟩ := (InAt.start w i _).below hm; clear hm; rw [hr.out]; unfold rwV rwA)
    | (go_at_call 32; refine (layl_any _ _ _ M.out.1 M.out.2).mono ?_; rintro e w' ⟨rfl, rfl⟩)
    | (go_at_call 33; refine (reg_any _ _).mono ?_; rintro e w' ⟨rfl, rfl⟩))
  exact bodyPost_ret (v := .tuple #[.int .u32 0, .int .i64 106]) (by simp [results, Try.results21, go_sem]) rfl ⟨rfl, hb.out.alloc hb.out.size _⟩

end Go.Proofs.Ytopehmpjfndgjaa
