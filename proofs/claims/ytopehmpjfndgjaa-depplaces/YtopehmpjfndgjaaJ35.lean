/- Texts in one: RefR3, RefR4. -/
import Derived.Test.YtopehmpjfndgjaaJ34
/- What the document's Encode returns. -/
namespace Go.Proofs.Ytopehmpjfndgjaa
open Go.ChangeShapes Go.WideShapes Go.ChangeAt Go.RowKit
set_option linter.unusedVariables false
set_option linter.unusedSimpArgs false

set_option maxRecDepth 100000 in
set_option maxHeartbeats 3200000 in
theorem renc_r3 (i : W.I) (r : W.Rw) (w : World) (m0 : 0 ≤ i.imm) (m1 : i.imm < 4294967296) (o1 : 1 ≤ i.op) (o2 : i.op ≤ 69) (hr : Hid (W.rw (i.op.toNat - 1) = r)) (a1 : W.fr 0 i.rd 31 = true) (a2 : W.fr 0 i.rs1 31 = true) (a3 : W.fr 0 i.rs2 31 = false) : Calls Try.prog 21 #[inV i] w fun e w' => e = .returned (.tuple #[.int .u32 0, .int .i64 106]) ∧ Below w.heap.size w w' := by
  have O1 : Hid (1 ≤ i.op) := o1
  have O2 : Hid (i.op ≤ 69) := o2
  have M : Hid (0 ≤ i.imm ∧ i.imm < 4294967296) := (⟨m0, m1⟩ : 0 ≤ i.imm ∧ i.imm < 4294967296)
  clear o1 o2 m0 m1
  unfold inV
  go_enter Try.func21, Try.ntmps21
  go_wp2_with (first
    | (go_at_call 31; refine (of_some _ O1.out O2.out _).mono ?_; rintro e w1 ⟨rfl, hm⟩; have hb : Hid (Below w.heap.size w w1) := ((Below.refl _ _).alloc (Nat.le_refl _) _).trans (hm.mono (by simp)); have hlt : w.heap.size < w1.heap.size := (by have := hm.size; simp at this; omega); obtain ⟨x0, x1, x2, x3, x4, x5, x6, x7⟩ := (InAt.start w i _).below hm; clear hm; rw [hr.out]; unfold rwV rwA)
    | (go_at_call 32; refine (layl_any _ _ _ M.out.1 M.out.2).mono ?_; rintro e w' ⟨rfl, rfl⟩)
    | (go_at_call 33; refine (reg_any _ _).mono ?_; rintro e w' ⟨rfl, rfl⟩))
  exact bodyPost_ret (v := .tuple #[.int .u32 0, .int .i64 106]) (by simp [results, Try.results21, go_sem]) rfl ⟨rfl, hb.out.alloc hb.out.size _⟩

end Go.Proofs.Ytopehmpjfndgjaa

/- What the document's Encode returns. -/
namespace Go.Proofs.Ytopehmpjfndgjaa
open Go.ChangeShapes Go.WideShapes Go.ChangeAt Go.RowKit
set_option linter.unusedVariables false
set_option linter.unusedSimpArgs false

set_option maxRecDepth 100000 in
set_option maxHeartbeats 3200000 in
theorem renc_r4 (i : W.I) (r : W.Rw) (w : World) (m0 : 0 ≤ i.imm) (m1 : i.imm < 4294967296) (o1 : 1 ≤ i.op) (o2 : i.op ≤ 69) (hr : Hid (W.rw (i.op.toNat - 1) = r)) (a1 : W.fr 0 i.rd 31 = true) (a2 : W.fr 0 i.rs1 31 = true) (a3 : W.fr 0 i.rs2 31 = true) (a4 : i.csr < 0) : Calls Try.prog 21 #[inV i] w fun e w' => e = .returned (.tuple #[.int .u32 0, .int .i64 106]) ∧ Below w.heap.size w w' := by
  have O1 : Hid (1 ≤ i.op) := o1
  have O2 : Hid (i.op ≤ 69) := o2
  have M : Hid (0 ≤ i.imm ∧ i.imm < 4294967296) := (⟨m0, m1⟩ : 0 ≤ i.imm ∧ i.imm < 4294967296)
  clear o1 o2 m0 m1
  unfold inV
  go_enter Try.func21, Try.ntmps21
  go_wp2_with (first
    | (go_at_call 31; refine (of_some _ O1.out O2.out _).mono ?_; rintro e w1 ⟨rfl, hm⟩; have hb : Hid (Below w.heap.size w w1) := ((Below.refl _ _).alloc (Nat.le_refl _) _).trans (hm.mono (by simp)); have hlt : w.heap.size < w1.heap.size := (by have := hm.size; simp at this; omega); obtain ⟨x0, x1, x2, x3, x4, x5, x6, x7⟩ := (InAt.start w i _).below hm; clear hm; rw [hr.out]; unfold rwV rwA)
    | (go_at_call 32; refine (layl_any _ _ _ M.out.1 M.out.2).mono ?_; rintro e w' ⟨rfl, rfl⟩)
    | (go_at_call 33; refine (reg_any _ _).mono ?_; rintro e w' ⟨rfl, rfl⟩))
  exact bodyPost_ret (v := .tuple #[.int .u32 0, .int .i64 106]) (by simp [results, Try.results21, go_sem]) rfl ⟨rfl, hb.out.alloc hb.out.size _⟩

end Go.Proofs.Ytopehmpjfndgjaa
