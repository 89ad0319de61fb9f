/- An instruction that lies in a block of its own while the walk goes on. -/
import Derived.Test.YtheajilopplchaaDoorIsaH
namespace Go.Proofs.YtheajilopplchaaDoor
open Go.ChangeShapes Go.WideShapes Go.ChangeAt Go.RowKit
set_option linter.unusedVariables false

/-- The instruction lies in its block, all else is as it was. -/
structure Gy (n : Nat) (op rd rs1 rs2 csr imm : Int) (aq rl : Bool) (w wc : World) : Prop where
  bel : Below w.heap.size w wc
  lt : n < wc.heap.size
  at0 : wc.cell? ⟨n, 0, none⟩ = some (.int .i64 op)
  at1 : wc.cell? ⟨n, 1, none⟩ = some (.int .i64 rd)
  at2 : wc.cell? ⟨n, 2, none⟩ = some (.int .i64 rs1)
  at3 : wc.cell? ⟨n, 3, none⟩ = some (.int .i64 rs2)
  at4 : wc.cell? ⟨n, 4, none⟩ = some (.int .i64 csr)
  at5 : wc.cell? ⟨n, 5, none⟩ = some (.int .u32 imm)
  at6 : wc.cell? ⟨n, 6, none⟩ = some (.bool aq)
  at7 : wc.cell? ⟨n, 7, none⟩ = some (.bool rl)
theorem Gy.below {n : Nat} {op rd rs1 rs2 csr imm : Int} {aq rl : Bool} {w a b : World} (h : Gy n op rd rs1 rs2 csr imm aq rl w a) (hm : Below a.heap.size a b) : Gy n op rd rs1 rs2 csr imm aq rl w b := by
  have q : ∀ j, b.cell? ⟨n, j, none⟩ = a.cell? ⟨n, j, none⟩ := fun j => hm.cell h.lt
  exact ⟨h.bel.trans (hm.mono h.bel.size), Nat.lt_of_lt_of_le h.lt hm.size, (q 0).trans h.at0, (q 1).trans h.at1, (q 2).trans h.at2, (q 3).trans h.at3, (q 4).trans h.at4, (q 5).trans h.at5, (q 6).trans h.at6, (q 7).trans h.at7⟩
theorem Gy.start {op rd rs1 rs2 csr imm : Int} {aq rl : Bool} {w w1 : World} {t : TypeId} (hb : Below w.heap.size w w1) :
    Gy w1.heap.size op rd rs1 rs2 csr imm aq rl w (w1.alloc (.cells #[.int .i64 op, .int .i64 rd, .int .i64 rs1, .int .i64 rs2, .int .i64 csr, .int .u32 imm, .bool aq, .bool rl] t)) := by
  refine ⟨hb.alloc hb.size _, by simp, ?_, ?_, ?_, ?_, ?_, ?_, ?_, ?_⟩ <;> simp [go_sem]

abbrev SG (n : Nat) (op rd rs1 rs2 csr imm : Int) (aq rl : Bool) (w w' : World) : Prop :=
  Below w.heap.size w w' ∧ n < w'.heap.size ∧ w'.cell? ⟨n, 0, none⟩ = some (.int .i64 op) ∧ w'.cell? ⟨n, 1, none⟩ = some (.int .i64 rd) ∧ w'.cell? ⟨n, 2, none⟩ = some (.int .i64 rs1) ∧ w'.cell? ⟨n, 3, none⟩ = some (.int .i64 rs2) ∧ w'.cell? ⟨n, 4, none⟩ = some (.int .i64 csr) ∧ w'.cell? ⟨n, 5, none⟩ = some (.int .u32 imm) ∧ w'.cell? ⟨n, 6, none⟩ = some (.bool aq) ∧ w'.cell? ⟨n, 7, none⟩ = some (.bool rl)
theorem SG.of {n : Nat} {op rd rs1 rs2 csr imm : Int} {aq rl : Bool} {w a : World} (h : Gy n op rd rs1 rs2 csr imm aq rl w a) : SG n op rd rs1 rs2 csr imm aq rl w a := ⟨h.bel, h.lt, h.at0, h.at1, h.at2, h.at3, h.at4, h.at5, h.at6, h.at7⟩
theorem SG.below {n : Nat} {op rd rs1 rs2 csr imm : Int} {aq rl : Bool} {w a b : World} (h : SG n op rd rs1 rs2 csr imm aq rl w a) (hm : Below a.heap.size a b) : SG n op rd rs1 rs2 csr imm aq rl w b :=
  SG.of (Gy.below ⟨h.1, h.2.1, h.2.2.1, h.2.2.2.1, h.2.2.2.2.1, h.2.2.2.2.2.1, h.2.2.2.2.2.2.1, h.2.2.2.2.2.2.2.1, h.2.2.2.2.2.2.2.2.1, h.2.2.2.2.2.2.2.2.2⟩ hm)

theorem Gy.alloc {n : Nat} {op rd rs1 rs2 csr imm : Int} {aq rl : Bool} {w a : World} (h : Gy n op rd rs1 rs2 csr imm aq rl w a) (o : Obj) : Gy n op rd rs1 rs2 csr imm aq rl w (a.alloc o) := h.below ((Below.refl _ _).alloc (Nat.le_refl _) _)

end Go.Proofs.YtheajilopplchaaDoor
