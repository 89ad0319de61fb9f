/- Texts in one: AsmOneA. -/
import Derived.Deep.RegionHeld3
import Derived.Deep.CutRange
import Derived.Deep.CutBlock
import Derived.Test.YtnejdkadmdelaaaGreatDoorJ36
import Derived.Test.YtnejdkadmdelaaaGreatDoorK08
/- AsmOne: a text that is an instruction is the only one that is. -/
namespace Go.Proofs.YtnejdkadmdelaaaGreatDoor
open Go.ChangeShapes Go.WideShapes Go.ChangeAt Go.RowKit
set_option linter.unusedVariables false
set_option linter.unusedSimpArgs false

/-- A text is an instruction's, or Parse of it is ErrWord. -/
theorem parse_cls (A : Nat → Addr) (T : List UInt8) (hT : T.length ≤ 1000) : (∃ i, W.encE i = 0 ∧ (0 ≤ i.imm ∧ i.imm < 4294967296) ∧ W.textL i = T ∧ Parses A T i 0) ∨ Parses A T ⟨0, 0, 0, 0, 0, 0, false, false⟩ 6 := by
  by_cases h : ∃ i, W.encE i = 0 ∧ (0 ≤ i.imm ∧ i.imm < 4294967296) ∧ W.textL i = T
  · obtain ⟨i, h1, h2, h3⟩ := h
    refine Or.inl ⟨i, h1, h2, h3, fun w hS => ?_⟩
    have := parse_ok A i h2.1 h2.2 h1 w hS
    rw [h3] at this
    exact this
  · refine Or.inr fun w hS => (parse_w A T hT w hS).mono ?_
    rintro e w' ⟨⟨i, rfl, h1, h2, h3⟩ | rfl, hb⟩
    · exact absurd ⟨i, h1, h2, h3⟩ h
    · exact ⟨rfl, hb⟩
theorem ba_list (b : ByteArray) : (⟨b.data.toList.toArray⟩ : ByteArray) = b := rfl

set_option maxRecDepth 100000 in
theorem one_none (A : Nat → Addr) (i : W.I) (at' c : Int) (n : Nat) (he : W.encE i = n + 1) (w : World) (hS : Sg A w) : Calls Tryz.prog 5 #[inV i, .int .i64 at', .int .u8 c] w fun e w' => e = .returned (.bool true) ∧ Below w.heap.size w w' := by
  have HS : Hid (Sg A w) := hS
  have HE : Hid (W.encE i = n + 1) := he
  clear hS he
  unfold inV
  go_enter Tryz.func5, Tryz.ntmps5
  go_wp2_with fail
  have hb0 : Below w.heap.size w (w.alloc (.cells #[.int .i64 i.op, .int .i64 i.rd, .int .i64 i.rs1, .int .i64 i.rs2, .int .i64 i.csr, .int .u32 i.imm, .bool i.aq, .bool i.rl] 24)) := (Below.refl _ _).alloc (Nat.le_refl _) _
  have hA0 := InAt.start w i 24
  generalize World.alloc w _ = w0 at *
  refine (first5_any A w0 (HS.out.below hb0)).mono ?_
  rintro e w1 ⟨rfl, hb1⟩
  have hbl1 : Below w.heap.size w w1 := hb0.trans (hb1.mono hb0.size)
  obtain ⟨z0, z1, z2, z3, z4, z5, z6, z7⟩ := hA0.below hb1
  go_wp2_with (go_at_call 9; refine (print_no A i _ n _ (HS.out.below hbl1) HE.out rfl).mono ?_; rintro e w2 ⟨rfl, hb2⟩; unfold errV)
  go_ret
  exact ⟨rfl, hbl1.trans (hb2.mono hbl1.size)⟩

theorem eq_inst (i j : W.I) (h : i.op = j.op ∧ i.rd = j.rd ∧ i.rs1 = j.rs1 ∧ i.rs2 = j.rs2 ∧ i.csr = j.csr ∧ i.imm = j.imm ∧ i.aq = j.aq ∧ i.rl = j.rl) : i = j := by
  cases i; cases j; simp_all
end Go.Proofs.YtnejdkadmdelaaaGreatDoor
