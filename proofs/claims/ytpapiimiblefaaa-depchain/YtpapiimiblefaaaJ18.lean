/- Texts in one: DepN0. -/
import Derived.Test.YtpapiimiblefaaaJ17
/- An instruction that a word has: its registers; without any Go. -/
namespace Go.Proofs.Ytpapiimiblefaaa.W
open Go.RowKit
set_option linter.unusedVariables false

theorem rg0 : Rg 0 := ⟨by decide, by decide⟩
theorem immS_lt (s : Sh) (x : Int) : Rg (immS s x) := by
  unfold immS
  cases decide (0 < s.size)
  · exact imm_lt _ _
  · exact bitsOf_lt _ _ _
/-- An instruction that a word has. -/
structure IOk (i : I) : Prop where
  rd0 : 0 ≤ i.rd
  rd1 : i.rd < 32
  r10 : 0 ≤ i.rs1
  r11 : i.rs1 < 32
  r20 : 0 ≤ i.rs2
  r21 : i.rs2 < 32
  imm : Rg i.imm
theorem b5 (x low : Int) (l0 : 0 ≤ low) (l1 : low ≤ 31) (x0 : 0 ≤ x) (x1 : x < 4294967296) : 0 ≤ bitsOf x low 5 ∧ bitsOf x low 5 < 32 := by
  rw [bitsOf_eq x low 5 x0 x1 l0 l1 (by decide)]
  show 0 ≤ x / 2 ^ low.toNat % 32 ∧ x / 2 ^ low.toNat % 32 < 32
  omega
theorem IOk.read (s : Sh) (op x : Int) (h : Rg x) : IOk (read s op x) := by
  have h1 := b5 x 7 (by decide) (by decide) h.1 h.2
  have h2 := b5 x 15 (by decide) (by decide) h.1 h.2
  have h3 := b5 x 20 (by decide) (by decide) h.1 h.2
  have h4 := immS_lt s x
  refine ⟨?_, ?_, ?_, ?_, ?_, ?_, ?_⟩
  · show 0 ≤ bif s.rd then bitsOf x 7 5 else 0; cases s.rd; exact (by decide : (0 : Int) ≤ 0); exact h1.1
  · show (bif s.rd then bitsOf x 7 5 else 0) < 32; cases s.rd; exact (by decide : (0 : Int) < 32); exact h1.2
  · show 0 ≤ bif s.rs1 then bitsOf x 15 5 else 0; cases s.rs1; exact (by decide : (0 : Int) ≤ 0); exact h2.1
  · show (bif s.rs1 then bitsOf x 15 5 else 0) < 32; cases s.rs1; exact (by decide : (0 : Int) < 32); exact h2.2
  · show 0 ≤ bif s.rs2 then bitsOf x 20 5 else 0; cases s.rs2; exact (by decide : (0 : Int) ≤ 0); exact h3.1
  · show (bif s.rs2 then bitsOf x 20 5 else 0) < 32; cases s.rs2; exact (by decide : (0 : Int) < 32); exact h3.2
  · show Rg (bif hasImm s then immS s x else 0); cases hasImm s; exact rg0; exact h4
theorem IOk.dec (x : Int) (h : Rg x) : IOk (decI x) := IOk.read _ _ x h
end Go.Proofs.Ytpapiimiblefaaa.W
