/- MemParts, walked. -/
import Derived.Test.YtjdiepklgcdamaaDoorMemPartsN
import Derived.Test.YtjdiepklgcdamaaDoorMemParts1
import Derived.Test.YtjdiepklgcdamaaDoorMemParts2
import Derived.Test.YtjdiepklgcdamaaDoorMemParts4
namespace Go.Proofs.YtjdiepklgcdamaaDoor
open Go.ChangeShapes Go.WideShapes Go.ChangeAt Go.RowKit
set_option linter.unusedVariables false

theorem memParts_walk (L : Nat → Int) (addr s v : Int) (hL : ∀ k, 0 ≤ L k ∧ L k < 4294967296) (a0 : 0 ≤ addr) (a1 : addr < 4294967296) (v0 : 0 ≤ v) (v1 : v < 4294967296) (w : World) : Calls Tryd.prog 4 #[lineV L, .int .u32 addr, .int .i64 s, .int .u32 v] w fun e w' => e = .returned (.bool true) ∧ Below w.heap.size w w' := by
  obtain ⟨A, rfl⟩ := Int.eq_ofNat_of_zero_le a0
  cases hal : W.al A s
  · exact memParts_no L hL A s v v0 v1 (by omega) hal w
  · have h3 : s = 1 ∨ s = 2 ∨ s = 4 := by rcases W.al_cases A s hal with h | h | h | h | h | h | h <;> omega
    rcases h3 with h | h | h
    · exact memParts_1 L hL A s v v0 v1 (by omega) h hal w
    · exact memParts_2 L hL A s v v0 v1 (by omega) h hal w
    · exact memParts_4 L hL A s v v0 v1 (by omega) h hal w
end Go.Proofs.YtjdiepklgcdamaaDoor
