/- home: what lies behind a slice's elements is there. -/
import Derived.Test.YtadkpelcbnljbaaHomE
import Derived.Deep.MidRow
namespace Go.Proofs.Ytadkpelcbnljbaa
open Go.ChangeShapes Go.WideShapes Go.ChangeAt Go.RowKit
set_option linter.unusedVariables false

theorem there_row {w : World} {g n cap k : Nat} {cur : Array Value} {e : TypeId} (h : w.heap[g]? = some (.cells cur e (0, 0))) (hs : cur.size = cap * k) : w.there g (0 + n * k) ((cap - n) * k) := fun j hj => by
  have hlt : 0 + n * k + j < cur.size := by
    rw [hs]
    rw [Nat.sub_mul] at hj
    omega
  refine ⟨?_, ?_⟩
  · rw [Nat.zero_add] at hlt ⊢
    simp [World.cell?, h, hlt]
  · simp [World.frozen?, h]
end Go.Proofs.Ytadkpelcbnljbaa
