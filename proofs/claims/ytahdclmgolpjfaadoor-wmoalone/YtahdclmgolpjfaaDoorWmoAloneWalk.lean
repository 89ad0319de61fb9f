/- WmoAlone. -/
import Derived.Test.YtahdclmgolpjfaaDoorWmoWn1
import Derived.Test.YtahdclmgolpjfaaDoorWmoWn2
import Derived.Test.YtahdclmgolpjfaaDoorWmoWn4
import Derived.Test.YtahdclmgolpjfaaDoorWmoWo1
import Derived.Test.YtahdclmgolpjfaaDoorWmoWo2
import Derived.Test.YtahdclmgolpjfaaDoorWmoWo4
namespace Go.Proofs.YtahdclmgolpjfaaDoor
open Go.ChangeShapes Go.WideShapes Go.ChangeAt Go.RowKit
set_option linter.unusedVariables false

theorem alone_any (A : Nat → Addr) (addr size : Int) (own : Bool) (v : Int) (a0 : 0 ≤ addr) (a1 : addr < 4294967296) (s0 : -9223372036854775808 ≤ size) (s1 : size ≤ 9223372036854775807) (v0 : 0 ≤ v) (v1 : v < 4294967296) (w : World) (hS : Sent A w) :
    Calls Tryd.prog 6 #[.int .u32 addr, .int .i64 size, .bool own, .int .u32 v] w fun e w' => e = .returned (.bool true) ∧ Below w.heap.size w w' := by
  have h : size % 3 = 0 ∨ size % 3 = 1 ∨ size % 3 = 2 := by omega
  cases own
  · rcases h with h | h | h
    · exact alone_n1 addr size v a0 a1 s0 s1 v0 v1 h A w hS
    · exact alone_n2 addr size v a0 a1 s0 s1 v0 v1 h A w hS
    · exact alone_n4 addr size v a0 a1 s0 s1 v0 v1 h A w hS
  · rcases h with h | h | h
    · exact alone_o1 addr size v a0 a1 s0 s1 v0 v1 h A w hS
    · exact alone_o2 addr size v a0 a1 s0 s1 v0 v1 h A w hS
    · exact alone_o4 addr size v a0 a1 s0 s1 v0 v1 h A w hS
end Go.Proofs.YtahdclmgolpjfaaDoor
