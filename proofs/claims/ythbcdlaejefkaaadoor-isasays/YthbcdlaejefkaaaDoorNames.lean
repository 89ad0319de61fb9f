/- The names of the instructions, and what Name answers. -/
import Derived.Test.YthbcdlaejefkaaaDoorIsaI
namespace Go.Proofs.YthbcdlaejefkaaaDoor
open Go.ChangeShapes Go.WideShapes Go.ChangeAt Go.RowKit
set_option linter.unusedVariables false
set_option linter.unusedSimpArgs false

namespace W
def nameL : List (List UInt8) := [[], [108, 117, 105], [97, 117, 105, 112, 99], [106, 97, 108], [106, 97, 108, 114], [98, 101, 113], [98, 110, 101], [98, 108, 116], [98, 103, 101], [98, 108, 116, 117], [98, 103, 101, 117], [108, 98], [108, 104], [108, 119], [108, 98, 117], [108, 104, 117], [115, 98], [115, 104], [115, 119], [97, 100, 100, 105], [115, 108, 116, 105], [115, 108, 116, 105, 117], [120, 111, 114, 105], [111, 114, 105], [97, 110, 100, 105], [115, 108, 108, 105], [115, 114, 108, 105], [115, 114, 97, 105], [97, 100, 100], [115, 117, 98], [115, 108, 108], [115, 108, 116], [115, 108, 116, 117], [120, 111, 114], [115, 114, 108], [115, 114, 97], [111, 114], [97, 110, 100], [102, 101, 110, 99, 101], [102, 101, 110, 99, 101, 46, 105], [101, 99, 97, 108, 108], [101, 98, 114, 101, 97, 107], [109, 114, 101, 116], [119, 102, 105], [115, 102, 101, 110, 99, 101, 46, 118, 109, 97], [99, 115, 114, 114, 119], [99, 115, 114, 114, 115], [99, 115, 114, 114, 99], [99, 115, 114, 114, 119, 105], [99, 115, 114, 114, 115, 105], [99, 115, 114, 114, 99, 105], [109, 117, 108], [109, 117, 108, 104], [109, 117, 108, 104, 115, 117], [109, 117, 108, 104, 117], [100, 105, 118], [100, 105, 118, 117], [114, 101, 109], [114, 101, 109, 117], [108, 114, 46, 119], [115, 99, 46, 119], [97, 109, 111, 115, 119, 97, 112, 46, 119], [97, 109, 111, 97, 100, 100, 46, 119], [97, 109, 111, 120, 111, 114, 46, 119], [97, 109, 111, 97, 110, 100, 46, 119], [97, 109, 111, 111, 114, 46, 119], [97, 109, 111, 109, 105, 110, 46, 119], [97, 109, 111, 109, 97, 120, 46, 119], [97, 109, 111, 109, 105, 110, 117, 46, 119], [97, 109, 111, 109, 97, 120, 117, 46, 119]]
def nameAt (k : Nat) : List UInt8 := nameL.getD k []
def nm (op : Int) : List UInt8 := bif known op then nameAt op.toNat else []
end W
def namesA : Array Value := (W.nameL.map fun l => Value.string ⟨l.toArray⟩).toArray

set_option maxRecDepth 100000 in
theorem names_any (w : World) : Calls Tryd.prog 40 #[] w fun e w' => e = .returned (.agg namesA) ∧ Below w.heap.size w w' := by
  go_enter Tryd.func40, Tryd.ntmps40
  generalize hops : (#[{ dst := some 1, op := Op.build _ _, type := _, pos := "tables.go:39", after := #[], guard := none }, _] : Array Oper) = ops
  go_wp2
  subst hops
  refine table_out rfl rfl rfl rfl rfl rfl (cells := namesA) (fun a => by kernel_rfl) (by kernel_rfl) (by kernel_rfl) (by kernel_rfl) ?_
  have hn : namesA.size = 70 := by kernel_rfl
  generalize hcs : namesA = cs at hn ⊢
  go_wp2
  refine bodyPost_ret (v := .agg cs) ?_ rfl ⟨by rw [hcs], (Below.refl _ _).alloc (Nat.le_refl _) _⟩
  simp [results, Tryd.results40, asAddr, run_loadVar_new w 76 cs 70 9 Tryd.underlying76 (by rw [hn]; kernel_rfl)]

end Go.Proofs.YthbcdlaejefkaaaDoor
