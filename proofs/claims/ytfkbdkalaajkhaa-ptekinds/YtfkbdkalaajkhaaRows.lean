/-
  No cell of these rows narrows 'for every input' (looked for: loops, veiled, ifaces, maps, wideKeys, modest, calm, conditions, laid).
  DERIVED. THE GIVEN ROWS OF THIS SEAT. 4 by the template 'for every input the law returns true; each argument reads behind the call as it read before'; 0 by the template 'total and deterministic' (their statements: YtfkbdkalaajkhaaTotals.lean).
  GIVEN WITH THE SEED: the statements are not yours to turn. If you find one false, say at which input.
  Laid BY PROGRAM, IN A SANDBOX (cutbox-rows.mjs): the forced cells as the released guide's own fill.sh prints them over the translation 273f8de8b0c1ebc0… (all of the seat's roots in one cut). By AI agents, Wed Nov 11 2026. No macro, syntax, notation, axiom, sorry.
-/
import Derived.Test.YtfkbdkalaajkhaaChecked
import GoSem.Claim
import GoSem.ClaimJoined
import GoSem.ClaimMapViews
import Derived.JoinedTies
import Derived.KernelRfl
namespace Go.Proofs.Ytfkbdkalaajkhaa
/- THE CELL 'sum', in the pinned program and in every row, IS THE sha256 OF THE DUMP (.gsa) THAT YtfkbdkalaajkhaaProg.lean LOADS. Nothing in Lean hashes anything: it is a label: what it is worth is what the hold of that sum in a sandbox is worth. -/
noncomputable def Try.pinned : Pinned := { name := "ytfkbdkalaajkhaa", sum := "273f8de8b0c1ebc07038236542a923d1b7dca7c58df7d4f108657787f5c831c7", checked := Try.checked }
namespace Rows
def none {H : Type} : Left H := { results := [], args := [] }

/-- 'corrallaw8.PteSays': WHATEVER THE INPUT: true; the input reads as it did. -/
def pteSaysSpec : ChangeSpec := { name := "pteSays", fn := fun _ => fun
  | [d1, d2, d3, d4] => { results := [.lit (.bool true)], args := [d1, d2, d3, d4] }
  | _ => none }
def pteSaysRow : OpenClaim := { program := "ytfkbdkalaajkhaa", sum := "273f8de8b0c1ebc07038236542a923d1b7dca7c58df7d4f108657787f5c831c7", func := "corral/corrallaw8.PteSays", spec := "pteSays", apart := false }
def PteSaysSaid : Prop := pteSaysRow.holds Try.pinned (OpenSpec.ofChange pteSaysSpec)

/-- ITS FALSE NEIGHBOUR: 'it returns false'. Refute it at one input. -/
def pteSaysWrong : ChangeSpec := { name := "pteSays", fn := fun _ => fun
  | [d1, d2, d3, d4] => { results := [.lit (.bool false)], args := [d1, d2, d3, d4] }
  | _ => none }
def PteSaysWrongFalsely : Prop := pteSaysRow.holds Try.pinned (OpenSpec.ofChange pteSaysWrong)

/-- 'corrallaw8.PteMakes': WHATEVER THE INPUT: true; the input reads as it did. -/
def pteMakesSpec : ChangeSpec := { name := "pteMakes", fn := fun _ => fun
  | [d1, d2, d3] => { results := [.lit (.bool true)], args := [d1, d2, d3] }
  | _ => none }
def pteMakesRow : OpenClaim := { program := "ytfkbdkalaajkhaa", sum := "273f8de8b0c1ebc07038236542a923d1b7dca7c58df7d4f108657787f5c831c7", func := "corral/corrallaw8.PteMakes", spec := "pteMakes", apart := false }
def PteMakesSaid : Prop := pteMakesRow.holds Try.pinned (OpenSpec.ofChange pteMakesSpec)

/-- ITS FALSE NEIGHBOUR: 'it returns false'. Refute it at one input. -/
def pteMakesWrong : ChangeSpec := { name := "pteMakes", fn := fun _ => fun
  | [d1, d2, d3] => { results := [.lit (.bool false)], args := [d1, d2, d3] }
  | _ => none }
def PteMakesWrongFalsely : Prop := pteMakesRow.holds Try.pinned (OpenSpec.ofChange pteMakesWrong)

/-- 'corrallaw8.PteModes': WHATEVER THE INPUT: true; the input reads as it did. -/
def pteModesSpec : ChangeSpec := { name := "pteModes", fn := fun _ => fun
  | [d1, d2] => { results := [.lit (.bool true)], args := [d1, d2] }
  | _ => none }
def pteModesRow : OpenClaim := { program := "ytfkbdkalaajkhaa", sum := "273f8de8b0c1ebc07038236542a923d1b7dca7c58df7d4f108657787f5c831c7", func := "corral/corrallaw8.PteModes", spec := "pteModes", apart := false }
def PteModesSaid : Prop := pteModesRow.holds Try.pinned (OpenSpec.ofChange pteModesSpec)

/-- ITS FALSE NEIGHBOUR: 'it returns false'. Refute it at one input. -/
def pteModesWrong : ChangeSpec := { name := "pteModes", fn := fun _ => fun
  | [d1, d2] => { results := [.lit (.bool false)], args := [d1, d2] }
  | _ => none }
def PteModesWrongFalsely : Prop := pteModesRow.holds Try.pinned (OpenSpec.ofChange pteModesWrong)

/-- 'corrallaw8.PteKinds': WHATEVER THE INPUT: true; the input reads as it did. -/
def pteKindsSpec : ChangeSpec := { name := "pteKinds", fn := fun _ => fun
  | [d1, d2, d3] => { results := [.lit (.bool true)], args := [d1, d2, d3] }
  | _ => none }
def pteKindsRow : OpenClaim := { program := "ytfkbdkalaajkhaa", sum := "273f8de8b0c1ebc07038236542a923d1b7dca7c58df7d4f108657787f5c831c7", func := "corral/corrallaw8.PteKinds", spec := "pteKinds", apart := false }
def PteKindsSaid : Prop := pteKindsRow.holds Try.pinned (OpenSpec.ofChange pteKindsSpec)

/-- ITS FALSE NEIGHBOUR: 'it returns false'. Refute it at one input. -/
def pteKindsWrong : ChangeSpec := { name := "pteKinds", fn := fun _ => fun
  | [d1, d2, d3] => { results := [.lit (.bool false)], args := [d1, d2, d3] }
  | _ => none }
def PteKindsWrongFalsely : Prop := pteKindsRow.holds Try.pinned (OpenSpec.ofChange pteKindsWrong)

/- THE SECOND FORM. 'bulk': how many values and letters a reading holds, each counted each time it is reached (what is shared counts as often as it is met; a slice's spare places count too). A statement '..UptoSaid' is the law's where the arguments, and the package variables that the reading takes, are together of bulk at most 1048576: NARROWER than '..Said'. Prove '..Said' where nothing that the law and all that it calls make is longer than what came in: it says more and counts as full. Else prove '..UptoSaid'. A law counts once. -/
mutual
def uptoBulk {H : Type} : DataW H → Nat
  | .lit (.string bytes) => bytes.length + 1
  | .lit _ => 1
  | .nil => 1
  | .ptr d => uptoBulk d + 1
  | .slice elems spare => uptoBulkAll elems + uptoBulkAll spare + 1
  | .agg parts => uptoBulkAll parts + 1
  | .iface _ d => uptoBulk d + 1
  | .map entries => uptoBulkEntries entries + 1
  | .held _ => 1
def uptoBulkAll {H : Type} : List (DataW H) → Nat
  | [] => 0
  | d :: r => uptoBulk d + uptoBulkAll r
def uptoBulkEntries {H : Type} : List (Lit × DataW H) → Nat
  | [] => 0
  | x :: r => uptoBulkEntry x + uptoBulkEntries r
def uptoBulkEntry {H : Type} : Lit × DataW H → Nat
  | (.string bytes, d) => bytes.length + uptoBulk d + 1
  | (_, d) => uptoBulk d + 1
 end
def uptoSmall : (H : Type) → List (DataW H) → Bool := fun _ ds => decide (uptoBulkAll ds ≤ 1048576)
def OpenSpec.upto (s : _root_.Go.ChangeSpec) : _root_.Go.OpenSpec := { _root_.Go.OpenSpec.ofChange s with cond := some uptoSmall }

/-- 'corrallaw8.PteSays', WHERE WHAT IT READS IS OF BULK AT MOST 1048576: true; the input reads as it did. -/
def pteSaysUptoRow : OpenClaim := { program := "ytfkbdkalaajkhaa", sum := "273f8de8b0c1ebc07038236542a923d1b7dca7c58df7d4f108657787f5c831c7", func := "corral/corrallaw8.PteSays", spec := "pteSays", apart := false, narrowed := true }
def PteSaysUptoSaid : Prop := pteSaysUptoRow.holds Try.pinned (OpenSpec.upto pteSaysSpec)

/-- 'corrallaw8.PteMakes', WHERE WHAT IT READS IS OF BULK AT MOST 1048576: true; the input reads as it did. -/
def pteMakesUptoRow : OpenClaim := { program := "ytfkbdkalaajkhaa", sum := "273f8de8b0c1ebc07038236542a923d1b7dca7c58df7d4f108657787f5c831c7", func := "corral/corrallaw8.PteMakes", spec := "pteMakes", apart := false, narrowed := true }
def PteMakesUptoSaid : Prop := pteMakesUptoRow.holds Try.pinned (OpenSpec.upto pteMakesSpec)

/-- 'corrallaw8.PteModes', WHERE WHAT IT READS IS OF BULK AT MOST 1048576: true; the input reads as it did. -/
def pteModesUptoRow : OpenClaim := { program := "ytfkbdkalaajkhaa", sum := "273f8de8b0c1ebc07038236542a923d1b7dca7c58df7d4f108657787f5c831c7", func := "corral/corrallaw8.PteModes", spec := "pteModes", apart := false, narrowed := true }
def PteModesUptoSaid : Prop := pteModesUptoRow.holds Try.pinned (OpenSpec.upto pteModesSpec)

/-- 'corrallaw8.PteKinds', WHERE WHAT IT READS IS OF BULK AT MOST 1048576: true; the input reads as it did. -/
def pteKindsUptoRow : OpenClaim := { program := "ytfkbdkalaajkhaa", sum := "273f8de8b0c1ebc07038236542a923d1b7dca7c58df7d4f108657787f5c831c7", func := "corral/corrallaw8.PteKinds", spec := "pteKinds", apart := false, narrowed := true }
def PteKindsUptoSaid : Prop := pteKindsUptoRow.holds Try.pinned (OpenSpec.upto pteKindsSpec)

end Rows
end Go.Proofs.Ytfkbdkalaajkhaa
