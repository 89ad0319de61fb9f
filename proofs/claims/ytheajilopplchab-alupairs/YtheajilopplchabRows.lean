/-
  No cell of these rows narrows 'for every input' (looked for: loops, veiled, ifaces, maps, wideKeys, modest, calm, conditions, laid).
  DERIVED. THE GIVEN ROWS OF THIS SEAT. 6 by the template 'for every input the law returns true; each argument reads behind the call as it read before'; 0 by the template 'total and deterministic' (their statements: YtheajilopplchabTotals.lean).
  GIVEN WITH THE SEED: the statements are not yours to turn. If you find one false, say at which input.
  Laid BY PROGRAM, IN A SANDBOX (cutbox-rows.mjs): the forced cells as the released guide's own fill.sh prints them over the translation b182e56876b89ef9… (all of the seat's roots in one cut). By AI agents, Wed Nov 11 2026. No macro, syntax, notation, axiom, sorry.
-/
import Derived.Test.YtheajilopplchabChecked
import GoSem.Claim
import GoSem.ClaimJoined
import GoSem.ClaimMapViews
import Derived.JoinedTies
import Derived.KernelRfl
namespace Go.Proofs.Ytheajilopplchab
/- THE CELL 'sum', in the pinned program and in every row, IS THE sha256 OF THE DUMP (.gsa) THAT YtheajilopplchabProg.lean LOADS. Nothing in Lean hashes anything: it is a label: what it is worth is what the hold of that sum in a sandbox is worth. -/
noncomputable def Try.pinned : Pinned := { name := "ytheajilopplchab", sum := "b182e56876b89ef9a1b194b8d725b721a30e3f0aa33f6e165d2af73b1cec74d5", checked := Try.checked }
namespace Rows
def none {H : Type} : Left H := { results := [], args := [] }

/-- 'corrallaw4.AluSays': WHATEVER THE INPUT: true; the input reads as it did. -/
def aluSaysSpec : ChangeSpec := { name := "aluSays", fn := fun _ => fun
  | [d1, d2, d3] => { results := [.lit (.bool true)], args := [d1, d2, d3] }
  | _ => none }
def aluSaysRow : OpenClaim := { program := "ytheajilopplchab", sum := "b182e56876b89ef9a1b194b8d725b721a30e3f0aa33f6e165d2af73b1cec74d5", func := "corral/corrallaw4.AluSays", spec := "aluSays", apart := false }
def AluSaysSaid : Prop := aluSaysRow.holds Try.pinned (OpenSpec.ofChange aluSaysSpec)

/-- ITS FALSE NEIGHBOUR: 'it returns false'. Refute it at one input. -/
def aluSaysWrong : ChangeSpec := { name := "aluSays", fn := fun _ => fun
  | [d1, d2, d3] => { results := [.lit (.bool false)], args := [d1, d2, d3] }
  | _ => none }
def AluSaysWrongFalsely : Prop := aluSaysRow.holds Try.pinned (OpenSpec.ofChange aluSaysWrong)

/-- 'corrallaw4.AluGoes': WHATEVER THE INPUT: true; the input reads as it did. -/
def aluGoesSpec : ChangeSpec := { name := "aluGoes", fn := fun _ => fun
  | [d1, d2, d3, d4] => { results := [.lit (.bool true)], args := [d1, d2, d3, d4] }
  | _ => none }
def aluGoesRow : OpenClaim := { program := "ytheajilopplchab", sum := "b182e56876b89ef9a1b194b8d725b721a30e3f0aa33f6e165d2af73b1cec74d5", func := "corral/corrallaw4.AluGoes", spec := "aluGoes", apart := false }
def AluGoesSaid : Prop := aluGoesRow.holds Try.pinned (OpenSpec.ofChange aluGoesSpec)

/-- ITS FALSE NEIGHBOUR: 'it returns false'. Refute it at one input. -/
def aluGoesWrong : ChangeSpec := { name := "aluGoes", fn := fun _ => fun
  | [d1, d2, d3, d4] => { results := [.lit (.bool false)], args := [d1, d2, d3, d4] }
  | _ => none }
def AluGoesWrongFalsely : Prop := aluGoesRow.holds Try.pinned (OpenSpec.ofChange aluGoesWrong)

/-- 'corrallaw4.AluPairs': WHATEVER THE INPUT: true; the input reads as it did. -/
def aluPairsSpec : ChangeSpec := { name := "aluPairs", fn := fun _ => fun
  | [d1, d2] => { results := [.lit (.bool true)], args := [d1, d2] }
  | _ => none }
def aluPairsRow : OpenClaim := { program := "ytheajilopplchab", sum := "b182e56876b89ef9a1b194b8d725b721a30e3f0aa33f6e165d2af73b1cec74d5", func := "corral/corrallaw4.AluPairs", spec := "aluPairs", apart := false }
def AluPairsSaid : Prop := aluPairsRow.holds Try.pinned (OpenSpec.ofChange aluPairsSpec)

/-- ITS FALSE NEIGHBOUR: 'it returns false'. Refute it at one input. -/
def aluPairsWrong : ChangeSpec := { name := "aluPairs", fn := fun _ => fun
  | [d1, d2] => { results := [.lit (.bool false)], args := [d1, d2] }
  | _ => none }
def AluPairsWrongFalsely : Prop := aluPairsRow.holds Try.pinned (OpenSpec.ofChange aluPairsWrong)

/-- 'corrallaw4.AluParts': WHATEVER THE INPUT: true; the input reads as it did. -/
def aluPartsSpec : ChangeSpec := { name := "aluParts", fn := fun _ => fun
  | [d] => { results := [.lit (.bool true)], args := [d] }
  | _ => none }
def aluPartsRow : OpenClaim := { program := "ytheajilopplchab", sum := "b182e56876b89ef9a1b194b8d725b721a30e3f0aa33f6e165d2af73b1cec74d5", func := "corral/corrallaw4.AluParts", spec := "aluParts", apart := false }
def AluPartsSaid : Prop := aluPartsRow.holds Try.pinned (OpenSpec.ofChange aluPartsSpec)

/-- ITS FALSE NEIGHBOUR: 'it returns false'. Refute it at one input. -/
def aluPartsWrong : ChangeSpec := { name := "aluParts", fn := fun _ => fun
  | [d] => { results := [.lit (.bool false)], args := [d] }
  | _ => none }
def AluPartsWrongFalsely : Prop := aluPartsRow.holds Try.pinned (OpenSpec.ofChange aluPartsWrong)

/-- 'corrallaw4.AluMuls': WHATEVER THE INPUT: true; the input reads as it did. -/
def aluMulsSpec : ChangeSpec := { name := "aluMuls", fn := fun _ => fun
  | [d1, d2] => { results := [.lit (.bool true)], args := [d1, d2] }
  | _ => none }
def aluMulsRow : OpenClaim := { program := "ytheajilopplchab", sum := "b182e56876b89ef9a1b194b8d725b721a30e3f0aa33f6e165d2af73b1cec74d5", func := "corral/corrallaw4.AluMuls", spec := "aluMuls", apart := false }
def AluMulsSaid : Prop := aluMulsRow.holds Try.pinned (OpenSpec.ofChange aluMulsSpec)

/-- ITS FALSE NEIGHBOUR: 'it returns false'. Refute it at one input. -/
def aluMulsWrong : ChangeSpec := { name := "aluMuls", fn := fun _ => fun
  | [d1, d2] => { results := [.lit (.bool false)], args := [d1, d2] }
  | _ => none }
def AluMulsWrongFalsely : Prop := aluMulsRow.holds Try.pinned (OpenSpec.ofChange aluMulsWrong)

/-- 'corrallaw4.AluLess': WHATEVER THE INPUT: true; the input reads as it did. -/
def aluLessSpec : ChangeSpec := { name := "aluLess", fn := fun _ => fun
  | [d1, d2] => { results := [.lit (.bool true)], args := [d1, d2] }
  | _ => none }
def aluLessRow : OpenClaim := { program := "ytheajilopplchab", sum := "b182e56876b89ef9a1b194b8d725b721a30e3f0aa33f6e165d2af73b1cec74d5", func := "corral/corrallaw4.AluLess", spec := "aluLess", apart := false }
def AluLessSaid : Prop := aluLessRow.holds Try.pinned (OpenSpec.ofChange aluLessSpec)

/-- ITS FALSE NEIGHBOUR: 'it returns false'. Refute it at one input. -/
def aluLessWrong : ChangeSpec := { name := "aluLess", fn := fun _ => fun
  | [d1, d2] => { results := [.lit (.bool false)], args := [d1, d2] }
  | _ => none }
def AluLessWrongFalsely : Prop := aluLessRow.holds Try.pinned (OpenSpec.ofChange aluLessWrong)

/- THE SECOND FORM. 'bulk': how many values and letters a reading holds, each counted each time it is reached (what is shared counts as often as it is met; a slice's spare places count too). A statement '..UptoSaid' is the law's where the arguments, and the package variables that the reading takes, are together of bulk at most 1048576: NARROWER than '..Said'. Prove '..Said' where nothing that the law and all that it calls make is longer than what came in: it says more and counts as full. Else prove '..UptoSaid'. A law counts once. -/
mutual
def uptoBulk {H : Type} : DataW H → Nat
  | .lit (.string bytes) => bytes.length + 1
  | .lit _ => 1
  | .nil => 1
  | .ptr d => uptoBulk d + 1
  | .slice elems spare => uptoBulkAll elems + uptoBulkAll spare + 1
  | .agg parts => uptoBulkAll parts + 1
  | .iface _ d => uptoBulk d + 1
  | .map entries => uptoBulkEntries entries + 1
  | .held _ => 1
def uptoBulkAll {H : Type} : List (DataW H) → Nat
  | [] => 0
  | d :: r => uptoBulk d + uptoBulkAll r
def uptoBulkEntries {H : Type} : List (Lit × DataW H) → Nat
  | [] => 0
  | x :: r => uptoBulkEntry x + uptoBulkEntries r
def uptoBulkEntry {H : Type} : Lit × DataW H → Nat
  | (.string bytes, d) => bytes.length + uptoBulk d + 1
  | (_, d) => uptoBulk d + 1
 end
def uptoSmall : (H : Type) → List (DataW H) → Bool := fun _ ds => decide (uptoBulkAll ds ≤ 1048576)
def OpenSpec.upto (s : _root_.Go.ChangeSpec) : _root_.Go.OpenSpec := { _root_.Go.OpenSpec.ofChange s with cond := some uptoSmall }

/-- 'corrallaw4.AluSays', WHERE WHAT IT READS IS OF BULK AT MOST 1048576: true; the input reads as it did. -/
def aluSaysUptoRow : OpenClaim := { program := "ytheajilopplchab", sum := "b182e56876b89ef9a1b194b8d725b721a30e3f0aa33f6e165d2af73b1cec74d5", func := "corral/corrallaw4.AluSays", spec := "aluSays", apart := false, narrowed := true }
def AluSaysUptoSaid : Prop := aluSaysUptoRow.holds Try.pinned (OpenSpec.upto aluSaysSpec)

/-- 'corrallaw4.AluGoes', WHERE WHAT IT READS IS OF BULK AT MOST 1048576: true; the input reads as it did. -/
def aluGoesUptoRow : OpenClaim := { program := "ytheajilopplchab", sum := "b182e56876b89ef9a1b194b8d725b721a30e3f0aa33f6e165d2af73b1cec74d5", func := "corral/corrallaw4.AluGoes", spec := "aluGoes", apart := false, narrowed := true }
def AluGoesUptoSaid : Prop := aluGoesUptoRow.holds Try.pinned (OpenSpec.upto aluGoesSpec)

/-- 'corrallaw4.AluPairs', WHERE WHAT IT READS IS OF BULK AT MOST 1048576: true; the input reads as it did. -/
def aluPairsUptoRow : OpenClaim := { program := "ytheajilopplchab", sum := "b182e56876b89ef9a1b194b8d725b721a30e3f0aa33f6e165d2af73b1cec74d5", func := "corral/corrallaw4.AluPairs", spec := "aluPairs", apart := false, narrowed := true }
def AluPairsUptoSaid : Prop := aluPairsUptoRow.holds Try.pinned (OpenSpec.upto aluPairsSpec)

/-- 'corrallaw4.AluParts', WHERE WHAT IT READS IS OF BULK AT MOST 1048576: true; the input reads as it did. -/
def aluPartsUptoRow : OpenClaim := { program := "ytheajilopplchab", sum := "b182e56876b89ef9a1b194b8d725b721a30e3f0aa33f6e165d2af73b1cec74d5", func := "corral/corrallaw4.AluParts", spec := "aluParts", apart := false, narrowed := true }
def AluPartsUptoSaid : Prop := aluPartsUptoRow.holds Try.pinned (OpenSpec.upto aluPartsSpec)

/-- 'corrallaw4.AluMuls', WHERE WHAT IT READS IS OF BULK AT MOST 1048576: true; the input reads as it did. -/
def aluMulsUptoRow : OpenClaim := { program := "ytheajilopplchab", sum := "b182e56876b89ef9a1b194b8d725b721a30e3f0aa33f6e165d2af73b1cec74d5", func := "corral/corrallaw4.AluMuls", spec := "aluMuls", apart := false, narrowed := true }
def AluMulsUptoSaid : Prop := aluMulsUptoRow.holds Try.pinned (OpenSpec.upto aluMulsSpec)

/-- 'corrallaw4.AluLess', WHERE WHAT IT READS IS OF BULK AT MOST 1048576: true; the input reads as it did. -/
def aluLessUptoRow : OpenClaim := { program := "ytheajilopplchab", sum := "b182e56876b89ef9a1b194b8d725b721a30e3f0aa33f6e165d2af73b1cec74d5", func := "corral/corrallaw4.AluLess", spec := "aluLess", apart := false, narrowed := true }
def AluLessUptoSaid : Prop := aluLessUptoRow.holds Try.pinned (OpenSpec.upto aluLessSpec)

end Rows
end Go.Proofs.Ytheajilopplchab
