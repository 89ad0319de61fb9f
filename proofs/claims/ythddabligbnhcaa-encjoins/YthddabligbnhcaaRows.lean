/-
  No cell of these rows narrows 'for every input' (looked for: loops, veiled, ifaces, maps, wideKeys, modest, calm, conditions, laid).
  DERIVED. THE GIVEN ROWS OF THIS SEAT. 4 by the template 'for every input the law returns true; each argument reads behind the call as it read before'; 0 by the template 'total and deterministic' (their statements: YthddabligbnhcaaTotals.lean).
  GIVEN WITH THE SEED: the statements are not yours to turn. If you find one false, say at which input.
  Laid BY PROGRAM, IN A SANDBOX (cutbox-rows.mjs): the forced cells as the released guide's own fill.sh prints them over the translation 6d3d8e80bedcd9db… (all of the seat's roots in one cut). By AI agents, Wed Nov 11 2026. No macro, syntax, notation, axiom, sorry.
-/
import Derived.Test.YthddabligbnhcaaChecked
import GoSem.Claim
import GoSem.ClaimJoined
import GoSem.ClaimMapViews
import Derived.JoinedTies
import Derived.KernelRfl
namespace Go.Proofs.Ythddabligbnhcaa
/- THE CELL 'sum', in the pinned program and in every row, IS THE sha256 OF THE DUMP (.gsa) THAT YthddabligbnhcaaProg.lean LOADS. Nothing in Lean hashes anything: it is a label: what it is worth is what the hold of that sum in a sandbox is worth. -/
noncomputable def Try.pinned : Pinned := { name := "ythddabligbnhcaa", sum := "6d3d8e80bedcd9db776618ead8387eab518e0d50c613c5354c254e4894eb937e", checked := Try.checked }
namespace Rows
def none {H : Type} : Left H := { results := [], args := [] }

/-- 'corrallaw2.EncSays': WHATEVER THE INPUT: true; the input reads as it did. -/
def encSaysSpec : ChangeSpec := { name := "encSays", fn := fun _ => fun
  | [d1, d2, d3] => { results := [.lit (.bool true)], args := [d1, d2, d3] }
  | _ => none }
def encSaysRow : OpenClaim := { program := "ythddabligbnhcaa", sum := "6d3d8e80bedcd9db776618ead8387eab518e0d50c613c5354c254e4894eb937e", func := "corral/corrallaw2.EncSays", spec := "encSays", apart := false }
def EncSaysSaid : Prop := encSaysRow.holds Try.pinned (OpenSpec.ofChange encSaysSpec)

/-- ITS FALSE NEIGHBOUR: 'it returns false'. Refute it at one input. -/
def encSaysWrong : ChangeSpec := { name := "encSays", fn := fun _ => fun
  | [d1, d2, d3] => { results := [.lit (.bool false)], args := [d1, d2, d3] }
  | _ => none }
def EncSaysWrongFalsely : Prop := encSaysRow.holds Try.pinned (OpenSpec.ofChange encSaysWrong)

/-- 'corrallaw2.EncBack': WHATEVER THE INPUT: true; the input reads as it did. -/
def encBackSpec : ChangeSpec := { name := "encBack", fn := fun _ => fun
  | [d] => { results := [.lit (.bool true)], args := [d] }
  | _ => none }
def encBackRow : OpenClaim := { program := "ythddabligbnhcaa", sum := "6d3d8e80bedcd9db776618ead8387eab518e0d50c613c5354c254e4894eb937e", func := "corral/corrallaw2.EncBack", spec := "encBack", apart := false }
def EncBackSaid : Prop := encBackRow.holds Try.pinned (OpenSpec.ofChange encBackSpec)

/-- ITS FALSE NEIGHBOUR: 'it returns false'. Refute it at one input. -/
def encBackWrong : ChangeSpec := { name := "encBack", fn := fun _ => fun
  | [d] => { results := [.lit (.bool false)], args := [d] }
  | _ => none }
def EncBackWrongFalsely : Prop := encBackRow.holds Try.pinned (OpenSpec.ofChange encBackWrong)

/-- 'corrallaw2.EncJoins': WHATEVER THE INPUT: true; the input reads as it did. -/
def encJoinsSpec : ChangeSpec := { name := "encJoins", fn := fun _ => fun
  | [d1, d2, d3, d4, d5, d6] => { results := [.lit (.bool true)], args := [d1, d2, d3, d4, d5, d6] }
  | _ => none }
def encJoinsRow : OpenClaim := { program := "ythddabligbnhcaa", sum := "6d3d8e80bedcd9db776618ead8387eab518e0d50c613c5354c254e4894eb937e", func := "corral/corrallaw2.EncJoins", spec := "encJoins", apart := false }
def EncJoinsSaid : Prop := encJoinsRow.holds Try.pinned (OpenSpec.ofChange encJoinsSpec)

/-- ITS FALSE NEIGHBOUR: 'it returns false'. Refute it at one input. -/
def encJoinsWrong : ChangeSpec := { name := "encJoins", fn := fun _ => fun
  | [d1, d2, d3, d4, d5, d6] => { results := [.lit (.bool false)], args := [d1, d2, d3, d4, d5, d6] }
  | _ => none }
def EncJoinsWrongFalsely : Prop := encJoinsRow.holds Try.pinned (OpenSpec.ofChange encJoinsWrong)

/-- 'corrallaw2.EncEach': WHATEVER THE INPUT: true; the input reads as it did. -/
def encEachSpec : ChangeSpec := { name := "encEach", fn := fun _ => fun
  | [d1, d2] => { results := [.lit (.bool true)], args := [d1, d2] }
  | _ => none }
def encEachRow : OpenClaim := { program := "ythddabligbnhcaa", sum := "6d3d8e80bedcd9db776618ead8387eab518e0d50c613c5354c254e4894eb937e", func := "corral/corrallaw2.EncEach", spec := "encEach", apart := false }
def EncEachSaid : Prop := encEachRow.holds Try.pinned (OpenSpec.ofChange encEachSpec)

/-- ITS FALSE NEIGHBOUR: 'it returns false'. Refute it at one input. -/
def encEachWrong : ChangeSpec := { name := "encEach", fn := fun _ => fun
  | [d1, d2] => { results := [.lit (.bool false)], args := [d1, d2] }
  | _ => none }
def EncEachWrongFalsely : Prop := encEachRow.holds Try.pinned (OpenSpec.ofChange encEachWrong)

/- THE SECOND FORM. 'bulk': how many values and letters a reading holds, each counted each time it is reached (what is shared counts as often as it is met; a slice's spare places count too). A statement '..UptoSaid' is the law's where the arguments, and the package variables that the reading takes, are together of bulk at most 1048576: NARROWER than '..Said'. Prove '..Said' where nothing that the law and all that it calls make is longer than what came in: it says more and counts as full. Else prove '..UptoSaid'. A law counts once. -/
mutual
def uptoBulk {H : Type} : DataW H → Nat
  | .lit (.string bytes) => bytes.length + 1
  | .lit _ => 1
  | .nil => 1
  | .ptr d => uptoBulk d + 1
  | .slice elems spare => uptoBulkAll elems + uptoBulkAll spare + 1
  | .agg parts => uptoBulkAll parts + 1
  | .iface _ d => uptoBulk d + 1
  | .map entries => uptoBulkEntries entries + 1
  | .held _ => 1
def uptoBulkAll {H : Type} : List (DataW H) → Nat
  | [] => 0
  | d :: r => uptoBulk d + uptoBulkAll r
def uptoBulkEntries {H : Type} : List (Lit × DataW H) → Nat
  | [] => 0
  | x :: r => uptoBulkEntry x + uptoBulkEntries r
def uptoBulkEntry {H : Type} : Lit × DataW H → Nat
  | (.string bytes, d) => bytes.length + uptoBulk d + 1
  | (_, d) => uptoBulk d + 1
 end
def uptoSmall : (H : Type) → List (DataW H) → Bool := fun _ ds => decide (uptoBulkAll ds ≤ 1048576)
def OpenSpec.upto (s : _root_.Go.ChangeSpec) : _root_.Go.OpenSpec := { _root_.Go.OpenSpec.ofChange s with cond := some uptoSmall }

/-- 'corrallaw2.EncSays', WHERE WHAT IT READS IS OF BULK AT MOST 1048576: true; the input reads as it did. -/
def encSaysUptoRow : OpenClaim := { program := "ythddabligbnhcaa", sum := "6d3d8e80bedcd9db776618ead8387eab518e0d50c613c5354c254e4894eb937e", func := "corral/corrallaw2.EncSays", spec := "encSays", apart := false, narrowed := true }
def EncSaysUptoSaid : Prop := encSaysUptoRow.holds Try.pinned (OpenSpec.upto encSaysSpec)

/-- 'corrallaw2.EncBack', WHERE WHAT IT READS IS OF BULK AT MOST 1048576: true; the input reads as it did. -/
def encBackUptoRow : OpenClaim := { program := "ythddabligbnhcaa", sum := "6d3d8e80bedcd9db776618ead8387eab518e0d50c613c5354c254e4894eb937e", func := "corral/corrallaw2.EncBack", spec := "encBack", apart := false, narrowed := true }
def EncBackUptoSaid : Prop := encBackUptoRow.holds Try.pinned (OpenSpec.upto encBackSpec)

/-- 'corrallaw2.EncJoins', WHERE WHAT IT READS IS OF BULK AT MOST 1048576: true; the input reads as it did. -/
def encJoinsUptoRow : OpenClaim := { program := "ythddabligbnhcaa", sum := "6d3d8e80bedcd9db776618ead8387eab518e0d50c613c5354c254e4894eb937e", func := "corral/corrallaw2.EncJoins", spec := "encJoins", apart := false, narrowed := true }
def EncJoinsUptoSaid : Prop := encJoinsUptoRow.holds Try.pinned (OpenSpec.upto encJoinsSpec)

/-- 'corrallaw2.EncEach', WHERE WHAT IT READS IS OF BULK AT MOST 1048576: true; the input reads as it did. -/
def encEachUptoRow : OpenClaim := { program := "ythddabligbnhcaa", sum := "6d3d8e80bedcd9db776618ead8387eab518e0d50c613c5354c254e4894eb937e", func := "corral/corrallaw2.EncEach", spec := "encEach", apart := false, narrowed := true }
def EncEachUptoSaid : Prop := encEachUptoRow.holds Try.pinned (OpenSpec.upto encEachSpec)

end Rows
end Go.Proofs.Ythddabligbnhcaa
