/-
  No cell of these rows narrows 'for every input' (looked for: loops, veiled, ifaces, maps, wideKeys, modest, calm, conditions, laid).
  DERIVED. THE GIVEN ROWS OF THIS SEAT. 6 by the template 'for every input the law returns true; each argument reads behind the call as it read before'; 0 by the template 'total and deterministic' (their statements: YtbagmlcakmhhaaaTotals.lean).
  GIVEN WITH THE SEED: the statements are not yours to turn. If you find one false, say at which input.
  Laid BY PROGRAM, IN A SANDBOX (cutbox-rows.mjs): the forced cells as the released guide's own fill.sh prints them over the translation 812018e2365f7c72… (all of the seat's roots in one cut). By AI agents, Wed Nov 11 2026. No macro, syntax, notation, axiom, sorry.
-/
import Derived.Test.YtbagmlcakmhhaaaChecked
import GoSem.Claim
import GoSem.ClaimJoined
import GoSem.ClaimMapViews
import Derived.JoinedTies
import Derived.KernelRfl
namespace Go.Proofs.Ytbagmlcakmhhaaa
/- THE CELL 'sum', in the pinned program and in every row, IS THE sha256 OF THE DUMP (.gsa) THAT YtbagmlcakmhhaaaProg.lean LOADS. Nothing in Lean hashes anything: it is a label: what it is worth is what the hold of that sum in a sandbox is worth. -/
noncomputable def Try.pinned : Pinned := { name := "ytbagmlcakmhhaaa", sum := "812018e2365f7c72e3e1cda049a5c6e6207feb6e5fbcb565a18903532f7e7f6e", checked := Try.checked }
namespace Rows
def none {H : Type} : Left H := { results := [], args := [] }

/-- 'corrallaw6.CsrPlays': WHATEVER THE INPUT: true; the input reads as it did. -/
def csrPlaysSpec : ChangeSpec := { name := "csrPlays", fn := fun _ => fun
  | [d1, d2] => { results := [.lit (.bool true)], args := [d1, d2] }
  | _ => none }
def csrPlaysRow : OpenClaim := { program := "ytbagmlcakmhhaaa", sum := "812018e2365f7c72e3e1cda049a5c6e6207feb6e5fbcb565a18903532f7e7f6e", func := "corral/corrallaw6.CsrPlays", spec := "csrPlays", apart := false }
def CsrPlaysSaid : Prop := csrPlaysRow.holds Try.pinned (OpenSpec.ofChange csrPlaysSpec)

/-- ITS FALSE NEIGHBOUR: 'it returns false'. Refute it at one input. -/
def csrPlaysWrong : ChangeSpec := { name := "csrPlays", fn := fun _ => fun
  | [d1, d2] => { results := [.lit (.bool false)], args := [d1, d2] }
  | _ => none }
def CsrPlaysWrongFalsely : Prop := csrPlaysRow.holds Try.pinned (OpenSpec.ofChange csrPlaysWrong)

/-- 'corrallaw6.CsrReturns': WHATEVER THE INPUT: true; the input reads as it did. -/
def csrReturnsSpec : ChangeSpec := { name := "csrReturns", fn := fun _ => fun
  | [d1, d2, d3, d4, d5] => { results := [.lit (.bool true)], args := [d1, d2, d3, d4, d5] }
  | _ => none }
def csrReturnsRow : OpenClaim := { program := "ytbagmlcakmhhaaa", sum := "812018e2365f7c72e3e1cda049a5c6e6207feb6e5fbcb565a18903532f7e7f6e", func := "corral/corrallaw6.CsrReturns", spec := "csrReturns", apart := false }
def CsrReturnsSaid : Prop := csrReturnsRow.holds Try.pinned (OpenSpec.ofChange csrReturnsSpec)

/-- ITS FALSE NEIGHBOUR: 'it returns false'. Refute it at one input. -/
def csrReturnsWrong : ChangeSpec := { name := "csrReturns", fn := fun _ => fun
  | [d1, d2, d3, d4, d5] => { results := [.lit (.bool false)], args := [d1, d2, d3, d4, d5] }
  | _ => none }
def CsrReturnsWrongFalsely : Prop := csrReturnsRow.holds Try.pinned (OpenSpec.ofChange csrReturnsWrong)

/-- 'corrallaw6.CsrUser': WHATEVER THE INPUT: true; the input reads as it did. -/
def csrUserSpec : ChangeSpec := { name := "csrUser", fn := fun _ => fun
  | [d1, d2] => { results := [.lit (.bool true)], args := [d1, d2] }
  | _ => none }
def csrUserRow : OpenClaim := { program := "ytbagmlcakmhhaaa", sum := "812018e2365f7c72e3e1cda049a5c6e6207feb6e5fbcb565a18903532f7e7f6e", func := "corral/corrallaw6.CsrUser", spec := "csrUser", apart := false }
def CsrUserSaid : Prop := csrUserRow.holds Try.pinned (OpenSpec.ofChange csrUserSpec)

/-- ITS FALSE NEIGHBOUR: 'it returns false'. Refute it at one input. -/
def csrUserWrong : ChangeSpec := { name := "csrUser", fn := fun _ => fun
  | [d1, d2] => { results := [.lit (.bool false)], args := [d1, d2] }
  | _ => none }
def CsrUserWrongFalsely : Prop := csrUserRow.holds Try.pinned (OpenSpec.ofChange csrUserWrong)

/-- 'corrallaw6.CsrMasks': WHATEVER THE INPUT: true; the input reads as it did. -/
def csrMasksSpec : ChangeSpec := { name := "csrMasks", fn := fun _ => fun
  | [d1, d2] => { results := [.lit (.bool true)], args := [d1, d2] }
  | _ => none }
def csrMasksRow : OpenClaim := { program := "ytbagmlcakmhhaaa", sum := "812018e2365f7c72e3e1cda049a5c6e6207feb6e5fbcb565a18903532f7e7f6e", func := "corral/corrallaw6.CsrMasks", spec := "csrMasks", apart := false }
def CsrMasksSaid : Prop := csrMasksRow.holds Try.pinned (OpenSpec.ofChange csrMasksSpec)

/-- ITS FALSE NEIGHBOUR: 'it returns false'. Refute it at one input. -/
def csrMasksWrong : ChangeSpec := { name := "csrMasks", fn := fun _ => fun
  | [d1, d2] => { results := [.lit (.bool false)], args := [d1, d2] }
  | _ => none }
def CsrMasksWrongFalsely : Prop := csrMasksRow.holds Try.pinned (OpenSpec.ofChange csrMasksWrong)

/-- 'corrallaw6.CsrNests': WHATEVER THE INPUT: true; the input reads as it did. -/
def csrNestsSpec : ChangeSpec := { name := "csrNests", fn := fun _ => fun
  | [d1, d2, d3] => { results := [.lit (.bool true)], args := [d1, d2, d3] }
  | _ => none }
def csrNestsRow : OpenClaim := { program := "ytbagmlcakmhhaaa", sum := "812018e2365f7c72e3e1cda049a5c6e6207feb6e5fbcb565a18903532f7e7f6e", func := "corral/corrallaw6.CsrNests", spec := "csrNests", apart := false }
def CsrNestsSaid : Prop := csrNestsRow.holds Try.pinned (OpenSpec.ofChange csrNestsSpec)

/-- ITS FALSE NEIGHBOUR: 'it returns false'. Refute it at one input. -/
def csrNestsWrong : ChangeSpec := { name := "csrNests", fn := fun _ => fun
  | [d1, d2, d3] => { results := [.lit (.bool false)], args := [d1, d2, d3] }
  | _ => none }
def CsrNestsWrongFalsely : Prop := csrNestsRow.holds Try.pinned (OpenSpec.ofChange csrNestsWrong)

/-- 'corrallaw6.CsrBells': WHATEVER THE INPUT: true; the input reads as it did. -/
def csrBellsSpec : ChangeSpec := { name := "csrBells", fn := fun _ => fun
  | [d1, d2, d3, d4] => { results := [.lit (.bool true)], args := [d1, d2, d3, d4] }
  | _ => none }
def csrBellsRow : OpenClaim := { program := "ytbagmlcakmhhaaa", sum := "812018e2365f7c72e3e1cda049a5c6e6207feb6e5fbcb565a18903532f7e7f6e", func := "corral/corrallaw6.CsrBells", spec := "csrBells", apart := false }
def CsrBellsSaid : Prop := csrBellsRow.holds Try.pinned (OpenSpec.ofChange csrBellsSpec)

/-- ITS FALSE NEIGHBOUR: 'it returns false'. Refute it at one input. -/
def csrBellsWrong : ChangeSpec := { name := "csrBells", fn := fun _ => fun
  | [d1, d2, d3, d4] => { results := [.lit (.bool false)], args := [d1, d2, d3, d4] }
  | _ => none }
def CsrBellsWrongFalsely : Prop := csrBellsRow.holds Try.pinned (OpenSpec.ofChange csrBellsWrong)

/- THE SECOND FORM. 'bulk': how many values and letters a reading holds, each counted each time it is reached (what is shared counts as often as it is met; a slice's spare places count too). A statement '..UptoSaid' is the law's where the arguments, and the package variables that the reading takes, are together of bulk at most 1048576: NARROWER than '..Said'. Prove '..Said' where nothing that the law and all that it calls make is longer than what came in: it says more and counts as full. Else prove '..UptoSaid'. A law counts once. -/
mutual
def uptoBulk {H : Type} : DataW H → Nat
  | .lit (.string bytes) => bytes.length + 1
  | .lit _ => 1
  | .nil => 1
  | .ptr d => uptoBulk d + 1
  | .slice elems spare => uptoBulkAll elems + uptoBulkAll spare + 1
  | .agg parts => uptoBulkAll parts + 1
  | .iface _ d => uptoBulk d + 1
  | .map entries => uptoBulkEntries entries + 1
  | .held _ => 1
def uptoBulkAll {H : Type} : List (DataW H) → Nat
  | [] => 0
  | d :: r => uptoBulk d + uptoBulkAll r
def uptoBulkEntries {H : Type} : List (Lit × DataW H) → Nat
  | [] => 0
  | x :: r => uptoBulkEntry x + uptoBulkEntries r
def uptoBulkEntry {H : Type} : Lit × DataW H → Nat
  | (.string bytes, d) => bytes.length + uptoBulk d + 1
  | (_, d) => uptoBulk d + 1
 end
def uptoSmall : (H : Type) → List (DataW H) → Bool := fun _ ds => decide (uptoBulkAll ds ≤ 1048576)
def OpenSpec.upto (s : _root_.Go.ChangeSpec) : _root_.Go.OpenSpec := { _root_.Go.OpenSpec.ofChange s with cond := some uptoSmall }

/-- 'corrallaw6.CsrPlays', WHERE WHAT IT READS IS OF BULK AT MOST 1048576: true; the input reads as it did. -/
def csrPlaysUptoRow : OpenClaim := { program := "ytbagmlcakmhhaaa", sum := "812018e2365f7c72e3e1cda049a5c6e6207feb6e5fbcb565a18903532f7e7f6e", func := "corral/corrallaw6.CsrPlays", spec := "csrPlays", apart := false, narrowed := true }
def CsrPlaysUptoSaid : Prop := csrPlaysUptoRow.holds Try.pinned (OpenSpec.upto csrPlaysSpec)

/-- 'corrallaw6.CsrReturns', WHERE WHAT IT READS IS OF BULK AT MOST 1048576: true; the input reads as it did. -/
def csrReturnsUptoRow : OpenClaim := { program := "ytbagmlcakmhhaaa", sum := "812018e2365f7c72e3e1cda049a5c6e6207feb6e5fbcb565a18903532f7e7f6e", func := "corral/corrallaw6.CsrReturns", spec := "csrReturns", apart := false, narrowed := true }
def CsrReturnsUptoSaid : Prop := csrReturnsUptoRow.holds Try.pinned (OpenSpec.upto csrReturnsSpec)

/-- 'corrallaw6.CsrUser', WHERE WHAT IT READS IS OF BULK AT MOST 1048576: true; the input reads as it did. -/
def csrUserUptoRow : OpenClaim := { program := "ytbagmlcakmhhaaa", sum := "812018e2365f7c72e3e1cda049a5c6e6207feb6e5fbcb565a18903532f7e7f6e", func := "corral/corrallaw6.CsrUser", spec := "csrUser", apart := false, narrowed := true }
def CsrUserUptoSaid : Prop := csrUserUptoRow.holds Try.pinned (OpenSpec.upto csrUserSpec)

/-- 'corrallaw6.CsrMasks', WHERE WHAT IT READS IS OF BULK AT MOST 1048576: true; the input reads as it did. -/
def csrMasksUptoRow : OpenClaim := { program := "ytbagmlcakmhhaaa", sum := "812018e2365f7c72e3e1cda049a5c6e6207feb6e5fbcb565a18903532f7e7f6e", func := "corral/corrallaw6.CsrMasks", spec := "csrMasks", apart := false, narrowed := true }
def CsrMasksUptoSaid : Prop := csrMasksUptoRow.holds Try.pinned (OpenSpec.upto csrMasksSpec)

/-- 'corrallaw6.CsrNests', WHERE WHAT IT READS IS OF BULK AT MOST 1048576: true; the input reads as it did. -/
def csrNestsUptoRow : OpenClaim := { program := "ytbagmlcakmhhaaa", sum := "812018e2365f7c72e3e1cda049a5c6e6207feb6e5fbcb565a18903532f7e7f6e", func := "corral/corrallaw6.CsrNests", spec := "csrNests", apart := false, narrowed := true }
def CsrNestsUptoSaid : Prop := csrNestsUptoRow.holds Try.pinned (OpenSpec.upto csrNestsSpec)

/-- 'corrallaw6.CsrBells', WHERE WHAT IT READS IS OF BULK AT MOST 1048576: true; the input reads as it did. -/
def csrBellsUptoRow : OpenClaim := { program := "ytbagmlcakmhhaaa", sum := "812018e2365f7c72e3e1cda049a5c6e6207feb6e5fbcb565a18903532f7e7f6e", func := "corral/corrallaw6.CsrBells", spec := "csrBells", apart := false, narrowed := true }
def CsrBellsUptoSaid : Prop := csrBellsUptoRow.holds Try.pinned (OpenSpec.upto csrBellsSpec)

end Rows
end Go.Proofs.Ytbagmlcakmhhaaa
