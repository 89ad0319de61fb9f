/-
  No cell of these rows narrows 'for every input' (looked for: loops, veiled, ifaces, maps, wideKeys, modest, calm, conditions, laid).
  DERIVED. THE GIVEN ROWS OF THIS SEAT. 4 by the template 'for every input the law returns true; each argument reads behind the call as it read before'; 0 by the template 'total and deterministic' (their statements: YtadkpelcbnljbaaTotals.lean).
  GIVEN WITH THE SEED: the statements are not yours to turn. If you find one false, say at which input.
  Laid BY PROGRAM, IN A SANDBOX (cutbox-rows.mjs): the forced cells as the released guide's own fill.sh prints them over the translation df6bb42f77c62725… (all of the seat's roots in one cut). By AI agents, Wed Nov 11 2026. No macro, syntax, notation, axiom, sorry.
-/
import Derived.Test.YtadkpelcbnljbaaChecked
import GoSem.Claim
import GoSem.ClaimJoined
import GoSem.ClaimMapViews
import Derived.JoinedTies
import Derived.KernelRfl
namespace Go.Proofs.Ytadkpelcbnljbaa
/- THE CELL 'sum', in the pinned program and in every row, IS THE sha256 OF THE DUMP (.gsa) THAT YtadkpelcbnljbaaProg.lean LOADS. Nothing in Lean hashes anything: it is a label: what it is worth is what the hold of that sum in a sandbox is worth. -/
noncomputable def Try.pinned : Pinned := { name := "ytadkpelcbnljbaa", sum := "df6bb42f77c627259c828eef94bc5f9fc27d1b463bfe33848fad84ccf7e36ce7", checked := Try.checked }
namespace Rows
def none {H : Type} : Left H := { results := [], args := [] }

/-- 'corrallaw18.HomePlays': WHATEVER THE INPUT: true; the input reads as it did. -/
def homePlaysSpec : ChangeSpec := { name := "homePlays", fn := fun _ => fun
  | [d1, d2, d3, d4] => { results := [.lit (.bool true)], args := [d1, d2, d3, d4] }
  | _ => none }
def homePlaysRow : OpenClaim := { program := "ytadkpelcbnljbaa", sum := "df6bb42f77c627259c828eef94bc5f9fc27d1b463bfe33848fad84ccf7e36ce7", func := "corral/corrallaw18.HomePlays", spec := "homePlays", inPlace := ["slices.overlaps[int]"], unfollowed := true, recurses := true, apart := false }
def HomePlaysSaid : Prop := homePlaysRow.holds Try.pinned (OpenSpec.ofChange homePlaysSpec)

/-- ITS FALSE NEIGHBOUR: 'it returns false'. Refute it at one input. -/
def homePlaysWrong : ChangeSpec := { name := "homePlays", fn := fun _ => fun
  | [d1, d2, d3, d4] => { results := [.lit (.bool false)], args := [d1, d2, d3, d4] }
  | _ => none }
def HomePlaysWrongFalsely : Prop := homePlaysRow.holds Try.pinned (OpenSpec.ofChange homePlaysWrong)

/-- 'corrallaw18.HomeAlone': WHATEVER THE INPUT: true; the input reads as it did. -/
def homeAloneSpec : ChangeSpec := { name := "homeAlone", fn := fun _ => fun
  | [d1, d2] => { results := [.lit (.bool true)], args := [d1, d2] }
  | _ => none }
def homeAloneRow : OpenClaim := { program := "ytadkpelcbnljbaa", sum := "df6bb42f77c627259c828eef94bc5f9fc27d1b463bfe33848fad84ccf7e36ce7", func := "corral/corrallaw18.HomeAlone", spec := "homeAlone", inPlace := ["slices.overlaps[int]"], unfollowed := true, recurses := true, apart := false }
def HomeAloneSaid : Prop := homeAloneRow.holds Try.pinned (OpenSpec.ofChange homeAloneSpec)

/-- ITS FALSE NEIGHBOUR: 'it returns false'. Refute it at one input. -/
def homeAloneWrong : ChangeSpec := { name := "homeAlone", fn := fun _ => fun
  | [d1, d2] => { results := [.lit (.bool false)], args := [d1, d2] }
  | _ => none }
def HomeAloneWrongFalsely : Prop := homeAloneRow.holds Try.pinned (OpenSpec.ofChange homeAloneWrong)

/-- 'corrallaw18.HomePuts': WHATEVER THE INPUT: true; the input reads as it did. -/
def homePutsSpec : ChangeSpec := { name := "homePuts", fn := fun _ => fun
  | [d1, d2, d3, d4] => { results := [.lit (.bool true)], args := [d1, d2, d3, d4] }
  | _ => none }
def homePutsRow : OpenClaim := { program := "ytadkpelcbnljbaa", sum := "df6bb42f77c627259c828eef94bc5f9fc27d1b463bfe33848fad84ccf7e36ce7", func := "corral/corrallaw18.HomePuts", spec := "homePuts", inPlace := ["slices.overlaps[int]"], unfollowed := true, recurses := true, apart := false }
def HomePutsSaid : Prop := homePutsRow.holds Try.pinned (OpenSpec.ofChange homePutsSpec)

/-- ITS FALSE NEIGHBOUR: 'it returns false'. Refute it at one input. -/
def homePutsWrong : ChangeSpec := { name := "homePuts", fn := fun _ => fun
  | [d1, d2, d3, d4] => { results := [.lit (.bool false)], args := [d1, d2, d3, d4] }
  | _ => none }
def HomePutsWrongFalsely : Prop := homePutsRow.holds Try.pinned (OpenSpec.ofChange homePutsWrong)

/-- 'corrallaw18.HomeShares': WHATEVER THE INPUT: true; the input reads as it did. -/
def homeSharesSpec : ChangeSpec := { name := "homeShares", fn := fun _ => fun
  | [d1, d2, d3] => { results := [.lit (.bool true)], args := [d1, d2, d3] }
  | _ => none }
def homeSharesRow : OpenClaim := { program := "ytadkpelcbnljbaa", sum := "df6bb42f77c627259c828eef94bc5f9fc27d1b463bfe33848fad84ccf7e36ce7", func := "corral/corrallaw18.HomeShares", spec := "homeShares", inPlace := ["slices.overlaps[int]"], unfollowed := true, recurses := true, apart := false }
def HomeSharesSaid : Prop := homeSharesRow.holds Try.pinned (OpenSpec.ofChange homeSharesSpec)

/-- ITS FALSE NEIGHBOUR: 'it returns false'. Refute it at one input. -/
def homeSharesWrong : ChangeSpec := { name := "homeShares", fn := fun _ => fun
  | [d1, d2, d3] => { results := [.lit (.bool false)], args := [d1, d2, d3] }
  | _ => none }
def HomeSharesWrongFalsely : Prop := homeSharesRow.holds Try.pinned (OpenSpec.ofChange homeSharesWrong)

/- THE SECOND FORM. 'bulk': how many values and letters a reading holds, each counted each time it is reached (what is shared counts as often as it is met; a slice's spare places count too). A statement '..UptoSaid' is the law's where the arguments, and the package variables that the reading takes, are together of bulk at most 1048576: NARROWER than '..Said'. Prove '..Said' where nothing that the law and all that it calls make is longer than what came in: it says more and counts as full. Else prove '..UptoSaid'. A law counts once. -/
mutual
def uptoBulk {H : Type} : DataW H → Nat
  | .lit (.string bytes) => bytes.length + 1
  | .lit _ => 1
  | .nil => 1
  | .ptr d => uptoBulk d + 1
  | .slice elems spare => uptoBulkAll elems + uptoBulkAll spare + 1
  | .agg parts => uptoBulkAll parts + 1
  | .iface _ d => uptoBulk d + 1
  | .map entries => uptoBulkEntries entries + 1
  | .held _ => 1
def uptoBulkAll {H : Type} : List (DataW H) → Nat
  | [] => 0
  | d :: r => uptoBulk d + uptoBulkAll r
def uptoBulkEntries {H : Type} : List (Lit × DataW H) → Nat
  | [] => 0
  | x :: r => uptoBulkEntry x + uptoBulkEntries r
def uptoBulkEntry {H : Type} : Lit × DataW H → Nat
  | (.string bytes, d) => bytes.length + uptoBulk d + 1
  | (_, d) => uptoBulk d + 1
 end
def uptoSmall : (H : Type) → List (DataW H) → Bool := fun _ ds => decide (uptoBulkAll ds ≤ 1048576)
def OpenSpec.upto (s : _root_.Go.ChangeSpec) : _root_.Go.OpenSpec := { _root_.Go.OpenSpec.ofChange s with cond := some uptoSmall }

/-- 'corrallaw18.HomePlays', WHERE WHAT IT READS IS OF BULK AT MOST 1048576: true; the input reads as it did. -/
def homePlaysUptoRow : OpenClaim := { program := "ytadkpelcbnljbaa", sum := "df6bb42f77c627259c828eef94bc5f9fc27d1b463bfe33848fad84ccf7e36ce7", func := "corral/corrallaw18.HomePlays", spec := "homePlays", inPlace := ["slices.overlaps[int]"], unfollowed := true, recurses := true, apart := false, narrowed := true }
def HomePlaysUptoSaid : Prop := homePlaysUptoRow.holds Try.pinned (OpenSpec.upto homePlaysSpec)

/-- 'corrallaw18.HomeAlone', WHERE WHAT IT READS IS OF BULK AT MOST 1048576: true; the input reads as it did. -/
def homeAloneUptoRow : OpenClaim := { program := "ytadkpelcbnljbaa", sum := "df6bb42f77c627259c828eef94bc5f9fc27d1b463bfe33848fad84ccf7e36ce7", func := "corral/corrallaw18.HomeAlone", spec := "homeAlone", inPlace := ["slices.overlaps[int]"], unfollowed := true, recurses := true, apart := false, narrowed := true }
def HomeAloneUptoSaid : Prop := homeAloneUptoRow.holds Try.pinned (OpenSpec.upto homeAloneSpec)

/-- 'corrallaw18.HomePuts', WHERE WHAT IT READS IS OF BULK AT MOST 1048576: true; the input reads as it did. -/
def homePutsUptoRow : OpenClaim := { program := "ytadkpelcbnljbaa", sum := "df6bb42f77c627259c828eef94bc5f9fc27d1b463bfe33848fad84ccf7e36ce7", func := "corral/corrallaw18.HomePuts", spec := "homePuts", inPlace := ["slices.overlaps[int]"], unfollowed := true, recurses := true, apart := false, narrowed := true }
def HomePutsUptoSaid : Prop := homePutsUptoRow.holds Try.pinned (OpenSpec.upto homePutsSpec)

/-- 'corrallaw18.HomeShares', WHERE WHAT IT READS IS OF BULK AT MOST 1048576: true; the input reads as it did. -/
def homeSharesUptoRow : OpenClaim := { program := "ytadkpelcbnljbaa", sum := "df6bb42f77c627259c828eef94bc5f9fc27d1b463bfe33848fad84ccf7e36ce7", func := "corral/corrallaw18.HomeShares", spec := "homeShares", inPlace := ["slices.overlaps[int]"], unfollowed := true, recurses := true, apart := false, narrowed := true }
def HomeSharesUptoSaid : Prop := homeSharesUptoRow.holds Try.pinned (OpenSpec.upto homeSharesSpec)

end Rows
end Go.Proofs.Ytadkpelcbnljbaa
