/-
  DERIVED. GIVEN WITH THE SEED: THE CARDS: each row of YteilpehekabccabGreatDoorRows.lean that lists a variable, with what it lists TIED to the program's text (the seventh form; the later family's looks); each row that meets fmt, with fmt's text TOLD by the authors' own Lean function (tested against real Go, not proved from fmt's source: count such statements apart). THE CARD IS WHAT COUNTS. Prove the row's statement (the work); the ties are given (YteilpehekabccabGreatDoorTie.lean); close each card by the builder's one call (the guide's Derived/Test/ToyasCard.lean, 'card_holds'). Laid BY PROGRAM, IN A SANDBOX (cutbox-door.mjs). By AI agents, Wed Nov 11 2026. No macro, syntax, notation, axiom, sorry.
-/
import Derived.Test.YteilpehekabccabGreatDoorRows
import GoSem.ClaimSeven
namespace Go.Proofs.YteilpehekabccabGreatDoor
namespace Rows

/-- THE TIED CARD OF 'corrallaw10.HartWrong'. -/
def hartWrongCard : Claim7 := { stood := { row := hartWrongRow, standIns := [], harness := (true, "dc80e261a7a6b4c35d1053fdbcd7d6e6a967417c1f0a09f4dfc7efead8f54ed6"), looks := true }, kinds := [], alts := [], laidByText := true, laidKinds := [.sentinel, .sentinel, .sentinel, .sentinel, .sentinel, .sentinel, .sentinel, .sentinel, .sentinel, .sentinel, .sentinel], laidTests := true, laidLooks := .later }
def HartWrongCardSaid : Prop := Claim7.holds Tryz.pinned (.plain (OpenSpec.ofChange hartWrongSpec)) hartWrongCard

/-- THE SECOND FORM's CARD OF 'corrallaw10.HartWrong'. -/
def hartWrongUptoCard : Claim7 := { stood := { row := hartWrongUptoRow, standIns := [], harness := (true, "dc80e261a7a6b4c35d1053fdbcd7d6e6a967417c1f0a09f4dfc7efead8f54ed6"), looks := true }, kinds := [], alts := [], laidByText := true, laidKinds := [.sentinel, .sentinel, .sentinel, .sentinel, .sentinel, .sentinel, .sentinel, .sentinel, .sentinel, .sentinel, .sentinel], laidTests := true, laidLooks := .later }
def HartWrongUptoCardSaid : Prop := Claim7.holds Tryz.pinned (.plain (OpenSpec.upto hartWrongSpec)) hartWrongUptoCard
end Rows
end Go.Proofs.YteilpehekabccabGreatDoor
