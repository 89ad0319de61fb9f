/-
  DERIVED. GIVEN WITH THE SEED: THE CARDS: each row of YteilpehekabccaaGreatDoorRows.lean that lists a variable, with what it lists TIED to the program's text (the seventh form; the later family's looks); each row that meets fmt, with fmt's text TOLD by the authors' own Lean function (tested against real Go, not proved from fmt's source: count such statements apart). THE CARD IS WHAT COUNTS. Prove the row's statement (the work); the ties are given (YteilpehekabccaaGreatDoorTie.lean); close each card by the builder's one call (the guide's Derived/Test/ToyasCard.lean, 'card_holds'). Laid BY PROGRAM, IN A SANDBOX (cutbox-door.mjs). By AI agents, Wed Nov 11 2026. No macro, syntax, notation, axiom, sorry.
-/
import Derived.Test.YteilpehekabccaaGreatDoorRows
import GoSem.ClaimSeven
namespace Go.Proofs.YteilpehekabccaaGreatDoor
namespace Rows

/-- THE TIED CARD OF 'corrallaw10.HartReplays'. -/
def hartReplaysCard : Claim7 := { stood := { row := hartReplaysRow, standIns := [], harness := (true, "830f447e95d65d05a9a049626902fa45cf4c8fc85b94a2710814bc2468782878"), looks := true }, kinds := [], alts := [], laidByText := true, laidKinds := [.sentinel, .sentinel, .sentinel, .sentinel, .sentinel, .sentinel, .sentinel, .sentinel, .sentinel, .sentinel, .sentinel], laidTests := true, laidLooks := .later }
def HartReplaysCardSaid : Prop := Claim7.holds Tryz.pinned (.plain (OpenSpec.ofChange hartReplaysSpec)) hartReplaysCard

/-- THE TIED CARD OF 'corrallaw10.HartBent'. -/
def hartBentCard : Claim7 := { stood := { row := hartBentRow, standIns := [], harness := (true, "830f447e95d65d05a9a049626902fa45cf4c8fc85b94a2710814bc2468782878"), looks := true }, kinds := [], alts := [], laidByText := true, laidKinds := [.sentinel], laidTests := true, laidLooks := .later }
def HartBentCardSaid : Prop := Claim7.holds Tryz.pinned (.plain (OpenSpec.ofChange hartBentSpec)) hartBentCard

/-- THE TIED CARD OF 'corrallaw10.HartZero'. -/
def hartZeroCard : Claim7 := { stood := { row := hartZeroRow, standIns := [], harness := (true, "830f447e95d65d05a9a049626902fa45cf4c8fc85b94a2710814bc2468782878"), looks := true }, kinds := [], alts := [], laidByText := true, laidKinds := [.sentinel], laidTests := true, laidLooks := .later }
def HartZeroCardSaid : Prop := Claim7.holds Tryz.pinned (.plain (OpenSpec.ofChange hartZeroSpec)) hartZeroCard

/-- THE TIED CARD OF 'corrallaw10.HartReckons'. -/
def hartReckonsCard : Claim7 := { stood := { row := hartReckonsRow, standIns := [], harness := (true, "830f447e95d65d05a9a049626902fa45cf4c8fc85b94a2710814bc2468782878"), looks := true }, kinds := [], alts := [], laidByText := true, laidKinds := [.sentinel], laidTests := true, laidLooks := .later }
def HartReckonsCardSaid : Prop := Claim7.holds Tryz.pinned (.plain (OpenSpec.ofChange hartReckonsSpec)) hartReckonsCard

/-- THE TIED CARD OF 'corrallaw10.HartBranches'. -/
def hartBranchesCard : Claim7 := { stood := { row := hartBranchesRow, standIns := [], harness := (true, "830f447e95d65d05a9a049626902fa45cf4c8fc85b94a2710814bc2468782878"), looks := true }, kinds := [], alts := [], laidByText := true, laidKinds := [.sentinel], laidTests := true, laidLooks := .later }
def HartBranchesCardSaid : Prop := Claim7.holds Tryz.pinned (.plain (OpenSpec.ofChange hartBranchesSpec)) hartBranchesCard

/-- THE TIED CARD OF 'corrallaw10.HartLoads'. -/
def hartLoadsCard : Claim7 := { stood := { row := hartLoadsRow, standIns := [], harness := (true, "830f447e95d65d05a9a049626902fa45cf4c8fc85b94a2710814bc2468782878"), looks := true }, kinds := [], alts := [], laidByText := true, laidKinds := [.sentinel], laidTests := true, laidLooks := .later }
def HartLoadsCardSaid : Prop := Claim7.holds Tryz.pinned (.plain (OpenSpec.ofChange hartLoadsSpec)) hartLoadsCard

/-- THE SECOND FORM's CARD OF 'corrallaw10.HartReplays'. -/
def hartReplaysUptoCard : Claim7 := { stood := { row := hartReplaysUptoRow, standIns := [], harness := (true, "830f447e95d65d05a9a049626902fa45cf4c8fc85b94a2710814bc2468782878"), looks := true }, kinds := [], alts := [], laidByText := true, laidKinds := [.sentinel, .sentinel, .sentinel, .sentinel, .sentinel, .sentinel, .sentinel, .sentinel, .sentinel, .sentinel, .sentinel], laidTests := true, laidLooks := .later }
def HartReplaysUptoCardSaid : Prop := Claim7.holds Tryz.pinned (.plain (OpenSpec.upto hartReplaysSpec)) hartReplaysUptoCard

/-- THE SECOND FORM's CARD OF 'corrallaw10.HartBent'. -/
def hartBentUptoCard : Claim7 := { stood := { row := hartBentUptoRow, standIns := [], harness := (true, "830f447e95d65d05a9a049626902fa45cf4c8fc85b94a2710814bc2468782878"), looks := true }, kinds := [], alts := [], laidByText := true, laidKinds := [.sentinel], laidTests := true, laidLooks := .later }
def HartBentUptoCardSaid : Prop := Claim7.holds Tryz.pinned (.plain (OpenSpec.upto hartBentSpec)) hartBentUptoCard

/-- THE SECOND FORM's CARD OF 'corrallaw10.HartZero'. -/
def hartZeroUptoCard : Claim7 := { stood := { row := hartZeroUptoRow, standIns := [], harness := (true, "830f447e95d65d05a9a049626902fa45cf4c8fc85b94a2710814bc2468782878"), looks := true }, kinds := [], alts := [], laidByText := true, laidKinds := [.sentinel], laidTests := true, laidLooks := .later }
def HartZeroUptoCardSaid : Prop := Claim7.holds Tryz.pinned (.plain (OpenSpec.upto hartZeroSpec)) hartZeroUptoCard

/-- THE SECOND FORM's CARD OF 'corrallaw10.HartReckons'. -/
def hartReckonsUptoCard : Claim7 := { stood := { row := hartReckonsUptoRow, standIns := [], harness := (true, "830f447e95d65d05a9a049626902fa45cf4c8fc85b94a2710814bc2468782878"), looks := true }, kinds := [], alts := [], laidByText := true, laidKinds := [.sentinel], laidTests := true, laidLooks := .later }
def HartReckonsUptoCardSaid : Prop := Claim7.holds Tryz.pinned (.plain (OpenSpec.upto hartReckonsSpec)) hartReckonsUptoCard

/-- THE SECOND FORM's CARD OF 'corrallaw10.HartBranches'. -/
def hartBranchesUptoCard : Claim7 := { stood := { row := hartBranchesUptoRow, standIns := [], harness := (true, "830f447e95d65d05a9a049626902fa45cf4c8fc85b94a2710814bc2468782878"), looks := true }, kinds := [], alts := [], laidByText := true, laidKinds := [.sentinel], laidTests := true, laidLooks := .later }
def HartBranchesUptoCardSaid : Prop := Claim7.holds Tryz.pinned (.plain (OpenSpec.upto hartBranchesSpec)) hartBranchesUptoCard

/-- THE SECOND FORM's CARD OF 'corrallaw10.HartLoads'. -/
def hartLoadsUptoCard : Claim7 := { stood := { row := hartLoadsUptoRow, standIns := [], harness := (true, "830f447e95d65d05a9a049626902fa45cf4c8fc85b94a2710814bc2468782878"), looks := true }, kinds := [], alts := [], laidByText := true, laidKinds := [.sentinel], laidTests := true, laidLooks := .later }
def HartLoadsUptoCardSaid : Prop := Claim7.holds Tryz.pinned (.plain (OpenSpec.upto hartLoadsSpec)) hartLoadsUptoCard
end Rows
end Go.Proofs.YteilpehekabccaaGreatDoor
