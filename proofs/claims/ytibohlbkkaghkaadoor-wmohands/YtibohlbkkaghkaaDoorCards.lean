/-
  DERIVED. GIVEN WITH THE SEED: THE CARDS: each row of YtibohlbkkaghkaaDoorRows.lean that lists a variable, with what it lists TIED to the program's text (the seventh form; the later family's looks); each row that meets fmt, with fmt's text TOLD by the authors' own Lean function (tested against real Go, not proved from fmt's source: count such statements apart). THE CARD IS WHAT COUNTS. Prove the row's statement (the work); the ties are given (YtibohlbkkaghkaaDoorTie.lean); close each card by the builder's one call (the guide's Derived/Test/ToyasCard.lean, 'card_holds'). Laid BY PROGRAM, IN A SANDBOX (cutbox-door.mjs). By AI agents, Wed Nov 11 2026. No macro, syntax, notation, axiom, sorry.
-/
import Derived.Test.YtibohlbkkaghkaaDoorRows
import GoSem.ClaimSeven
namespace Go.Proofs.YtibohlbkkaghkaaDoor
namespace Rows

/-- THE TIED CARD OF 'corrallaw14.WmoInTurn'. -/
def wmoInTurnCard : Claim7 := { stood := { row := wmoInTurnRow, standIns := [], harness := (true, "35a17184053b819e58a25825ee67d72290aa7f3167fd46aa5dc68b826b5d9c3b"), looks := true }, kinds := [], alts := [], laidByText := true, laidKinds := [.sentinel, .sentinel, .sentinel, .sentinel, .sentinel, .sentinel, .sentinel, .sentinel, .sentinel, .sentinel, .sentinel], laidTests := true, laidLooks := .later }
def WmoInTurnCardSaid : Prop := Claim7.holds Tryd.pinned (.plain (OpenSpec.ofChange wmoInTurnSpec)) wmoInTurnCard

/-- THE TIED CARD OF 'corrallaw14.WmoForwards'. -/
def wmoForwardsCard : Claim7 := { stood := { row := wmoForwardsRow, standIns := [], harness := (true, "35a17184053b819e58a25825ee67d72290aa7f3167fd46aa5dc68b826b5d9c3b"), looks := true }, kinds := [], alts := [], laidByText := true, laidKinds := [.sentinel, .sentinel, .sentinel, .sentinel, .sentinel, .sentinel, .sentinel, .sentinel, .sentinel, .sentinel, .sentinel], laidTests := true, laidLooks := .later }
def WmoForwardsCardSaid : Prop := Claim7.holds Tryd.pinned (.plain (OpenSpec.ofChange wmoForwardsSpec)) wmoForwardsCard

/-- THE TIED CARD OF 'corrallaw14.WmoHands'. -/
def wmoHandsCard : Claim7 := { stood := { row := wmoHandsRow, standIns := [], harness := (true, "35a17184053b819e58a25825ee67d72290aa7f3167fd46aa5dc68b826b5d9c3b"), looks := true }, kinds := [], alts := [], laidByText := true, laidKinds := [.sentinel, .sentinel, .sentinel, .sentinel, .sentinel, .sentinel, .sentinel, .sentinel, .sentinel, .sentinel, .sentinel], laidTests := true, laidLooks := .later }
def WmoHandsCardSaid : Prop := Claim7.holds Tryd.pinned (.plain (OpenSpec.ofChange wmoHandsSpec)) wmoHandsCard

/-- THE TIED CARD OF 'corrallaw14.WmoAlone'. -/
def wmoAloneCard : Claim7 := { stood := { row := wmoAloneRow, standIns := [], harness := (true, "35a17184053b819e58a25825ee67d72290aa7f3167fd46aa5dc68b826b5d9c3b"), looks := true }, kinds := [], alts := [], laidByText := true, laidKinds := [.sentinel, .sentinel, .sentinel, .sentinel, .sentinel, .sentinel, .sentinel, .sentinel, .sentinel, .sentinel, .sentinel], laidTests := true, laidLooks := .later }
def WmoAloneCardSaid : Prop := Claim7.holds Tryd.pinned (.plain (OpenSpec.ofChange wmoAloneSpec)) wmoAloneCard

/-- THE TIED CARD OF 'corrallaw14.WmoMixed'. -/
def wmoMixedCard : Claim7 := { stood := { row := wmoMixedRow, standIns := [], harness := (true, "35a17184053b819e58a25825ee67d72290aa7f3167fd46aa5dc68b826b5d9c3b"), looks := true }, kinds := [], alts := [], laidByText := true, laidKinds := [.sentinel, .sentinel, .sentinel, .sentinel, .sentinel, .sentinel, .sentinel, .sentinel, .sentinel, .sentinel, .sentinel], laidTests := true, laidLooks := .later }
def WmoMixedCardSaid : Prop := Claim7.holds Tryd.pinned (.plain (OpenSpec.ofChange wmoMixedSpec)) wmoMixedCard

/-- THE SECOND FORM's CARD OF 'corrallaw14.WmoInTurn'. -/
def wmoInTurnUptoCard : Claim7 := { stood := { row := wmoInTurnUptoRow, standIns := [], harness := (true, "35a17184053b819e58a25825ee67d72290aa7f3167fd46aa5dc68b826b5d9c3b"), looks := true }, kinds := [], alts := [], laidByText := true, laidKinds := [.sentinel, .sentinel, .sentinel, .sentinel, .sentinel, .sentinel, .sentinel, .sentinel, .sentinel, .sentinel, .sentinel], laidTests := true, laidLooks := .later }
def WmoInTurnUptoCardSaid : Prop := Claim7.holds Tryd.pinned (.plain (OpenSpec.upto wmoInTurnSpec)) wmoInTurnUptoCard

/-- THE SECOND FORM's CARD OF 'corrallaw14.WmoForwards'. -/
def wmoForwardsUptoCard : Claim7 := { stood := { row := wmoForwardsUptoRow, standIns := [], harness := (true, "35a17184053b819e58a25825ee67d72290aa7f3167fd46aa5dc68b826b5d9c3b"), looks := true }, kinds := [], alts := [], laidByText := true, laidKinds := [.sentinel, .sentinel, .sentinel, .sentinel, .sentinel, .sentinel, .sentinel, .sentinel, .sentinel, .sentinel, .sentinel], laidTests := true, laidLooks := .later }
def WmoForwardsUptoCardSaid : Prop := Claim7.holds Tryd.pinned (.plain (OpenSpec.upto wmoForwardsSpec)) wmoForwardsUptoCard

/-- THE SECOND FORM's CARD OF 'corrallaw14.WmoHands'. -/
def wmoHandsUptoCard : Claim7 := { stood := { row := wmoHandsUptoRow, standIns := [], harness := (true, "35a17184053b819e58a25825ee67d72290aa7f3167fd46aa5dc68b826b5d9c3b"), looks := true }, kinds := [], alts := [], laidByText := true, laidKinds := [.sentinel, .sentinel, .sentinel, .sentinel, .sentinel, .sentinel, .sentinel, .sentinel, .sentinel, .sentinel, .sentinel], laidTests := true, laidLooks := .later }
def WmoHandsUptoCardSaid : Prop := Claim7.holds Tryd.pinned (.plain (OpenSpec.upto wmoHandsSpec)) wmoHandsUptoCard

/-- THE SECOND FORM's CARD OF 'corrallaw14.WmoAlone'. -/
def wmoAloneUptoCard : Claim7 := { stood := { row := wmoAloneUptoRow, standIns := [], harness := (true, "35a17184053b819e58a25825ee67d72290aa7f3167fd46aa5dc68b826b5d9c3b"), looks := true }, kinds := [], alts := [], laidByText := true, laidKinds := [.sentinel, .sentinel, .sentinel, .sentinel, .sentinel, .sentinel, .sentinel, .sentinel, .sentinel, .sentinel, .sentinel], laidTests := true, laidLooks := .later }
def WmoAloneUptoCardSaid : Prop := Claim7.holds Tryd.pinned (.plain (OpenSpec.upto wmoAloneSpec)) wmoAloneUptoCard

/-- THE SECOND FORM's CARD OF 'corrallaw14.WmoMixed'. -/
def wmoMixedUptoCard : Claim7 := { stood := { row := wmoMixedUptoRow, standIns := [], harness := (true, "35a17184053b819e58a25825ee67d72290aa7f3167fd46aa5dc68b826b5d9c3b"), looks := true }, kinds := [], alts := [], laidByText := true, laidKinds := [.sentinel, .sentinel, .sentinel, .sentinel, .sentinel, .sentinel, .sentinel, .sentinel, .sentinel, .sentinel, .sentinel], laidTests := true, laidLooks := .later }
def WmoMixedUptoCardSaid : Prop := Claim7.holds Tryd.pinned (.plain (OpenSpec.upto wmoMixedSpec)) wmoMixedUptoCard
end Rows
end Go.Proofs.YtibohlbkkaghkaaDoor
