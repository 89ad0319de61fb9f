/-
  DERIVED. GIVEN WITH THE SEED: THE CARDS: each row of YtlindkhmjkionaaDoorRows.lean that lists a variable, with what it lists TIED to the program's text (the seventh form; the later family's looks); each row that meets fmt, with fmt's text TOLD by the authors' own Lean function (tested against real Go, not proved from fmt's source: count such statements apart). THE CARD IS WHAT COUNTS. Prove the row's statement (the work); the ties are given (YtlindkhmjkionaaDoorTie.lean); close each card by the builder's one call (the guide's Derived/Test/ToyasCard.lean, 'card_holds'). Laid BY PROGRAM, IN A SANDBOX (cutbox-door.mjs). By AI agents, Wed Nov 11 2026. No macro, syntax, notation, axiom, sorry.
-/
import Derived.Test.YtlindkhmjkionaaDoorRows
import GoSem.ClaimSeven
namespace Go.Proofs.YtlindkhmjkionaaDoor
namespace Rows

/-- THE TIED CARD OF 'corrallaw17.CachePlays'. -/
def cachePlaysCard : Claim7 := { stood := { row := cachePlaysRow, standIns := [], harness := (true, "05c624d8b12147201c6854d77489c34458e4fe2dac7b13417178e4dcf798c484"), looks := true }, kinds := [], alts := [], laidByText := true, laidKinds := [.sentinel, .sentinel, .sentinel, .sentinel, .sentinel, .sentinel, .sentinel, .sentinel, .sentinel, .sentinel, .sentinel], laidTests := true, laidLooks := .later }
def CachePlaysCardSaid : Prop := Claim7.holds Tryd.pinned (.plain (OpenSpec.ofChange cachePlaysSpec)) cachePlaysCard

/-- THE TIED CARD OF 'corrallaw17.CacheOld'. -/
def cacheOldCard : Claim7 := { stood := { row := cacheOldRow, standIns := [], harness := (true, "05c624d8b12147201c6854d77489c34458e4fe2dac7b13417178e4dcf798c484"), looks := true }, kinds := [], alts := [], laidByText := true, laidKinds := [.sentinel, .sentinel, .sentinel, .sentinel, .sentinel, .sentinel, .sentinel, .sentinel, .sentinel, .sentinel, .sentinel], laidTests := true, laidLooks := .later }
def CacheOldCardSaid : Prop := Claim7.holds Tryd.pinned (.plain (OpenSpec.ofChange cacheOldSpec)) cacheOldCard

/-- THE TIED CARD OF 'corrallaw17.CacheSets'. -/
def cacheSetsCard : Claim7 := { stood := { row := cacheSetsRow, standIns := [], harness := (true, "05c624d8b12147201c6854d77489c34458e4fe2dac7b13417178e4dcf798c484"), looks := true }, kinds := [], alts := [], laidByText := true, laidKinds := [.sentinel, .sentinel, .sentinel, .sentinel, .sentinel, .sentinel, .sentinel, .sentinel, .sentinel, .sentinel, .sentinel], laidTests := true, laidLooks := .later }
def CacheSetsCardSaid : Prop := Claim7.holds Tryd.pinned (.plain (OpenSpec.ofChange cacheSetsSpec)) cacheSetsCard

/-- THE SECOND FORM's CARD OF 'corrallaw17.CachePlays'. -/
def cachePlaysUptoCard : Claim7 := { stood := { row := cachePlaysUptoRow, standIns := [], harness := (true, "05c624d8b12147201c6854d77489c34458e4fe2dac7b13417178e4dcf798c484"), looks := true }, kinds := [], alts := [], laidByText := true, laidKinds := [.sentinel, .sentinel, .sentinel, .sentinel, .sentinel, .sentinel, .sentinel, .sentinel, .sentinel, .sentinel, .sentinel], laidTests := true, laidLooks := .later }
def CachePlaysUptoCardSaid : Prop := Claim7.holds Tryd.pinned (.plain (OpenSpec.upto cachePlaysSpec)) cachePlaysUptoCard

/-- THE SECOND FORM's CARD OF 'corrallaw17.CacheOld'. -/
def cacheOldUptoCard : Claim7 := { stood := { row := cacheOldUptoRow, standIns := [], harness := (true, "05c624d8b12147201c6854d77489c34458e4fe2dac7b13417178e4dcf798c484"), looks := true }, kinds := [], alts := [], laidByText := true, laidKinds := [.sentinel, .sentinel, .sentinel, .sentinel, .sentinel, .sentinel, .sentinel, .sentinel, .sentinel, .sentinel, .sentinel], laidTests := true, laidLooks := .later }
def CacheOldUptoCardSaid : Prop := Claim7.holds Tryd.pinned (.plain (OpenSpec.upto cacheOldSpec)) cacheOldUptoCard

/-- THE SECOND FORM's CARD OF 'corrallaw17.CacheSets'. -/
def cacheSetsUptoCard : Claim7 := { stood := { row := cacheSetsUptoRow, standIns := [], harness := (true, "05c624d8b12147201c6854d77489c34458e4fe2dac7b13417178e4dcf798c484"), looks := true }, kinds := [], alts := [], laidByText := true, laidKinds := [.sentinel, .sentinel, .sentinel, .sentinel, .sentinel, .sentinel, .sentinel, .sentinel, .sentinel, .sentinel, .sentinel], laidTests := true, laidLooks := .later }
def CacheSetsUptoCardSaid : Prop := Claim7.holds Tryd.pinned (.plain (OpenSpec.upto cacheSetsSpec)) cacheSetsUptoCard
end Rows
end Go.Proofs.YtlindkhmjkionaaDoor
