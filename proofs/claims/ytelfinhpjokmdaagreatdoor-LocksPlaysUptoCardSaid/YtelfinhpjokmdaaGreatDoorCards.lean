/-
  DERIVED. GIVEN WITH THE SEED: THE CARDS: each row of YtelfinhpjokmdaaGreatDoorRows.lean that lists a variable, with what it lists TIED to the program's text (the seventh form; the later family's looks); each row that meets fmt, with fmt's text TOLD by the authors' own Lean function (tested against real Go, not proved from fmt's source: count such statements apart). THE CARD IS WHAT COUNTS. Prove the row's statement (the work); the ties are given (YtelfinhpjokmdaaGreatDoorTie.lean); close each card by the builder's one call (the guide's Derived/Test/ToyasCard.lean, 'card_holds'). Laid BY PROGRAM, IN A SANDBOX (cutbox-door.mjs). By AI agents, Wed Nov 11 2026. No macro, syntax, notation, axiom, sorry.
-/
import Derived.Test.YtelfinhpjokmdaaGreatDoorRows
import GoSem.ClaimSeven
namespace Go.Proofs.YtelfinhpjokmdaaGreatDoor
namespace Rows

/-- THE TIED CARD OF 'hasplaw10.LocksPlays'. -/
def locksPlaysCard : Claim7 := { stood := { row := locksPlaysRow, standIns := [], harness := (true, "30e232167fa8cd6389bb859405683c06b98518cf5b2e88280566aa92145a0a62"), looks := false }, kinds := [], alts := [], laidByText := true, laidKinds := [.data, .data], laidTests := true, laidLooks := .later }
def LocksPlaysCardSaid : Prop := Claim7.holds Tryz.pinned (.plain (OpenSpec.ofChange locksPlaysSpec)) locksPlaysCard

/-- THE SECOND FORM's CARD OF 'hasplaw10.LocksPlays'. -/
def locksPlaysUptoCard : Claim7 := { stood := { row := locksPlaysUptoRow, standIns := [], harness := (true, "30e232167fa8cd6389bb859405683c06b98518cf5b2e88280566aa92145a0a62"), looks := false }, kinds := [], alts := [], laidByText := true, laidKinds := [.data, .data], laidTests := true, laidLooks := .later }
def LocksPlaysUptoCardSaid : Prop := Claim7.holds Tryz.pinned (.plain (OpenSpec.upto locksPlaysSpec)) locksPlaysUptoCard
end Rows
end Go.Proofs.YtelfinhpjokmdaaGreatDoor
