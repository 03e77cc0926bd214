/-
  DERIVED. GIVEN WITH THE SEED: THE CARDS: each row of YtelfinhpjokmdaaDoorRows.lean that lists a variable, with what it lists TIED to the program's text (the seventh form; the later family's looks); each row that meets fmt, with fmt's text TOLD by the authors' own Lean function (tested against real Go, not proved from fmt's source: count such statements apart). THE CARD IS WHAT COUNTS. Prove the row's statement (the work); the ties are given (YtelfinhpjokmdaaDoorTie.lean); close each card by the builder's one call (the guide's Derived/Test/ToyasCard.lean, 'card_holds'). Laid BY PROGRAM, IN A SANDBOX (cutbox-door.mjs). By AI agents, Wed Nov 11 2026. No macro, syntax, notation, axiom, sorry.
-/
import Derived.Test.YtelfinhpjokmdaaDoorRows
import GoSem.ClaimSeven
namespace Go.Proofs.YtelfinhpjokmdaaDoor
namespace Rows

/-- THE TIED CARD OF 'hasplaw10.LocksEnds'. -/
def locksEndsCard : Claim7 := { stood := { row := locksEndsRow, standIns := [], harness := (true, "f30bf0705e9c9f82c2fd6fc3c5115fa23ba975290caf070b0bc72b8f983bd8e1"), looks := false }, kinds := [], alts := [], laidByText := true, laidKinds := [.data, .data], laidTests := true, laidLooks := .later }
def LocksEndsCardSaid : Prop := Claim7.holds Tryd.pinned (.plain (OpenSpec.ofChange locksEndsSpec)) locksEndsCard

/-- THE TIED CARD OF 'hasplaw10.LocksStrong'. -/
def locksStrongCard : Claim7 := { stood := { row := locksStrongRow, standIns := [], harness := (true, "f30bf0705e9c9f82c2fd6fc3c5115fa23ba975290caf070b0bc72b8f983bd8e1"), looks := false }, kinds := [], alts := [], laidByText := true, laidKinds := [.data, .data], laidTests := true, laidLooks := .later }
def LocksStrongCardSaid : Prop := Claim7.holds Tryd.pinned (.plain (OpenSpec.ofChange locksStrongSpec)) locksStrongCard

/-- THE TIED CARD OF 'hasplaw10.LocksAgain'. -/
def locksAgainCard : Claim7 := { stood := { row := locksAgainRow, standIns := [], harness := (true, "f30bf0705e9c9f82c2fd6fc3c5115fa23ba975290caf070b0bc72b8f983bd8e1"), looks := false }, kinds := [], alts := [], laidByText := true, laidKinds := [.data, .data], laidTests := true, laidLooks := .later }
def LocksAgainCardSaid : Prop := Claim7.holds Tryd.pinned (.plain (OpenSpec.ofChange locksAgainSpec)) locksAgainCard

/-- THE SECOND FORM's CARD OF 'hasplaw10.LocksEnds'. -/
def locksEndsUptoCard : Claim7 := { stood := { row := locksEndsUptoRow, standIns := [], harness := (true, "f30bf0705e9c9f82c2fd6fc3c5115fa23ba975290caf070b0bc72b8f983bd8e1"), looks := false }, kinds := [], alts := [], laidByText := true, laidKinds := [.data, .data], laidTests := true, laidLooks := .later }
def LocksEndsUptoCardSaid : Prop := Claim7.holds Tryd.pinned (.plain (OpenSpec.upto locksEndsSpec)) locksEndsUptoCard

/-- THE SECOND FORM's CARD OF 'hasplaw10.LocksStrong'. -/
def locksStrongUptoCard : Claim7 := { stood := { row := locksStrongUptoRow, standIns := [], harness := (true, "f30bf0705e9c9f82c2fd6fc3c5115fa23ba975290caf070b0bc72b8f983bd8e1"), looks := false }, kinds := [], alts := [], laidByText := true, laidKinds := [.data, .data], laidTests := true, laidLooks := .later }
def LocksStrongUptoCardSaid : Prop := Claim7.holds Tryd.pinned (.plain (OpenSpec.upto locksStrongSpec)) locksStrongUptoCard

/-- THE SECOND FORM's CARD OF 'hasplaw10.LocksAgain'. -/
def locksAgainUptoCard : Claim7 := { stood := { row := locksAgainUptoRow, standIns := [], harness := (true, "f30bf0705e9c9f82c2fd6fc3c5115fa23ba975290caf070b0bc72b8f983bd8e1"), looks := false }, kinds := [], alts := [], laidByText := true, laidKinds := [.data, .data], laidTests := true, laidLooks := .later }
def LocksAgainUptoCardSaid : Prop := Claim7.holds Tryd.pinned (.plain (OpenSpec.upto locksAgainSpec)) locksAgainUptoCard
end Rows
end Go.Proofs.YtelfinhpjokmdaaDoor
