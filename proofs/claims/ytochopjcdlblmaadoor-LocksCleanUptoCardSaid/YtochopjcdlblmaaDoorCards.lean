/-
  DERIVED. GIVEN WITH THE SEED: THE CARDS: each row of YtochopjcdlblmaaDoorRows.lean that lists a variable, with what it lists TIED to the program's text (the seventh form; the later family's looks); each row that meets fmt, with fmt's text TOLD by the authors' own Lean function (tested against real Go, not proved from fmt's source: count such statements apart). THE CARD IS WHAT COUNTS. Prove the row's statement (the work); the ties are given (YtochopjcdlblmaaDoorTie.lean); close each card by the builder's one call (the guide's Derived/Test/ToyasCard.lean, 'card_holds'). Laid BY PROGRAM, IN A SANDBOX (cutbox-door.mjs). By AI agents, Wed Nov 11 2026. No macro, syntax, notation, axiom, sorry.
-/
import Derived.Test.YtochopjcdlblmaaDoorRows
import GoSem.ClaimSeven
namespace Go.Proofs.YtochopjcdlblmaaDoor
namespace Rows

/-- THE TIED CARD OF 'hasplaw10.LocksClean'. -/
def locksCleanCard : Claim7 := { stood := { row := locksCleanRow, standIns := [], harness := (true, "cedabc03db488b6fbb4e470f0a9c7d88e39540af44d672c1a11536544c9b14a3"), looks := false }, kinds := [], alts := [], laidByText := true, laidKinds := [.data, .data], laidTests := true, laidLooks := .later }
def LocksCleanCardSaid : Prop := Claim7.holds Tryd.pinned (.plain (OpenSpec.ofChange locksCleanSpec)) locksCleanCard

/-- THE TIED CARD OF 'hasplaw10.LocksEnds'. -/
def locksEndsCard : Claim7 := { stood := { row := locksEndsRow, standIns := [], harness := (true, "cedabc03db488b6fbb4e470f0a9c7d88e39540af44d672c1a11536544c9b14a3"), looks := false }, kinds := [], alts := [], laidByText := true, laidKinds := [.data, .data], laidTests := true, laidLooks := .later }
def LocksEndsCardSaid : Prop := Claim7.holds Tryd.pinned (.plain (OpenSpec.ofChange locksEndsSpec)) locksEndsCard

/-- THE TIED CARD OF 'hasplaw10.LocksStrong'. -/
def locksStrongCard : Claim7 := { stood := { row := locksStrongRow, standIns := [], harness := (true, "cedabc03db488b6fbb4e470f0a9c7d88e39540af44d672c1a11536544c9b14a3"), looks := false }, kinds := [], alts := [], laidByText := true, laidKinds := [.data, .data], laidTests := true, laidLooks := .later }
def LocksStrongCardSaid : Prop := Claim7.holds Tryd.pinned (.plain (OpenSpec.ofChange locksStrongSpec)) locksStrongCard

/-- THE TIED CARD OF 'hasplaw10.LocksAgain'. -/
def locksAgainCard : Claim7 := { stood := { row := locksAgainRow, standIns := [], harness := (true, "cedabc03db488b6fbb4e470f0a9c7d88e39540af44d672c1a11536544c9b14a3"), looks := false }, kinds := [], alts := [], laidByText := true, laidKinds := [.data, .data], laidTests := true, laidLooks := .later }
def LocksAgainCardSaid : Prop := Claim7.holds Tryd.pinned (.plain (OpenSpec.ofChange locksAgainSpec)) locksAgainCard

/-- THE TIED CARD OF 'hasplaw10.LocksRow'. -/
def locksRowCard : Claim7 := { stood := { row := locksRowRow, standIns := [], harness := (true, "cedabc03db488b6fbb4e470f0a9c7d88e39540af44d672c1a11536544c9b14a3"), looks := false }, kinds := [], alts := [], laidByText := true, laidKinds := [.data, .data], laidTests := true, laidLooks := .later }
def LocksRowCardSaid : Prop := Claim7.holds Tryd.pinned (.plain (OpenSpec.ofChange locksRowSpec)) locksRowCard

/-- THE SECOND FORM's CARD OF 'hasplaw10.LocksClean'. -/
def locksCleanUptoCard : Claim7 := { stood := { row := locksCleanUptoRow, standIns := [], harness := (true, "cedabc03db488b6fbb4e470f0a9c7d88e39540af44d672c1a11536544c9b14a3"), looks := false }, kinds := [], alts := [], laidByText := true, laidKinds := [.data, .data], laidTests := true, laidLooks := .later }
def LocksCleanUptoCardSaid : Prop := Claim7.holds Tryd.pinned (.plain (OpenSpec.upto locksCleanSpec)) locksCleanUptoCard

/-- THE SECOND FORM's CARD OF 'hasplaw10.LocksEnds'. -/
def locksEndsUptoCard : Claim7 := { stood := { row := locksEndsUptoRow, standIns := [], harness := (true, "cedabc03db488b6fbb4e470f0a9c7d88e39540af44d672c1a11536544c9b14a3"), looks := false }, kinds := [], alts := [], laidByText := true, laidKinds := [.data, .data], laidTests := true, laidLooks := .later }
def LocksEndsUptoCardSaid : Prop := Claim7.holds Tryd.pinned (.plain (OpenSpec.upto locksEndsSpec)) locksEndsUptoCard

/-- THE SECOND FORM's CARD OF 'hasplaw10.LocksStrong'. -/
def locksStrongUptoCard : Claim7 := { stood := { row := locksStrongUptoRow, standIns := [], harness := (true, "cedabc03db488b6fbb4e470f0a9c7d88e39540af44d672c1a11536544c9b14a3"), looks := false }, kinds := [], alts := [], laidByText := true, laidKinds := [.data, .data], laidTests := true, laidLooks := .later }
def LocksStrongUptoCardSaid : Prop := Claim7.holds Tryd.pinned (.plain (OpenSpec.upto locksStrongSpec)) locksStrongUptoCard

/-- THE SECOND FORM's CARD OF 'hasplaw10.LocksAgain'. -/
def locksAgainUptoCard : Claim7 := { stood := { row := locksAgainUptoRow, standIns := [], harness := (true, "cedabc03db488b6fbb4e470f0a9c7d88e39540af44d672c1a11536544c9b14a3"), looks := false }, kinds := [], alts := [], laidByText := true, laidKinds := [.data, .data], laidTests := true, laidLooks := .later }
def LocksAgainUptoCardSaid : Prop := Claim7.holds Tryd.pinned (.plain (OpenSpec.upto locksAgainSpec)) locksAgainUptoCard

/-- THE SECOND FORM's CARD OF 'hasplaw10.LocksRow'. -/
def locksRowUptoCard : Claim7 := { stood := { row := locksRowUptoRow, standIns := [], harness := (true, "cedabc03db488b6fbb4e470f0a9c7d88e39540af44d672c1a11536544c9b14a3"), looks := false }, kinds := [], alts := [], laidByText := true, laidKinds := [.data, .data], laidTests := true, laidLooks := .later }
def LocksRowUptoCardSaid : Prop := Claim7.holds Tryd.pinned (.plain (OpenSpec.upto locksRowSpec)) locksRowUptoCard
end Rows
end Go.Proofs.YtochopjcdlblmaaDoor
