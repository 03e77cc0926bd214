/-
  DERIVED. GIVEN WITH THE SEED: THE CARDS: each row of YtgndbhgpdcelpaaDoorRows.lean that lists a variable, with what it lists TIED to the program's text (the seventh form; the later family's looks); each row that meets fmt, with fmt's text TOLD by the authors' own Lean function (tested against real Go, not proved from fmt's source: count such statements apart). THE CARD IS WHAT COUNTS. Prove the row's statement (the work); the ties are given (YtgndbhgpdcelpaaDoorTie.lean); close each card by the builder's one call (the guide's Derived/Test/ToyasCard.lean, 'card_holds'). Laid BY PROGRAM, IN A SANDBOX (cutbox-door.mjs). By AI agents, Wed Nov 11 2026. No macro, syntax, notation, axiom, sorry.
-/
import Derived.Test.YtgndbhgpdcelpaaDoorRows
import GoSem.ClaimSeven
namespace Go.Proofs.YtgndbhgpdcelpaaDoor
namespace Rows

/-- THE TIED CARD OF 'hasplaw22.CoverNames'. -/
def coverNamesCard : Claim7 := { stood := { row := coverNamesRow, standIns := [], harness := (true, "760bd33ea247721d835a7462e79c146a2eac94b36ccc484479a63df71c51b453"), looks := false }, kinds := [], alts := [], laidByText := true, laidKinds := [.data], laidTests := true, laidLooks := .later }
def CoverNamesCardSaid : Prop := Claim7.holds Tryd.pinned (.plain (OpenSpec.ofChange coverNamesSpec)) coverNamesCard

/-- THE TIED CARD OF 'hasplaw22.CoverChecks'. -/
def coverChecksCard : Claim7 := { stood := { row := coverChecksRow, standIns := [], harness := (true, "760bd33ea247721d835a7462e79c146a2eac94b36ccc484479a63df71c51b453"), looks := false }, kinds := [], alts := [], laidByText := true, laidKinds := [.data], laidTests := true, laidLooks := .later }
def CoverChecksCardSaid : Prop := Claim7.holds Tryd.pinned (.plain (OpenSpec.ofChange coverChecksSpec)) coverChecksCard

/-- THE TIED CARD OF 'hasplaw22.CoverStronger'. -/
def coverStrongerCard : Claim7 := { stood := { row := coverStrongerRow, standIns := [], harness := (true, "760bd33ea247721d835a7462e79c146a2eac94b36ccc484479a63df71c51b453"), looks := false }, kinds := [], alts := [], laidByText := true, laidKinds := [.data], laidTests := true, laidLooks := .later }
def CoverStrongerCardSaid : Prop := Claim7.holds Tryd.pinned (.plain (OpenSpec.ofChange coverStrongerSpec)) coverStrongerCard

/-- THE TIED CARD OF 'hasplaw22.CoverBare'. -/
def coverBareCard : Claim7 := { stood := { row := coverBareRow, standIns := [], harness := (true, "760bd33ea247721d835a7462e79c146a2eac94b36ccc484479a63df71c51b453"), looks := false }, kinds := [], alts := [], laidByText := true, laidKinds := [.data], laidTests := true, laidLooks := .later }
def CoverBareCardSaid : Prop := Claim7.holds Tryd.pinned (.plain (OpenSpec.ofChange coverBareSpec)) coverBareCard

/-- THE SECOND FORM's CARD OF 'hasplaw22.CoverNames'. -/
def coverNamesUptoCard : Claim7 := { stood := { row := coverNamesUptoRow, standIns := [], harness := (true, "760bd33ea247721d835a7462e79c146a2eac94b36ccc484479a63df71c51b453"), looks := false }, kinds := [], alts := [], laidByText := true, laidKinds := [.data], laidTests := true, laidLooks := .later }
def CoverNamesUptoCardSaid : Prop := Claim7.holds Tryd.pinned (.plain (OpenSpec.upto coverNamesSpec)) coverNamesUptoCard

/-- THE SECOND FORM's CARD OF 'hasplaw22.CoverChecks'. -/
def coverChecksUptoCard : Claim7 := { stood := { row := coverChecksUptoRow, standIns := [], harness := (true, "760bd33ea247721d835a7462e79c146a2eac94b36ccc484479a63df71c51b453"), looks := false }, kinds := [], alts := [], laidByText := true, laidKinds := [.data], laidTests := true, laidLooks := .later }
def CoverChecksUptoCardSaid : Prop := Claim7.holds Tryd.pinned (.plain (OpenSpec.upto coverChecksSpec)) coverChecksUptoCard

/-- THE SECOND FORM's CARD OF 'hasplaw22.CoverStronger'. -/
def coverStrongerUptoCard : Claim7 := { stood := { row := coverStrongerUptoRow, standIns := [], harness := (true, "760bd33ea247721d835a7462e79c146a2eac94b36ccc484479a63df71c51b453"), looks := false }, kinds := [], alts := [], laidByText := true, laidKinds := [.data], laidTests := true, laidLooks := .later }
def CoverStrongerUptoCardSaid : Prop := Claim7.holds Tryd.pinned (.plain (OpenSpec.upto coverStrongerSpec)) coverStrongerUptoCard

/-- THE SECOND FORM's CARD OF 'hasplaw22.CoverBare'. -/
def coverBareUptoCard : Claim7 := { stood := { row := coverBareUptoRow, standIns := [], harness := (true, "760bd33ea247721d835a7462e79c146a2eac94b36ccc484479a63df71c51b453"), looks := false }, kinds := [], alts := [], laidByText := true, laidKinds := [.data], laidTests := true, laidLooks := .later }
def CoverBareUptoCardSaid : Prop := Claim7.holds Tryd.pinned (.plain (OpenSpec.upto coverBareSpec)) coverBareUptoCard
end Rows
end Go.Proofs.YtgndbhgpdcelpaaDoor
