/-
  DERIVED. GIVEN WITH THE SEED: THE CARDS: each row of YtncganfjbalkgabDoorRows.lean that lists a variable, with what it lists TIED to the program's text (the seventh form; the later family's looks); each row that meets fmt, with fmt's text TOLD by the authors' own Lean function (tested against real Go, not proved from fmt's source: count such statements apart). THE CARD IS WHAT COUNTS. Prove the row's statement (the work); the ties are given (YtncganfjbalkgabDoorTie.lean); close each card by the builder's one call (the guide's Derived/Test/ToyasCard.lean, 'card_holds'). Laid BY PROGRAM, IN A SANDBOX (cutbox-door.mjs). By AI agents, Wed Nov 11 2026. No macro, syntax, notation, axiom, sorry.
-/
import Derived.Test.YtncganfjbalkgabDoorRows
import GoSem.ClaimSeven
namespace Go.Proofs.YtncganfjbalkgabDoor
namespace Rows

/-- THE TIED CARD OF 'hasplaw08.HeapOnce'. -/
def heapOnceCard : Claim7 := { stood := { row := heapOnceRow, standIns := [], harness := (true, "038b1e048027cb347a01f7e7db37b1ab67446c352692d2e5d742045e7061a471"), looks := false }, kinds := [], alts := [], laidByText := true, laidKinds := [.data], laidTests := true, laidLooks := .later }
def HeapOnceCardSaid : Prop := Claim7.holds Tryd.pinned (.plain (OpenSpec.ofChange heapOnceSpec)) heapOnceCard

/-- THE TIED CARD OF 'hasplaw08.HeapBacks'. -/
def heapBacksCard : Claim7 := { stood := { row := heapBacksRow, standIns := [], harness := (true, "038b1e048027cb347a01f7e7db37b1ab67446c352692d2e5d742045e7061a471"), looks := false }, kinds := [], alts := [], laidByText := true, laidKinds := [.data], laidTests := true, laidLooks := .later }
def HeapBacksCardSaid : Prop := Claim7.holds Tryd.pinned (.plain (OpenSpec.ofChange heapBacksSpec)) heapBacksCard

/-- THE TIED CARD OF 'hasplaw09.ModesNames'. -/
def modesNamesCard : Claim7 := { stood := { row := modesNamesRow, standIns := [], harness := (true, "038b1e048027cb347a01f7e7db37b1ab67446c352692d2e5d742045e7061a471"), looks := false }, kinds := [], alts := [], laidByText := true, laidKinds := [.data, .data], laidTests := true, laidLooks := .later }
def ModesNamesCardSaid : Prop := Claim7.holds Tryd.pinned (.plain (OpenSpec.ofChange modesNamesSpec)) modesNamesCard

/-- THE TIED CARD OF 'hasplaw09.ModesTables'. -/
def modesTablesCard : Claim7 := { stood := { row := modesTablesRow, standIns := [], harness := (true, "038b1e048027cb347a01f7e7db37b1ab67446c352692d2e5d742045e7061a471"), looks := false }, kinds := [], alts := [], laidByText := true, laidKinds := [.data, .data], laidTests := true, laidLooks := .later }
def ModesTablesCardSaid : Prop := Claim7.holds Tryd.pinned (.plain (OpenSpec.ofChange modesTablesSpec)) modesTablesCard

/-- THE TIED CARD OF 'hasplaw09.ModesLaws'. -/
def modesLawsCard : Claim7 := { stood := { row := modesLawsRow, standIns := [], harness := (true, "038b1e048027cb347a01f7e7db37b1ab67446c352692d2e5d742045e7061a471"), looks := false }, kinds := [], alts := [], laidByText := true, laidKinds := [.data, .data], laidTests := true, laidLooks := .later }
def ModesLawsCardSaid : Prop := Claim7.holds Tryd.pinned (.plain (OpenSpec.ofChange modesLawsSpec)) modesLawsCard

/-- THE SECOND FORM's CARD OF 'hasplaw08.HeapOnce'. -/
def heapOnceUptoCard : Claim7 := { stood := { row := heapOnceUptoRow, standIns := [], harness := (true, "038b1e048027cb347a01f7e7db37b1ab67446c352692d2e5d742045e7061a471"), looks := false }, kinds := [], alts := [], laidByText := true, laidKinds := [.data], laidTests := true, laidLooks := .later }
def HeapOnceUptoCardSaid : Prop := Claim7.holds Tryd.pinned (.plain (OpenSpec.upto heapOnceSpec)) heapOnceUptoCard

/-- THE SECOND FORM's CARD OF 'hasplaw08.HeapBacks'. -/
def heapBacksUptoCard : Claim7 := { stood := { row := heapBacksUptoRow, standIns := [], harness := (true, "038b1e048027cb347a01f7e7db37b1ab67446c352692d2e5d742045e7061a471"), looks := false }, kinds := [], alts := [], laidByText := true, laidKinds := [.data], laidTests := true, laidLooks := .later }
def HeapBacksUptoCardSaid : Prop := Claim7.holds Tryd.pinned (.plain (OpenSpec.upto heapBacksSpec)) heapBacksUptoCard

/-- THE SECOND FORM's CARD OF 'hasplaw09.ModesNames'. -/
def modesNamesUptoCard : Claim7 := { stood := { row := modesNamesUptoRow, standIns := [], harness := (true, "038b1e048027cb347a01f7e7db37b1ab67446c352692d2e5d742045e7061a471"), looks := false }, kinds := [], alts := [], laidByText := true, laidKinds := [.data, .data], laidTests := true, laidLooks := .later }
def ModesNamesUptoCardSaid : Prop := Claim7.holds Tryd.pinned (.plain (OpenSpec.upto modesNamesSpec)) modesNamesUptoCard

/-- THE SECOND FORM's CARD OF 'hasplaw09.ModesTables'. -/
def modesTablesUptoCard : Claim7 := { stood := { row := modesTablesUptoRow, standIns := [], harness := (true, "038b1e048027cb347a01f7e7db37b1ab67446c352692d2e5d742045e7061a471"), looks := false }, kinds := [], alts := [], laidByText := true, laidKinds := [.data, .data], laidTests := true, laidLooks := .later }
def ModesTablesUptoCardSaid : Prop := Claim7.holds Tryd.pinned (.plain (OpenSpec.upto modesTablesSpec)) modesTablesUptoCard

/-- THE SECOND FORM's CARD OF 'hasplaw09.ModesLaws'. -/
def modesLawsUptoCard : Claim7 := { stood := { row := modesLawsUptoRow, standIns := [], harness := (true, "038b1e048027cb347a01f7e7db37b1ab67446c352692d2e5d742045e7061a471"), looks := false }, kinds := [], alts := [], laidByText := true, laidKinds := [.data, .data], laidTests := true, laidLooks := .later }
def ModesLawsUptoCardSaid : Prop := Claim7.holds Tryd.pinned (.plain (OpenSpec.upto modesLawsSpec)) modesLawsUptoCard
end Rows
end Go.Proofs.YtncganfjbalkgabDoor
