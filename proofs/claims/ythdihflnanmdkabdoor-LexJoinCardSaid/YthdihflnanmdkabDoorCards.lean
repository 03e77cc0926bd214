/-
  DERIVED. GIVEN WITH THE SEED: THE CARDS: each row of YthdihflnanmdkabDoorRows.lean that lists a variable, with what it lists TIED to the program's text (the seventh form; the later family's looks); each row that meets fmt, with fmt's text TOLD by the authors' own Lean function (tested against real Go, not proved from fmt's source: count such statements apart). THE CARD IS WHAT COUNTS. Prove the row's statement (the work); the ties are given (YthdihflnanmdkabDoorTie.lean); close each card by the builder's one call (the guide's Derived/Test/ToyasCard.lean, 'card_holds'). Laid BY PROGRAM, IN A SANDBOX (cutbox-door.mjs). By AI agents, Wed Nov 11 2026. No macro, syntax, notation, axiom, sorry.
-/
import Derived.Test.YthdihflnanmdkabDoorRows
import GoSem.ClaimSeven
namespace Go.Proofs.YthdihflnanmdkabDoor
namespace Rows

/-- THE TIED CARD OF 'hasplaw12.LexWords'. -/
def lexWordsCard : Claim7 := { stood := { row := lexWordsRow, standIns := [], harness := (true, "640a476590324d1fd4e75e0163876534c00cc60379f8c164c6bd722e2fe21acc"), looks := true }, kinds := [], alts := [], laidByText := true, laidKinds := [.data, .data, .data, .data, .sentinel, .sentinel, .pinned, .pinned], laidTests := true, laidLooks := .later }
def LexWordsCardSaid : Prop := Claim7.holds Tryd.pinned (.plain (OpenSpec.ofChange lexWordsSpec)) lexWordsCard

/-- THE TIED CARD OF 'hasplaw12.LexThere'. -/
def lexThereCard : Claim7 := { stood := { row := lexThereRow, standIns := [], harness := (true, "640a476590324d1fd4e75e0163876534c00cc60379f8c164c6bd722e2fe21acc"), looks := true }, kinds := [], alts := [], laidByText := true, laidKinds := [.data, .data, .data, .data, .sentinel, .sentinel, .pinned, .pinned], laidTests := true, laidLooks := .later }
def LexThereCardSaid : Prop := Claim7.holds Tryd.pinned (.plain (OpenSpec.ofChange lexThereSpec)) lexThereCard

/-- THE TIED CARD OF 'hasplaw12.LexJoin'. -/
def lexJoinCard : Claim7 := { stood := { row := lexJoinRow, standIns := [], harness := (true, "640a476590324d1fd4e75e0163876534c00cc60379f8c164c6bd722e2fe21acc"), looks := true }, kinds := [], alts := [], laidByText := true, laidKinds := [.data, .data, .data, .data, .sentinel, .sentinel, .pinned, .pinned], laidTests := true, laidLooks := .later }
def LexJoinCardSaid : Prop := Claim7.holds Tryd.pinned (.plain (OpenSpec.ofChange lexJoinSpec)) lexJoinCard

/-- THE SECOND FORM's CARD OF 'hasplaw12.LexWords'. -/
def lexWordsUptoCard : Claim7 := { stood := { row := lexWordsUptoRow, standIns := [], harness := (true, "640a476590324d1fd4e75e0163876534c00cc60379f8c164c6bd722e2fe21acc"), looks := true }, kinds := [], alts := [], laidByText := true, laidKinds := [.data, .data, .data, .data, .sentinel, .sentinel, .pinned, .pinned], laidTests := true, laidLooks := .later }
def LexWordsUptoCardSaid : Prop := Claim7.holds Tryd.pinned (.plain (OpenSpec.upto lexWordsSpec)) lexWordsUptoCard

/-- THE SECOND FORM's CARD OF 'hasplaw12.LexThere'. -/
def lexThereUptoCard : Claim7 := { stood := { row := lexThereUptoRow, standIns := [], harness := (true, "640a476590324d1fd4e75e0163876534c00cc60379f8c164c6bd722e2fe21acc"), looks := true }, kinds := [], alts := [], laidByText := true, laidKinds := [.data, .data, .data, .data, .sentinel, .sentinel, .pinned, .pinned], laidTests := true, laidLooks := .later }
def LexThereUptoCardSaid : Prop := Claim7.holds Tryd.pinned (.plain (OpenSpec.upto lexThereSpec)) lexThereUptoCard

/-- THE SECOND FORM's CARD OF 'hasplaw12.LexJoin'. -/
def lexJoinUptoCard : Claim7 := { stood := { row := lexJoinUptoRow, standIns := [], harness := (true, "640a476590324d1fd4e75e0163876534c00cc60379f8c164c6bd722e2fe21acc"), looks := true }, kinds := [], alts := [], laidByText := true, laidKinds := [.data, .data, .data, .data, .sentinel, .sentinel, .pinned, .pinned], laidTests := true, laidLooks := .later }
def LexJoinUptoCardSaid : Prop := Claim7.holds Tryd.pinned (.plain (OpenSpec.upto lexJoinSpec)) lexJoinUptoCard
end Rows
end Go.Proofs.YthdihflnanmdkabDoor
