/-
  DERIVED. GIVEN WITH THE SEED: THE CARDS: each row of YtlhipnklljjahaaDoorRows.lean that lists a variable, with what it lists TIED to the program's text (the seventh form; the later family's looks); each row that meets fmt, with fmt's text TOLD by the authors' own Lean function (tested against real Go, not proved from fmt's source: count such statements apart). THE CARD IS WHAT COUNTS. Prove the row's statement (the work); the ties are given (YtlhipnklljjahaaDoorTie.lean); close each card by the builder's one call (the guide's Derived/Test/ToyasCard.lean, 'card_holds'). Laid BY PROGRAM, IN A SANDBOX (cutbox-door.mjs). By AI agents, Wed Nov 11 2026. No macro, syntax, notation, axiom, sorry.
-/
import Derived.Test.YtlhipnklljjahaaDoorRows
import GoSem.ClaimSeven
namespace Go.Proofs.YtlhipnklljjahaaDoor
namespace Rows

/-- THE TIED CARD OF 'hasplaw12.LexThere'. -/
def lexThereCard : Claim7 := { stood := { row := lexThereRow, standIns := [], harness := (true, "dd5c1e37d0feaa8f07efd33bae960cdaa4422ac0f94ade89313e460883064907"), looks := true }, kinds := [], alts := [], laidByText := true, laidKinds := [.data, .data, .data, .data, .sentinel, .sentinel, .pinned, .pinned], laidTests := true, laidLooks := .later }
def LexThereCardSaid : Prop := Claim7.holds Tryd.pinned (.plain (OpenSpec.ofChange lexThereSpec)) lexThereCard

/-- THE SECOND FORM's CARD OF 'hasplaw12.LexThere'. -/
def lexThereUptoCard : Claim7 := { stood := { row := lexThereUptoRow, standIns := [], harness := (true, "dd5c1e37d0feaa8f07efd33bae960cdaa4422ac0f94ade89313e460883064907"), looks := true }, kinds := [], alts := [], laidByText := true, laidKinds := [.data, .data, .data, .data, .sentinel, .sentinel, .pinned, .pinned], laidTests := true, laidLooks := .later }
def LexThereUptoCardSaid : Prop := Claim7.holds Tryd.pinned (.plain (OpenSpec.upto lexThereSpec)) lexThereUptoCard
end Rows
end Go.Proofs.YtlhipnklljjahaaDoor
