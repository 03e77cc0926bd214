/-
  DERIVED. GIVEN WITH THE SEED: THE CARDS: each row of YtmmchhlfbhbigaaDoorRows.lean that lists a variable, with what it lists TIED to the program's text (the seventh form; the later family's looks); each row that meets fmt, with fmt's text TOLD by the authors' own Lean function (tested against real Go, not proved from fmt's source: count such statements apart). THE CARD IS WHAT COUNTS. Prove the row's statement (the work); the ties are given (YtmmchhlfbhbigaaDoorTie.lean); close each card by the builder's one call (the guide's Derived/Test/ToyasCard.lean, 'card_holds'). Laid BY PROGRAM, IN A SANDBOX (cutbox-door.mjs). By AI agents, Wed Nov 11 2026. No macro, syntax, notation, axiom, sorry.
-/
import Derived.Test.YtmmchhlfbhbigaaDoorRows
import GoSem.ClaimSeven
namespace Go.Proofs.YtmmchhlfbhbigaaDoor
namespace Rows

/-- THE TIED CARD OF 'hasplaw08.HeapPlays'. -/
def heapPlaysCard : Claim7 := { stood := { row := heapPlaysRow, standIns := [], harness := (true, "52ba2ab30cec5ee32ba4894e5e71552ab2599b028f0e9fbdcbe5897cc315d9ee"), looks := false }, kinds := [], alts := [], laidByText := true, laidKinds := [.data], laidTests := true, laidLooks := .later }
def HeapPlaysCardSaid : Prop := Claim7.holds Tryd.pinned (.plain (OpenSpec.ofChange heapPlaysSpec)) heapPlaysCard

/-- THE TIED CARD OF 'hasplaw08.HeapWalks'. -/
def heapWalksCard : Claim7 := { stood := { row := heapWalksRow, standIns := [], harness := (true, "52ba2ab30cec5ee32ba4894e5e71552ab2599b028f0e9fbdcbe5897cc315d9ee"), looks := false }, kinds := [], alts := [], laidByText := true, laidKinds := [.data], laidTests := true, laidLooks := .later }
def HeapWalksCardSaid : Prop := Claim7.holds Tryd.pinned (.plain (OpenSpec.ofChange heapWalksSpec)) heapWalksCard

/-- THE TIED CARD OF 'hasplaw08.HeapOnce'. -/
def heapOnceCard : Claim7 := { stood := { row := heapOnceRow, standIns := [], harness := (true, "52ba2ab30cec5ee32ba4894e5e71552ab2599b028f0e9fbdcbe5897cc315d9ee"), looks := false }, kinds := [], alts := [], laidByText := true, laidKinds := [.data], laidTests := true, laidLooks := .later }
def HeapOnceCardSaid : Prop := Claim7.holds Tryd.pinned (.plain (OpenSpec.ofChange heapOnceSpec)) heapOnceCard

/-- THE TIED CARD OF 'hasplaw08.HeapBacks'. -/
def heapBacksCard : Claim7 := { stood := { row := heapBacksRow, standIns := [], harness := (true, "52ba2ab30cec5ee32ba4894e5e71552ab2599b028f0e9fbdcbe5897cc315d9ee"), looks := false }, kinds := [], alts := [], laidByText := true, laidKinds := [.data], laidTests := true, laidLooks := .later }
def HeapBacksCardSaid : Prop := Claim7.holds Tryd.pinned (.plain (OpenSpec.ofChange heapBacksSpec)) heapBacksCard

/-- THE TIED CARD OF 'hasplaw10.LocksClean'. -/
def locksCleanCard : Claim7 := { stood := { row := locksCleanRow, standIns := [], harness := (true, "52ba2ab30cec5ee32ba4894e5e71552ab2599b028f0e9fbdcbe5897cc315d9ee"), looks := false }, kinds := [], alts := [], laidByText := true, laidKinds := [.data, .data], laidTests := true, laidLooks := .later }
def LocksCleanCardSaid : Prop := Claim7.holds Tryd.pinned (.plain (OpenSpec.ofChange locksCleanSpec)) locksCleanCard

/-- THE SECOND FORM's CARD OF 'hasplaw08.HeapPlays'. -/
def heapPlaysUptoCard : Claim7 := { stood := { row := heapPlaysUptoRow, standIns := [], harness := (true, "52ba2ab30cec5ee32ba4894e5e71552ab2599b028f0e9fbdcbe5897cc315d9ee"), looks := false }, kinds := [], alts := [], laidByText := true, laidKinds := [.data], laidTests := true, laidLooks := .later }
def HeapPlaysUptoCardSaid : Prop := Claim7.holds Tryd.pinned (.plain (OpenSpec.upto heapPlaysSpec)) heapPlaysUptoCard

/-- THE SECOND FORM's CARD OF 'hasplaw08.HeapWalks'. -/
def heapWalksUptoCard : Claim7 := { stood := { row := heapWalksUptoRow, standIns := [], harness := (true, "52ba2ab30cec5ee32ba4894e5e71552ab2599b028f0e9fbdcbe5897cc315d9ee"), looks := false }, kinds := [], alts := [], laidByText := true, laidKinds := [.data], laidTests := true, laidLooks := .later }
def HeapWalksUptoCardSaid : Prop := Claim7.holds Tryd.pinned (.plain (OpenSpec.upto heapWalksSpec)) heapWalksUptoCard

/-- THE SECOND FORM's CARD OF 'hasplaw08.HeapOnce'. -/
def heapOnceUptoCard : Claim7 := { stood := { row := heapOnceUptoRow, standIns := [], harness := (true, "52ba2ab30cec5ee32ba4894e5e71552ab2599b028f0e9fbdcbe5897cc315d9ee"), looks := false }, kinds := [], alts := [], laidByText := true, laidKinds := [.data], laidTests := true, laidLooks := .later }
def HeapOnceUptoCardSaid : Prop := Claim7.holds Tryd.pinned (.plain (OpenSpec.upto heapOnceSpec)) heapOnceUptoCard

/-- THE SECOND FORM's CARD OF 'hasplaw08.HeapBacks'. -/
def heapBacksUptoCard : Claim7 := { stood := { row := heapBacksUptoRow, standIns := [], harness := (true, "52ba2ab30cec5ee32ba4894e5e71552ab2599b028f0e9fbdcbe5897cc315d9ee"), looks := false }, kinds := [], alts := [], laidByText := true, laidKinds := [.data], laidTests := true, laidLooks := .later }
def HeapBacksUptoCardSaid : Prop := Claim7.holds Tryd.pinned (.plain (OpenSpec.upto heapBacksSpec)) heapBacksUptoCard

/-- THE SECOND FORM's CARD OF 'hasplaw10.LocksClean'. -/
def locksCleanUptoCard : Claim7 := { stood := { row := locksCleanUptoRow, standIns := [], harness := (true, "52ba2ab30cec5ee32ba4894e5e71552ab2599b028f0e9fbdcbe5897cc315d9ee"), looks := false }, kinds := [], alts := [], laidByText := true, laidKinds := [.data, .data], laidTests := true, laidLooks := .later }
def LocksCleanUptoCardSaid : Prop := Claim7.holds Tryd.pinned (.plain (OpenSpec.upto locksCleanSpec)) locksCleanUptoCard
end Rows
end Go.Proofs.YtmmchhlfbhbigaaDoor
