/-
  NARROWER THAN 'FOR EVERY INPUT', by the rows' own cells (each row's printed sentence says how): LocksEnds: laid · LocksStrong: laid · LocksAgain: laid.
  DERIVED. THE GIVEN ROWS OF THIS SEAT. 3 by the template 'for every input the law returns true; each argument reads behind the call as it read before'; 0 by the template 'total and deterministic' (their statements: YtelfinhpjokmdaaDoorTotals.lean).
  GIVEN WITH THE SEED: the statements are not yours to turn. If you find one false, say at which input.
  Laid BY PROGRAM, IN A SANDBOX (cutbox-rows.mjs): the forced cells as the released guide's own fill.sh prints them over the translation 1f719a73db4baffc… (all of the seat's roots in one cut). By AI agents, Wed Nov 11 2026. No macro, syntax, notation, axiom, sorry.
-/
import Derived.Test.YtelfinhpjokmdaaDoorChecked
import GoSem.Claim
import GoSem.ClaimJoined
import GoSem.ClaimMapViews
import Derived.JoinedTies
import Derived.KernelRfl
namespace Go.Proofs.YtelfinhpjokmdaaDoor
/- THE CELL 'sum', in the pinned program and in every row, IS THE sha256 OF THE DUMP (.gsa) THAT YtelfinhpjokmdaaDoorProg.lean LOADS. Nothing in Lean hashes anything: it is a label: what it is worth is what the hold of that sum in a sandbox is worth. -/
noncomputable def Tryd.pinned : Pinned := { name := "ytelfinhpjokmdaadoor", sum := "1f719a73db4baffc7a710a7113bdda2a02d7f21e57a985857563324c05ccb149", checked := Tryd.checked }
namespace Rows
def none {H : Type} : Left H := { results := [], args := [] }

/- WHAT THE LISTED PACKAGE-LEVEL VARIABLES READ AS WHEN THE CALL BEGINS. Each datum BY PROGRAM (the guide's laid-datum.mjs) off the statement by which the dump's own 'gosem.cut.vars' lays the variable. In a bare row this is a premise. The card (YtelfinhpjokmdaaDoorCards.lean) ties it to the program's text. -/
def laid_hasp_modes_together {H : Type} : DataW H := .agg [.agg [.lit (.bool true), .lit (.bool true), .lit (.bool true), .lit (.bool true), .lit (.bool true), .lit (.bool true), .lit (.bool true)], .agg [.lit (.bool true), .lit (.bool true), .lit (.bool true), .lit (.bool true), .lit (.bool true), .lit (.bool true), .lit (.bool false)], .agg [.lit (.bool true), .lit (.bool true), .lit (.bool true), .lit (.bool false), .lit (.bool false), .lit (.bool false), .lit (.bool false)], .agg [.lit (.bool true), .lit (.bool true), .lit (.bool false), .lit (.bool true), .lit (.bool false), .lit (.bool true), .lit (.bool false)], .agg [.lit (.bool true), .lit (.bool true), .lit (.bool false), .lit (.bool false), .lit (.bool false), .lit (.bool false), .lit (.bool false)], .agg [.lit (.bool true), .lit (.bool true), .lit (.bool false), .lit (.bool true), .lit (.bool false), .lit (.bool false), .lit (.bool false)], .agg [.lit (.bool true), .lit (.bool false), .lit (.bool false), .lit (.bool false), .lit (.bool false), .lit (.bool false), .lit (.bool false)]]
def laid_hasp_modes_covers {H : Type} : DataW H := .agg [.agg [.lit (.bool true), .lit (.bool false), .lit (.bool false), .lit (.bool false), .lit (.bool false), .lit (.bool false), .lit (.bool false)], .agg [.lit (.bool true), .lit (.bool true), .lit (.bool false), .lit (.bool false), .lit (.bool false), .lit (.bool false), .lit (.bool false)], .agg [.lit (.bool true), .lit (.bool true), .lit (.bool true), .lit (.bool false), .lit (.bool false), .lit (.bool false), .lit (.bool false)], .agg [.lit (.bool true), .lit (.bool true), .lit (.bool false), .lit (.bool true), .lit (.bool false), .lit (.bool false), .lit (.bool false)], .agg [.lit (.bool true), .lit (.bool true), .lit (.bool true), .lit (.bool true), .lit (.bool true), .lit (.bool false), .lit (.bool false)], .agg [.lit (.bool true), .lit (.bool true), .lit (.bool false), .lit (.bool true), .lit (.bool false), .lit (.bool true), .lit (.bool false)], .agg [.lit (.bool true), .lit (.bool true), .lit (.bool true), .lit (.bool true), .lit (.bool true), .lit (.bool true), .lit (.bool true)]]

/-- 'hasplaw10.LocksEnds': WHATEVER THE INPUT: true; the input reads as it did. -/
def locksEndsSpec : ChangeSpec := { name := "locksEnds", fn := fun _ => fun
  | [d] => { results := [.lit (.bool true)], args := [d] }
  | _ => none }
def locksEndsRow : OpenClaim := { program := "ytelfinhpjokmdaadoor", sum := "1f719a73db4baffc7a710a7113bdda2a02d7f21e57a985857563324c05ccb149", func := "hasp/hasplaw10.LocksEnds", spec := "locksEnds", inPlace := ["slices.overlaps[hasp/api.Lock]"], unfollowed := true, recurses := true, named := ["hasp/modes.covers", "hasp/modes.together"], apart := false, laid := [("hasp/modes.together", laid_hasp_modes_together), ("hasp/modes.covers", laid_hasp_modes_covers)] }
def LocksEndsSaid : Prop := locksEndsRow.holds Tryd.pinned (OpenSpec.ofChange locksEndsSpec)

/-- ITS FALSE NEIGHBOUR: 'it returns false'. Refute it at one input. -/
def locksEndsWrong : ChangeSpec := { name := "locksEnds", fn := fun _ => fun
  | [d] => { results := [.lit (.bool false)], args := [d] }
  | _ => none }
def LocksEndsWrongFalsely : Prop := locksEndsRow.holds Tryd.pinned (OpenSpec.ofChange locksEndsWrong)

/-- 'hasplaw10.LocksStrong': WHATEVER THE INPUT: true; the input reads as it did. -/
def locksStrongSpec : ChangeSpec := { name := "locksStrong", fn := fun _ => fun
  | [d] => { results := [.lit (.bool true)], args := [d] }
  | _ => none }
def locksStrongRow : OpenClaim := { program := "ytelfinhpjokmdaadoor", sum := "1f719a73db4baffc7a710a7113bdda2a02d7f21e57a985857563324c05ccb149", func := "hasp/hasplaw10.LocksStrong", spec := "locksStrong", inPlace := ["slices.overlaps[hasp/api.Lock]"], unfollowed := true, recurses := true, named := ["hasp/modes.covers", "hasp/modes.together"], apart := false, laid := [("hasp/modes.together", laid_hasp_modes_together), ("hasp/modes.covers", laid_hasp_modes_covers)] }
def LocksStrongSaid : Prop := locksStrongRow.holds Tryd.pinned (OpenSpec.ofChange locksStrongSpec)

/-- ITS FALSE NEIGHBOUR: 'it returns false'. Refute it at one input. -/
def locksStrongWrong : ChangeSpec := { name := "locksStrong", fn := fun _ => fun
  | [d] => { results := [.lit (.bool false)], args := [d] }
  | _ => none }
def LocksStrongWrongFalsely : Prop := locksStrongRow.holds Tryd.pinned (OpenSpec.ofChange locksStrongWrong)

/-- 'hasplaw10.LocksAgain': WHATEVER THE INPUT: true; the input reads as it did. -/
def locksAgainSpec : ChangeSpec := { name := "locksAgain", fn := fun _ => fun
  | [d1, d2] => { results := [.lit (.bool true)], args := [d1, d2] }
  | _ => none }
def locksAgainRow : OpenClaim := { program := "ytelfinhpjokmdaadoor", sum := "1f719a73db4baffc7a710a7113bdda2a02d7f21e57a985857563324c05ccb149", func := "hasp/hasplaw10.LocksAgain", spec := "locksAgain", inPlace := ["slices.overlaps[hasp/api.Lock]"], unfollowed := true, recurses := true, named := ["hasp/modes.covers", "hasp/modes.together"], apart := false, laid := [("hasp/modes.together", laid_hasp_modes_together), ("hasp/modes.covers", laid_hasp_modes_covers)] }
def LocksAgainSaid : Prop := locksAgainRow.holds Tryd.pinned (OpenSpec.ofChange locksAgainSpec)

/-- ITS FALSE NEIGHBOUR: 'it returns false'. Refute it at one input. -/
def locksAgainWrong : ChangeSpec := { name := "locksAgain", fn := fun _ => fun
  | [d1, d2] => { results := [.lit (.bool false)], args := [d1, d2] }
  | _ => none }
def LocksAgainWrongFalsely : Prop := locksAgainRow.holds Tryd.pinned (OpenSpec.ofChange locksAgainWrong)

/- THE SECOND FORM. 'bulk': how many values and letters a reading holds, each counted each time it is reached (what is shared counts as often as it is met; a slice's spare places count too). A statement '..UptoSaid' is the law's where the arguments, and the package variables that the reading takes, are together of bulk at most 1048576: NARROWER than '..Said'. Prove '..Said' where nothing that the law and all that it calls make is longer than what came in: it says more and counts as full. Else prove '..UptoSaid'. A law counts once. -/
mutual
def uptoBulk {H : Type} : DataW H → Nat
  | .lit (.string bytes) => bytes.length + 1
  | .lit _ => 1
  | .nil => 1
  | .ptr d => uptoBulk d + 1
  | .slice elems spare => uptoBulkAll elems + uptoBulkAll spare + 1
  | .agg parts => uptoBulkAll parts + 1
  | .iface _ d => uptoBulk d + 1
  | .map entries => uptoBulkEntries entries + 1
  | .held _ => 1
def uptoBulkAll {H : Type} : List (DataW H) → Nat
  | [] => 0
  | d :: r => uptoBulk d + uptoBulkAll r
def uptoBulkEntries {H : Type} : List (Lit × DataW H) → Nat
  | [] => 0
  | x :: r => uptoBulkEntry x + uptoBulkEntries r
def uptoBulkEntry {H : Type} : Lit × DataW H → Nat
  | (.string bytes, d) => bytes.length + uptoBulk d + 1
  | (_, d) => uptoBulk d + 1
 end
def uptoSmall : (H : Type) → List (DataW H) → Bool := fun _ ds => decide (uptoBulkAll ds ≤ 1048576)
def OpenSpec.upto (s : _root_.Go.ChangeSpec) : _root_.Go.OpenSpec := { _root_.Go.OpenSpec.ofChange s with cond := some uptoSmall }

/-- 'hasplaw10.LocksEnds', WHERE WHAT IT READS IS OF BULK AT MOST 1048576: true; the input reads as it did. -/
def locksEndsUptoRow : OpenClaim := { program := "ytelfinhpjokmdaadoor", sum := "1f719a73db4baffc7a710a7113bdda2a02d7f21e57a985857563324c05ccb149", func := "hasp/hasplaw10.LocksEnds", spec := "locksEnds", inPlace := ["slices.overlaps[hasp/api.Lock]"], unfollowed := true, recurses := true, named := ["hasp/modes.covers", "hasp/modes.together"], apart := false, laid := [("hasp/modes.together", laid_hasp_modes_together), ("hasp/modes.covers", laid_hasp_modes_covers)], narrowed := true }
def LocksEndsUptoSaid : Prop := locksEndsUptoRow.holds Tryd.pinned (OpenSpec.upto locksEndsSpec)

/-- 'hasplaw10.LocksStrong', WHERE WHAT IT READS IS OF BULK AT MOST 1048576: true; the input reads as it did. -/
def locksStrongUptoRow : OpenClaim := { program := "ytelfinhpjokmdaadoor", sum := "1f719a73db4baffc7a710a7113bdda2a02d7f21e57a985857563324c05ccb149", func := "hasp/hasplaw10.LocksStrong", spec := "locksStrong", inPlace := ["slices.overlaps[hasp/api.Lock]"], unfollowed := true, recurses := true, named := ["hasp/modes.covers", "hasp/modes.together"], apart := false, laid := [("hasp/modes.together", laid_hasp_modes_together), ("hasp/modes.covers", laid_hasp_modes_covers)], narrowed := true }
def LocksStrongUptoSaid : Prop := locksStrongUptoRow.holds Tryd.pinned (OpenSpec.upto locksStrongSpec)

/-- 'hasplaw10.LocksAgain', WHERE WHAT IT READS IS OF BULK AT MOST 1048576: true; the input reads as it did. -/
def locksAgainUptoRow : OpenClaim := { program := "ytelfinhpjokmdaadoor", sum := "1f719a73db4baffc7a710a7113bdda2a02d7f21e57a985857563324c05ccb149", func := "hasp/hasplaw10.LocksAgain", spec := "locksAgain", inPlace := ["slices.overlaps[hasp/api.Lock]"], unfollowed := true, recurses := true, named := ["hasp/modes.covers", "hasp/modes.together"], apart := false, laid := [("hasp/modes.together", laid_hasp_modes_together), ("hasp/modes.covers", laid_hasp_modes_covers)], narrowed := true }
def LocksAgainUptoSaid : Prop := locksAgainUptoRow.holds Tryd.pinned (OpenSpec.upto locksAgainSpec)

end Rows
end Go.Proofs.YtelfinhpjokmdaaDoor
