/-
  NARROWER THAN 'FOR EVERY INPUT', by the rows' own cells (each row's printed sentence says how): LocksClean: laid · LocksEnds: laid · LocksStrong: laid · LocksAgain: laid · LocksRow: laid.
  DERIVED. THE GIVEN ROWS OF THIS SEAT. 5 by the template 'for every input the law returns true; each argument reads behind the call as it read before'; 0 by the template 'total and deterministic' (their statements: YtochopjcdlblmaaDoorTotals.lean).
  GIVEN WITH THE SEED: the statements are not yours to turn. If you find one false, say at which input.
  Laid BY PROGRAM, IN A SANDBOX (cutbox-rows.mjs): the forced cells as the released guide's own fill.sh prints them over the translation 01a66c8e73cd851d… (all of the seat's roots in one cut). By AI agents, Wed Nov 11 2026. No macro, syntax, notation, axiom, sorry.
-/
import Derived.Test.YtochopjcdlblmaaDoorChecked
import GoSem.Claim
import GoSem.ClaimJoined
import GoSem.ClaimMapViews
import Derived.JoinedTies
import Derived.KernelRfl
namespace Go.Proofs.YtochopjcdlblmaaDoor
/- THE CELL 'sum', in the pinned program and in every row, IS THE sha256 OF THE DUMP (.gsa) THAT YtochopjcdlblmaaDoorProg.lean LOADS. Nothing in Lean hashes anything: it is a label: what it is worth is what the hold of that sum in a sandbox is worth. -/
noncomputable def Tryd.pinned : Pinned := { name := "ytochopjcdlblmaadoor", sum := "01a66c8e73cd851dd74e83a01d61387d46b49789032714ad6d37b0ab42154028", checked := Tryd.checked }
namespace Rows
def none {H : Type} : Left H := { results := [], args := [] }

/- WHAT THE LISTED PACKAGE-LEVEL VARIABLES READ AS WHEN THE CALL BEGINS. Each datum BY PROGRAM (the guide's laid-datum.mjs) off the statement by which the dump's own 'gosem.cut.vars' lays the variable. In a bare row this is a premise. The card (YtochopjcdlblmaaDoorCards.lean) ties it to the program's text. -/
def laid_hasp_modes_together {H : Type} : DataW H := .agg [.agg [.lit (.bool true), .lit (.bool true), .lit (.bool true), .lit (.bool true), .lit (.bool true), .lit (.bool true), .lit (.bool true)], .agg [.lit (.bool true), .lit (.bool true), .lit (.bool true), .lit (.bool true), .lit (.bool true), .lit (.bool true), .lit (.bool false)], .agg [.lit (.bool true), .lit (.bool true), .lit (.bool true), .lit (.bool false), .lit (.bool false), .lit (.bool false), .lit (.bool false)], .agg [.lit (.bool true), .lit (.bool true), .lit (.bool false), .lit (.bool true), .lit (.bool false), .lit (.bool true), .lit (.bool false)], .agg [.lit (.bool true), .lit (.bool true), .lit (.bool false), .lit (.bool false), .lit (.bool false), .lit (.bool false), .lit (.bool false)], .agg [.lit (.bool true), .lit (.bool true), .lit (.bool false), .lit (.bool true), .lit (.bool false), .lit (.bool false), .lit (.bool false)], .agg [.lit (.bool true), .lit (.bool false), .lit (.bool false), .lit (.bool false), .lit (.bool false), .lit (.bool false), .lit (.bool false)]]
def laid_hasp_modes_covers {H : Type} : DataW H := .agg [.agg [.lit (.bool true), .lit (.bool false), .lit (.bool false), .lit (.bool false), .lit (.bool false), .lit (.bool false), .lit (.bool false)], .agg [.lit (.bool true), .lit (.bool true), .lit (.bool false), .lit (.bool false), .lit (.bool false), .lit (.bool false), .lit (.bool false)], .agg [.lit (.bool true), .lit (.bool true), .lit (.bool true), .lit (.bool false), .lit (.bool false), .lit (.bool false), .lit (.bool false)], .agg [.lit (.bool true), .lit (.bool true), .lit (.bool false), .lit (.bool true), .lit (.bool false), .lit (.bool false), .lit (.bool false)], .agg [.lit (.bool true), .lit (.bool true), .lit (.bool true), .lit (.bool true), .lit (.bool true), .lit (.bool false), .lit (.bool false)], .agg [.lit (.bool true), .lit (.bool true), .lit (.bool false), .lit (.bool true), .lit (.bool false), .lit (.bool true), .lit (.bool false)], .agg [.lit (.bool true), .lit (.bool true), .lit (.bool true), .lit (.bool true), .lit (.bool true), .lit (.bool true), .lit (.bool true)]]

/-- 'hasplaw10.LocksClean': WHATEVER THE INPUT: true; the input reads as it did. -/
def locksCleanSpec : ChangeSpec := { name := "locksClean", fn := fun _ => fun
  | [d] => { results := [.lit (.bool true)], args := [d] }
  | _ => none }
def locksCleanRow : OpenClaim := { program := "ytochopjcdlblmaadoor", sum := "01a66c8e73cd851dd74e83a01d61387d46b49789032714ad6d37b0ab42154028", func := "hasp/hasplaw10.LocksClean", spec := "locksClean", inPlace := ["slices.overlaps[hasp/api.Lock]"], unfollowed := true, recurses := true, named := ["hasp/modes.covers", "hasp/modes.together"], apart := false, laid := [("hasp/modes.together", laid_hasp_modes_together), ("hasp/modes.covers", laid_hasp_modes_covers)] }
def LocksCleanSaid : Prop := locksCleanRow.holds Tryd.pinned (OpenSpec.ofChange locksCleanSpec)

/-- ITS FALSE NEIGHBOUR: 'it returns false'. Refute it at one input. -/
def locksCleanWrong : ChangeSpec := { name := "locksClean", fn := fun _ => fun
  | [d] => { results := [.lit (.bool false)], args := [d] }
  | _ => none }
def LocksCleanWrongFalsely : Prop := locksCleanRow.holds Tryd.pinned (OpenSpec.ofChange locksCleanWrong)

/-- 'hasplaw10.LocksEnds': WHATEVER THE INPUT: true; the input reads as it did. -/
def locksEndsSpec : ChangeSpec := { name := "locksEnds", fn := fun _ => fun
  | [d] => { results := [.lit (.bool true)], args := [d] }
  | _ => none }
def locksEndsRow : OpenClaim := { program := "ytochopjcdlblmaadoor", sum := "01a66c8e73cd851dd74e83a01d61387d46b49789032714ad6d37b0ab42154028", func := "hasp/hasplaw10.LocksEnds", spec := "locksEnds", inPlace := ["slices.overlaps[hasp/api.Lock]"], unfollowed := true, recurses := true, named := ["hasp/modes.covers", "hasp/modes.together"], apart := false, laid := [("hasp/modes.together", laid_hasp_modes_together), ("hasp/modes.covers", laid_hasp_modes_covers)] }
def LocksEndsSaid : Prop := locksEndsRow.holds Tryd.pinned (OpenSpec.ofChange locksEndsSpec)

/-- ITS FALSE NEIGHBOUR: 'it returns false'. Refute it at one input. -/
def locksEndsWrong : ChangeSpec := { name := "locksEnds", fn := fun _ => fun
  | [d] => { results := [.lit (.bool false)], args := [d] }
  | _ => none }
def LocksEndsWrongFalsely : Prop := locksEndsRow.holds Tryd.pinned (OpenSpec.ofChange locksEndsWrong)

/-- 'hasplaw10.LocksStrong': WHATEVER THE INPUT: true; the input reads as it did. -/
def locksStrongSpec : ChangeSpec := { name := "locksStrong", fn := fun _ => fun
  | [d] => { results := [.lit (.bool true)], args := [d] }
  | _ => none }
def locksStrongRow : OpenClaim := { program := "ytochopjcdlblmaadoor", sum := "01a66c8e73cd851dd74e83a01d61387d46b49789032714ad6d37b0ab42154028", func := "hasp/hasplaw10.LocksStrong", spec := "locksStrong", inPlace := ["slices.overlaps[hasp/api.Lock]"], unfollowed := true, recurses := true, named := ["hasp/modes.covers", "hasp/modes.together"], apart := false, laid := [("hasp/modes.together", laid_hasp_modes_together), ("hasp/modes.covers", laid_hasp_modes_covers)] }
def LocksStrongSaid : Prop := locksStrongRow.holds Tryd.pinned (OpenSpec.ofChange locksStrongSpec)

/-- ITS FALSE NEIGHBOUR: 'it returns false'. Refute it at one input. -/
def locksStrongWrong : ChangeSpec := { name := "locksStrong", fn := fun _ => fun
  | [d] => { results := [.lit (.bool false)], args := [d] }
  | _ => none }
def LocksStrongWrongFalsely : Prop := locksStrongRow.holds Tryd.pinned (OpenSpec.ofChange locksStrongWrong)

/-- 'hasplaw10.LocksAgain': WHATEVER THE INPUT: true; the input reads as it did. -/
def locksAgainSpec : ChangeSpec := { name := "locksAgain", fn := fun _ => fun
  | [d1, d2] => { results := [.lit (.bool true)], args := [d1, d2] }
  | _ => none }
def locksAgainRow : OpenClaim := { program := "ytochopjcdlblmaadoor", sum := "01a66c8e73cd851dd74e83a01d61387d46b49789032714ad6d37b0ab42154028", func := "hasp/hasplaw10.LocksAgain", spec := "locksAgain", inPlace := ["slices.overlaps[hasp/api.Lock]"], unfollowed := true, recurses := true, named := ["hasp/modes.covers", "hasp/modes.together"], apart := false, laid := [("hasp/modes.together", laid_hasp_modes_together), ("hasp/modes.covers", laid_hasp_modes_covers)] }
def LocksAgainSaid : Prop := locksAgainRow.holds Tryd.pinned (OpenSpec.ofChange locksAgainSpec)

/-- ITS FALSE NEIGHBOUR: 'it returns false'. Refute it at one input. -/
def locksAgainWrong : ChangeSpec := { name := "locksAgain", fn := fun _ => fun
  | [d1, d2] => { results := [.lit (.bool false)], args := [d1, d2] }
  | _ => none }
def LocksAgainWrongFalsely : Prop := locksAgainRow.holds Tryd.pinned (OpenSpec.ofChange locksAgainWrong)

/-- 'hasplaw10.LocksRow': WHATEVER THE INPUT: true; the input reads as it did. -/
def locksRowSpec : ChangeSpec := { name := "locksRow", fn := fun _ => fun
  | [d] => { results := [.lit (.bool true)], args := [d] }
  | _ => none }
def locksRowRow : OpenClaim := { program := "ytochopjcdlblmaadoor", sum := "01a66c8e73cd851dd74e83a01d61387d46b49789032714ad6d37b0ab42154028", func := "hasp/hasplaw10.LocksRow", spec := "locksRow", inPlace := ["slices.overlaps[hasp/api.Lock]"], unfollowed := true, recurses := true, named := ["hasp/modes.covers", "hasp/modes.together"], apart := false, laid := [("hasp/modes.together", laid_hasp_modes_together), ("hasp/modes.covers", laid_hasp_modes_covers)] }
def LocksRowSaid : Prop := locksRowRow.holds Tryd.pinned (OpenSpec.ofChange locksRowSpec)

/-- ITS FALSE NEIGHBOUR: 'it returns false'. Refute it at one input. -/
def locksRowWrong : ChangeSpec := { name := "locksRow", fn := fun _ => fun
  | [d] => { results := [.lit (.bool false)], args := [d] }
  | _ => none }
def LocksRowWrongFalsely : Prop := locksRowRow.holds Tryd.pinned (OpenSpec.ofChange locksRowWrong)

/- THE SECOND FORM. 'bulk': how many values and letters a reading holds, each counted each time it is reached (what is shared counts as often as it is met; a slice's spare places count too). A statement '..UptoSaid' is the law's where the arguments, and the package variables that the reading takes, are together of bulk at most 1048576: NARROWER than '..Said'. Prove '..Said' where nothing that the law and all that it calls make is longer than what came in: it says more and counts as full. Else prove '..UptoSaid'. A law counts once. -/
mutual
def uptoBulk {H : Type} : DataW H → Nat
  | .lit (.string bytes) => bytes.length + 1
  | .lit _ => 1
  | .nil => 1
  | .ptr d => uptoBulk d + 1
  | .slice elems spare => uptoBulkAll elems + uptoBulkAll spare + 1
  | .agg parts => uptoBulkAll parts + 1
  | .iface _ d => uptoBulk d + 1
  | .map entries => uptoBulkEntries entries + 1
  | .held _ => 1
def uptoBulkAll {H : Type} : List (DataW H) → Nat
  | [] => 0
  | d :: r => uptoBulk d + uptoBulkAll r
def uptoBulkEntries {H : Type} : List (Lit × DataW H) → Nat
  | [] => 0
  | x :: r => uptoBulkEntry x + uptoBulkEntries r
def uptoBulkEntry {H : Type} : Lit × DataW H → Nat
  | (.string bytes, d) => bytes.length + uptoBulk d + 1
  | (_, d) => uptoBulk d + 1
 end
def uptoSmall : (H : Type) → List (DataW H) → Bool := fun _ ds => decide (uptoBulkAll ds ≤ 1048576)
def OpenSpec.upto (s : _root_.Go.ChangeSpec) : _root_.Go.OpenSpec := { _root_.Go.OpenSpec.ofChange s with cond := some uptoSmall }

/-- 'hasplaw10.LocksClean', WHERE WHAT IT READS IS OF BULK AT MOST 1048576: true; the input reads as it did. -/
def locksCleanUptoRow : OpenClaim := { program := "ytochopjcdlblmaadoor", sum := "01a66c8e73cd851dd74e83a01d61387d46b49789032714ad6d37b0ab42154028", func := "hasp/hasplaw10.LocksClean", spec := "locksClean", inPlace := ["slices.overlaps[hasp/api.Lock]"], unfollowed := true, recurses := true, named := ["hasp/modes.covers", "hasp/modes.together"], apart := false, laid := [("hasp/modes.together", laid_hasp_modes_together), ("hasp/modes.covers", laid_hasp_modes_covers)], narrowed := true }
def LocksCleanUptoSaid : Prop := locksCleanUptoRow.holds Tryd.pinned (OpenSpec.upto locksCleanSpec)

/-- 'hasplaw10.LocksEnds', WHERE WHAT IT READS IS OF BULK AT MOST 1048576: true; the input reads as it did. -/
def locksEndsUptoRow : OpenClaim := { program := "ytochopjcdlblmaadoor", sum := "01a66c8e73cd851dd74e83a01d61387d46b49789032714ad6d37b0ab42154028", func := "hasp/hasplaw10.LocksEnds", spec := "locksEnds", inPlace := ["slices.overlaps[hasp/api.Lock]"], unfollowed := true, recurses := true, named := ["hasp/modes.covers", "hasp/modes.together"], apart := false, laid := [("hasp/modes.together", laid_hasp_modes_together), ("hasp/modes.covers", laid_hasp_modes_covers)], narrowed := true }
def LocksEndsUptoSaid : Prop := locksEndsUptoRow.holds Tryd.pinned (OpenSpec.upto locksEndsSpec)

/-- 'hasplaw10.LocksStrong', WHERE WHAT IT READS IS OF BULK AT MOST 1048576: true; the input reads as it did. -/
def locksStrongUptoRow : OpenClaim := { program := "ytochopjcdlblmaadoor", sum := "01a66c8e73cd851dd74e83a01d61387d46b49789032714ad6d37b0ab42154028", func := "hasp/hasplaw10.LocksStrong", spec := "locksStrong", inPlace := ["slices.overlaps[hasp/api.Lock]"], unfollowed := true, recurses := true, named := ["hasp/modes.covers", "hasp/modes.together"], apart := false, laid := [("hasp/modes.together", laid_hasp_modes_together), ("hasp/modes.covers", laid_hasp_modes_covers)], narrowed := true }
def LocksStrongUptoSaid : Prop := locksStrongUptoRow.holds Tryd.pinned (OpenSpec.upto locksStrongSpec)

/-- 'hasplaw10.LocksAgain', WHERE WHAT IT READS IS OF BULK AT MOST 1048576: true; the input reads as it did. -/
def locksAgainUptoRow : OpenClaim := { program := "ytochopjcdlblmaadoor", sum := "01a66c8e73cd851dd74e83a01d61387d46b49789032714ad6d37b0ab42154028", func := "hasp/hasplaw10.LocksAgain", spec := "locksAgain", inPlace := ["slices.overlaps[hasp/api.Lock]"], unfollowed := true, recurses := true, named := ["hasp/modes.covers", "hasp/modes.together"], apart := false, laid := [("hasp/modes.together", laid_hasp_modes_together), ("hasp/modes.covers", laid_hasp_modes_covers)], narrowed := true }
def LocksAgainUptoSaid : Prop := locksAgainUptoRow.holds Tryd.pinned (OpenSpec.upto locksAgainSpec)

/-- 'hasplaw10.LocksRow', WHERE WHAT IT READS IS OF BULK AT MOST 1048576: true; the input reads as it did. -/
def locksRowUptoRow : OpenClaim := { program := "ytochopjcdlblmaadoor", sum := "01a66c8e73cd851dd74e83a01d61387d46b49789032714ad6d37b0ab42154028", func := "hasp/hasplaw10.LocksRow", spec := "locksRow", inPlace := ["slices.overlaps[hasp/api.Lock]"], unfollowed := true, recurses := true, named := ["hasp/modes.covers", "hasp/modes.together"], apart := false, laid := [("hasp/modes.together", laid_hasp_modes_together), ("hasp/modes.covers", laid_hasp_modes_covers)], narrowed := true }
def LocksRowUptoSaid : Prop := locksRowUptoRow.holds Tryd.pinned (OpenSpec.upto locksRowSpec)

end Rows
end Go.Proofs.YtochopjcdlblmaaDoor
