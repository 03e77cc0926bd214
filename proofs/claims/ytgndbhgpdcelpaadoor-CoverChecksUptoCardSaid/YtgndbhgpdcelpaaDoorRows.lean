/-
  NARROWER THAN 'FOR EVERY INPUT', by the rows' own cells (each row's printed sentence says how): CoverNames: laid · CoverChecks: loops, laid · CoverStronger: loops, laid · CoverBare: loops, laid.
  DERIVED. THE GIVEN ROWS OF THIS SEAT. 4 by the template 'for every input the law returns true; each argument reads behind the call as it read before'; 0 by the template 'total and deterministic' (their statements: YtgndbhgpdcelpaaDoorTotals.lean).
  GIVEN WITH THE SEED: the statements are not yours to turn. If you find one false, say at which input.
  Laid BY PROGRAM, IN A SANDBOX (cutbox-rows.mjs): the forced cells as the released guide's own fill.sh prints them over the translation 05549d23ce64acd4… (all of the seat's roots in one cut). By AI agents, Wed Nov 11 2026. No macro, syntax, notation, axiom, sorry.
-/
import Derived.Test.YtgndbhgpdcelpaaDoorChecked
import GoSem.Claim
import GoSem.ClaimJoined
import GoSem.ClaimMapViews
import Derived.JoinedTies
import Derived.KernelRfl
namespace Go.Proofs.YtgndbhgpdcelpaaDoor
/- THE CELL 'sum', in the pinned program and in every row, IS THE sha256 OF THE DUMP (.gsa) THAT YtgndbhgpdcelpaaDoorProg.lean LOADS. Nothing in Lean hashes anything: it is a label: what it is worth is what the hold of that sum in a sandbox is worth. -/
noncomputable def Tryd.pinned : Pinned := { name := "ytgndbhgpdcelpaadoor", sum := "05549d23ce64acd4d92b6819fbe1e3e743b694eecb753b295743f7de937fc89e", checked := Tryd.checked }
namespace Rows
def none {H : Type} : Left H := { results := [], args := [] }

/- WHAT THE LISTED PACKAGE-LEVEL VARIABLES READ AS WHEN THE CALL BEGINS. Each datum BY PROGRAM (the guide's laid-datum.mjs) off the statement by which the dump's own 'gosem.cut.vars' lays the variable. In a bare row this is a premise. The card (YtgndbhgpdcelpaaDoorCards.lean) ties it to the program's text. -/
def laid_hasp_modes_covers {H : Type} : DataW H := .agg [.agg [.lit (.bool true), .lit (.bool false), .lit (.bool false), .lit (.bool false), .lit (.bool false), .lit (.bool false), .lit (.bool false)], .agg [.lit (.bool true), .lit (.bool true), .lit (.bool false), .lit (.bool false), .lit (.bool false), .lit (.bool false), .lit (.bool false)], .agg [.lit (.bool true), .lit (.bool true), .lit (.bool true), .lit (.bool false), .lit (.bool false), .lit (.bool false), .lit (.bool false)], .agg [.lit (.bool true), .lit (.bool true), .lit (.bool false), .lit (.bool true), .lit (.bool false), .lit (.bool false), .lit (.bool false)], .agg [.lit (.bool true), .lit (.bool true), .lit (.bool true), .lit (.bool true), .lit (.bool true), .lit (.bool false), .lit (.bool false)], .agg [.lit (.bool true), .lit (.bool true), .lit (.bool false), .lit (.bool true), .lit (.bool false), .lit (.bool true), .lit (.bool false)], .agg [.lit (.bool true), .lit (.bool true), .lit (.bool true), .lit (.bool true), .lit (.bool true), .lit (.bool true), .lit (.bool true)]]

/-- 'hasplaw22.CoverNames': WHATEVER THE INPUT: true; the input reads as it did. -/
def coverNamesSpec : ChangeSpec := { name := "coverNames", fn := fun _ => fun
  | [] => { results := [.lit (.bool true)], args := [] }
  | _ => none }
def coverNamesRow : OpenClaim := { program := "ytgndbhgpdcelpaadoor", sum := "05549d23ce64acd4d92b6819fbe1e3e743b694eecb753b295743f7de937fc89e", func := "hasp/hasplaw22.CoverNames", spec := "coverNames", unfollowed := true, recurses := true, named := ["hasp/modes.covers"], apart := false, laid := [("hasp/modes.covers", laid_hasp_modes_covers)] }
def CoverNamesSaid : Prop := coverNamesRow.holds Tryd.pinned (OpenSpec.ofChange coverNamesSpec)

/-- ITS FALSE NEIGHBOUR: 'it returns false'. Refute it at one input. -/
def coverNamesWrong : ChangeSpec := { name := "coverNames", fn := fun _ => fun
  | [] => { results := [.lit (.bool false)], args := [] }
  | _ => none }
def CoverNamesWrongFalsely : Prop := coverNamesRow.holds Tryd.pinned (OpenSpec.ofChange coverNamesWrong)

/-- 'hasplaw22.CoverChecks': WHATEVER THE INPUT: true; the input reads as it did. -/
def coverChecksSpec : ChangeSpec := { name := "coverChecks", fn := fun _ => fun
  | [d] => { results := [.lit (.bool true)], args := [d] }
  | _ => none }
def coverChecksRow : OpenClaim := { program := "ytgndbhgpdcelpaadoor", sum := "05549d23ce64acd4d92b6819fbe1e3e743b694eecb753b295743f7de937fc89e", func := "hasp/hasplaw22.CoverChecks", spec := "coverChecks", unfollowed := true, recurses := true, named := ["hasp/modes.covers"], loops := true, apart := false, laid := [("hasp/modes.covers", laid_hasp_modes_covers)] }
def CoverChecksSaid : Prop := coverChecksRow.holds Tryd.pinned (OpenSpec.ofChange coverChecksSpec)

/-- ITS FALSE NEIGHBOUR: 'it returns false'. Refute it at one input. -/
def coverChecksWrong : ChangeSpec := { name := "coverChecks", fn := fun _ => fun
  | [d] => { results := [.lit (.bool false)], args := [d] }
  | _ => none }
def CoverChecksWrongFalsely : Prop := coverChecksRow.holds Tryd.pinned (OpenSpec.ofChange coverChecksWrong)

/-- 'hasplaw22.CoverStronger': WHATEVER THE INPUT: true; the input reads as it did. -/
def coverStrongerSpec : ChangeSpec := { name := "coverStronger", fn := fun _ => fun
  | [d1, d2, d3] => { results := [.lit (.bool true)], args := [d1, d2, d3] }
  | _ => none }
def coverStrongerRow : OpenClaim := { program := "ytgndbhgpdcelpaadoor", sum := "05549d23ce64acd4d92b6819fbe1e3e743b694eecb753b295743f7de937fc89e", func := "hasp/hasplaw22.CoverStronger", spec := "coverStronger", unfollowed := true, recurses := true, named := ["hasp/modes.covers"], loops := true, apart := false, laid := [("hasp/modes.covers", laid_hasp_modes_covers)] }
def CoverStrongerSaid : Prop := coverStrongerRow.holds Tryd.pinned (OpenSpec.ofChange coverStrongerSpec)

/-- ITS FALSE NEIGHBOUR: 'it returns false'. Refute it at one input. -/
def coverStrongerWrong : ChangeSpec := { name := "coverStronger", fn := fun _ => fun
  | [d1, d2, d3] => { results := [.lit (.bool false)], args := [d1, d2, d3] }
  | _ => none }
def CoverStrongerWrongFalsely : Prop := coverStrongerRow.holds Tryd.pinned (OpenSpec.ofChange coverStrongerWrong)

/-- 'hasplaw22.CoverBare': WHATEVER THE INPUT: true; the input reads as it did. -/
def coverBareSpec : ChangeSpec := { name := "coverBare", fn := fun _ => fun
  | [d] => { results := [.lit (.bool true)], args := [d] }
  | _ => none }
def coverBareRow : OpenClaim := { program := "ytgndbhgpdcelpaadoor", sum := "05549d23ce64acd4d92b6819fbe1e3e743b694eecb753b295743f7de937fc89e", func := "hasp/hasplaw22.CoverBare", spec := "coverBare", unfollowed := true, recurses := true, named := ["hasp/modes.covers"], loops := true, apart := false, laid := [("hasp/modes.covers", laid_hasp_modes_covers)] }
def CoverBareSaid : Prop := coverBareRow.holds Tryd.pinned (OpenSpec.ofChange coverBareSpec)

/-- ITS FALSE NEIGHBOUR: 'it returns false'. Refute it at one input. -/
def coverBareWrong : ChangeSpec := { name := "coverBare", fn := fun _ => fun
  | [d] => { results := [.lit (.bool false)], args := [d] }
  | _ => none }
def CoverBareWrongFalsely : Prop := coverBareRow.holds Tryd.pinned (OpenSpec.ofChange coverBareWrong)

/- THE SECOND FORM. 'bulk': how many values and letters a reading holds, each counted each time it is reached (what is shared counts as often as it is met; a slice's spare places count too). A statement '..UptoSaid' is the law's where the arguments, and the package variables that the reading takes, are together of bulk at most 1048576: NARROWER than '..Said'. Prove '..Said' where nothing that the law and all that it calls make is longer than what came in: it says more and counts as full. Else prove '..UptoSaid'. A law counts once. -/
mutual
def uptoBulk {H : Type} : DataW H → Nat
  | .lit (.string bytes) => bytes.length + 1
  | .lit _ => 1
  | .nil => 1
  | .ptr d => uptoBulk d + 1
  | .slice elems spare => uptoBulkAll elems + uptoBulkAll spare + 1
  | .agg parts => uptoBulkAll parts + 1
  | .iface _ d => uptoBulk d + 1
  | .map entries => uptoBulkEntries entries + 1
  | .held _ => 1
def uptoBulkAll {H : Type} : List (DataW H) → Nat
  | [] => 0
  | d :: r => uptoBulk d + uptoBulkAll r
def uptoBulkEntries {H : Type} : List (Lit × DataW H) → Nat
  | [] => 0
  | x :: r => uptoBulkEntry x + uptoBulkEntries r
def uptoBulkEntry {H : Type} : Lit × DataW H → Nat
  | (.string bytes, d) => bytes.length + uptoBulk d + 1
  | (_, d) => uptoBulk d + 1
 end
def uptoSmall : (H : Type) → List (DataW H) → Bool := fun _ ds => decide (uptoBulkAll ds ≤ 1048576)
def OpenSpec.upto (s : _root_.Go.ChangeSpec) : _root_.Go.OpenSpec := { _root_.Go.OpenSpec.ofChange s with cond := some uptoSmall }

/-- 'hasplaw22.CoverNames', WHERE WHAT IT READS IS OF BULK AT MOST 1048576: true; the input reads as it did. -/
def coverNamesUptoRow : OpenClaim := { program := "ytgndbhgpdcelpaadoor", sum := "05549d23ce64acd4d92b6819fbe1e3e743b694eecb753b295743f7de937fc89e", func := "hasp/hasplaw22.CoverNames", spec := "coverNames", unfollowed := true, recurses := true, named := ["hasp/modes.covers"], apart := false, laid := [("hasp/modes.covers", laid_hasp_modes_covers)], narrowed := true }
def CoverNamesUptoSaid : Prop := coverNamesUptoRow.holds Tryd.pinned (OpenSpec.upto coverNamesSpec)

/-- 'hasplaw22.CoverChecks', WHERE WHAT IT READS IS OF BULK AT MOST 1048576: true; the input reads as it did. -/
def coverChecksUptoRow : OpenClaim := { program := "ytgndbhgpdcelpaadoor", sum := "05549d23ce64acd4d92b6819fbe1e3e743b694eecb753b295743f7de937fc89e", func := "hasp/hasplaw22.CoverChecks", spec := "coverChecks", unfollowed := true, recurses := true, named := ["hasp/modes.covers"], loops := true, apart := false, laid := [("hasp/modes.covers", laid_hasp_modes_covers)], narrowed := true }
def CoverChecksUptoSaid : Prop := coverChecksUptoRow.holds Tryd.pinned (OpenSpec.upto coverChecksSpec)

/-- 'hasplaw22.CoverStronger', WHERE WHAT IT READS IS OF BULK AT MOST 1048576: true; the input reads as it did. -/
def coverStrongerUptoRow : OpenClaim := { program := "ytgndbhgpdcelpaadoor", sum := "05549d23ce64acd4d92b6819fbe1e3e743b694eecb753b295743f7de937fc89e", func := "hasp/hasplaw22.CoverStronger", spec := "coverStronger", unfollowed := true, recurses := true, named := ["hasp/modes.covers"], loops := true, apart := false, laid := [("hasp/modes.covers", laid_hasp_modes_covers)], narrowed := true }
def CoverStrongerUptoSaid : Prop := coverStrongerUptoRow.holds Tryd.pinned (OpenSpec.upto coverStrongerSpec)

/-- 'hasplaw22.CoverBare', WHERE WHAT IT READS IS OF BULK AT MOST 1048576: true; the input reads as it did. -/
def coverBareUptoRow : OpenClaim := { program := "ytgndbhgpdcelpaadoor", sum := "05549d23ce64acd4d92b6819fbe1e3e743b694eecb753b295743f7de937fc89e", func := "hasp/hasplaw22.CoverBare", spec := "coverBare", unfollowed := true, recurses := true, named := ["hasp/modes.covers"], loops := true, apart := false, laid := [("hasp/modes.covers", laid_hasp_modes_covers)], narrowed := true }
def CoverBareUptoSaid : Prop := coverBareUptoRow.holds Tryd.pinned (OpenSpec.upto coverBareSpec)

end Rows
end Go.Proofs.YtgndbhgpdcelpaaDoor
