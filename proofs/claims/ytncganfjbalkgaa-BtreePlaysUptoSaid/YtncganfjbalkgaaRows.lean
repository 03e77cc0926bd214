/-
  No cell of these rows narrows 'for every input' (looked for: loops, veiled, ifaces, maps, wideKeys, modest, calm, conditions, laid).
  DERIVED. THE GIVEN ROWS OF THIS SEAT. 4 by the template 'for every input the law returns true; each argument reads behind the call as it read before'; 0 by the template 'total and deterministic' (their statements: YtncganfjbalkgaaTotals.lean).
  GIVEN WITH THE SEED: the statements are not yours to turn. If you find one false, say at which input.
  Laid BY PROGRAM, IN A SANDBOX (cutbox-rows.mjs): the forced cells as the released guide's own fill.sh prints them over the translation 11715f8f83299adf… (all of the seat's roots in one cut). By AI agents, Wed Nov 11 2026. No macro, syntax, notation, axiom, sorry.
-/
import Derived.Test.YtncganfjbalkgaaChecked
import GoSem.Claim
import GoSem.ClaimJoined
import GoSem.ClaimMapViews
import Derived.JoinedTies
import Derived.KernelRfl
namespace Go.Proofs.Ytncganfjbalkgaa
/- THE CELL 'sum', in the pinned program and in every row, IS THE sha256 OF THE DUMP (.gsa) THAT YtncganfjbalkgaaProg.lean LOADS. Nothing in Lean hashes anything: it is a label: what it is worth is what the hold of that sum in a sandbox is worth. -/
noncomputable def Try.pinned : Pinned := { name := "ytncganfjbalkgaa", sum := "11715f8f83299adff57d87bba9b511717980ad8e62298ea1aba5901601bdd74e", checked := Try.checked }
namespace Rows
def none {H : Type} : Left H := { results := [], args := [] }

/-- 'hasplaw07.BtreePlays': WHATEVER THE INPUT: true; the input reads as it did. -/
def btreePlaysSpec : ChangeSpec := { name := "btreePlays", fn := fun _ => fun
  | [d] => { results := [.lit (.bool true)], args := [d] }
  | _ => none }
def btreePlaysRow : OpenClaim := { program := "ytncganfjbalkgaa", sum := "11715f8f83299adff57d87bba9b511717980ad8e62298ea1aba5901601bdd74e", func := "hasp/hasplaw07.BtreePlays", spec := "btreePlays", inPlace := ["internal/bytealg.abigen_runtime_cmpstring", "slices.overlaps[hasp/btree.part]"], unfollowed := true, recurses := true, apart := false }
def BtreePlaysSaid : Prop := btreePlaysRow.holds Try.pinned (OpenSpec.ofChange btreePlaysSpec)

/-- ITS FALSE NEIGHBOUR: 'it returns false'. Refute it at one input. -/
def btreePlaysWrong : ChangeSpec := { name := "btreePlays", fn := fun _ => fun
  | [d] => { results := [.lit (.bool false)], args := [d] }
  | _ => none }
def BtreePlaysWrongFalsely : Prop := btreePlaysRow.holds Try.pinned (OpenSpec.ofChange btreePlaysWrong)

/-- 'hasplaw07.BtreeFills': WHATEVER THE INPUT: true; the input reads as it did. -/
def btreeFillsSpec : ChangeSpec := { name := "btreeFills", fn := fun _ => fun
  | [d1, d2] => { results := [.lit (.bool true)], args := [d1, d2] }
  | _ => none }
def btreeFillsRow : OpenClaim := { program := "ytncganfjbalkgaa", sum := "11715f8f83299adff57d87bba9b511717980ad8e62298ea1aba5901601bdd74e", func := "hasp/hasplaw07.BtreeFills", spec := "btreeFills", inPlace := ["internal/bytealg.abigen_runtime_cmpstring", "slices.overlaps[hasp/btree.part]"], unfollowed := true, recurses := true, apart := false }
def BtreeFillsSaid : Prop := btreeFillsRow.holds Try.pinned (OpenSpec.ofChange btreeFillsSpec)

/-- ITS FALSE NEIGHBOUR: 'it returns false'. Refute it at one input. -/
def btreeFillsWrong : ChangeSpec := { name := "btreeFills", fn := fun _ => fun
  | [d1, d2] => { results := [.lit (.bool false)], args := [d1, d2] }
  | _ => none }
def BtreeFillsWrongFalsely : Prop := btreeFillsRow.holds Try.pinned (OpenSpec.ofChange btreeFillsWrong)

/-- 'hasplaw07.BtreeWalks': WHATEVER THE INPUT: true; the input reads as it did. -/
def btreeWalksSpec : ChangeSpec := { name := "btreeWalks", fn := fun _ => fun
  | [d1, d2] => { results := [.lit (.bool true)], args := [d1, d2] }
  | _ => none }
def btreeWalksRow : OpenClaim := { program := "ytncganfjbalkgaa", sum := "11715f8f83299adff57d87bba9b511717980ad8e62298ea1aba5901601bdd74e", func := "hasp/hasplaw07.BtreeWalks", spec := "btreeWalks", inPlace := ["internal/bytealg.abigen_runtime_cmpstring", "slices.overlaps[hasp/btree.part]"], unfollowed := true, recurses := true, apart := false }
def BtreeWalksSaid : Prop := btreeWalksRow.holds Try.pinned (OpenSpec.ofChange btreeWalksSpec)

/-- ITS FALSE NEIGHBOUR: 'it returns false'. Refute it at one input. -/
def btreeWalksWrong : ChangeSpec := { name := "btreeWalks", fn := fun _ => fun
  | [d1, d2] => { results := [.lit (.bool false)], args := [d1, d2] }
  | _ => none }
def BtreeWalksWrongFalsely : Prop := btreeWalksRow.holds Try.pinned (OpenSpec.ofChange btreeWalksWrong)

/-- 'hasplaw07.BtreeOrders': WHATEVER THE INPUT: true; the input reads as it did. -/
def btreeOrdersSpec : ChangeSpec := { name := "btreeOrders", fn := fun _ => fun
  | [d1, d2] => { results := [.lit (.bool true)], args := [d1, d2] }
  | _ => none }
def btreeOrdersRow : OpenClaim := { program := "ytncganfjbalkgaa", sum := "11715f8f83299adff57d87bba9b511717980ad8e62298ea1aba5901601bdd74e", func := "hasp/hasplaw07.BtreeOrders", spec := "btreeOrders", inPlace := ["internal/bytealg.abigen_runtime_cmpstring", "slices.overlaps[hasp/btree.part]"], unfollowed := true, recurses := true, apart := false }
def BtreeOrdersSaid : Prop := btreeOrdersRow.holds Try.pinned (OpenSpec.ofChange btreeOrdersSpec)

/-- ITS FALSE NEIGHBOUR: 'it returns false'. Refute it at one input. -/
def btreeOrdersWrong : ChangeSpec := { name := "btreeOrders", fn := fun _ => fun
  | [d1, d2] => { results := [.lit (.bool false)], args := [d1, d2] }
  | _ => none }
def BtreeOrdersWrongFalsely : Prop := btreeOrdersRow.holds Try.pinned (OpenSpec.ofChange btreeOrdersWrong)

/- THE SECOND FORM. 'bulk': how many values and letters a reading holds, each counted each time it is reached (what is shared counts as often as it is met; a slice's spare places count too). A statement '..UptoSaid' is the law's where the arguments, and the package variables that the reading takes, are together of bulk at most 1048576: NARROWER than '..Said'. Prove '..Said' where nothing that the law and all that it calls make is longer than what came in: it says more and counts as full. Else prove '..UptoSaid'. A law counts once. -/
mutual
def uptoBulk {H : Type} : DataW H → Nat
  | .lit (.string bytes) => bytes.length + 1
  | .lit _ => 1
  | .nil => 1
  | .ptr d => uptoBulk d + 1
  | .slice elems spare => uptoBulkAll elems + uptoBulkAll spare + 1
  | .agg parts => uptoBulkAll parts + 1
  | .iface _ d => uptoBulk d + 1
  | .map entries => uptoBulkEntries entries + 1
  | .held _ => 1
def uptoBulkAll {H : Type} : List (DataW H) → Nat
  | [] => 0
  | d :: r => uptoBulk d + uptoBulkAll r
def uptoBulkEntries {H : Type} : List (Lit × DataW H) → Nat
  | [] => 0
  | x :: r => uptoBulkEntry x + uptoBulkEntries r
def uptoBulkEntry {H : Type} : Lit × DataW H → Nat
  | (.string bytes, d) => bytes.length + uptoBulk d + 1
  | (_, d) => uptoBulk d + 1
 end
def uptoSmall : (H : Type) → List (DataW H) → Bool := fun _ ds => decide (uptoBulkAll ds ≤ 1048576)
def OpenSpec.upto (s : _root_.Go.ChangeSpec) : _root_.Go.OpenSpec := { _root_.Go.OpenSpec.ofChange s with cond := some uptoSmall }

/-- 'hasplaw07.BtreePlays', WHERE WHAT IT READS IS OF BULK AT MOST 1048576: true; the input reads as it did. -/
def btreePlaysUptoRow : OpenClaim := { program := "ytncganfjbalkgaa", sum := "11715f8f83299adff57d87bba9b511717980ad8e62298ea1aba5901601bdd74e", func := "hasp/hasplaw07.BtreePlays", spec := "btreePlays", inPlace := ["internal/bytealg.abigen_runtime_cmpstring", "slices.overlaps[hasp/btree.part]"], unfollowed := true, recurses := true, apart := false, narrowed := true }
def BtreePlaysUptoSaid : Prop := btreePlaysUptoRow.holds Try.pinned (OpenSpec.upto btreePlaysSpec)

/-- 'hasplaw07.BtreeFills', WHERE WHAT IT READS IS OF BULK AT MOST 1048576: true; the input reads as it did. -/
def btreeFillsUptoRow : OpenClaim := { program := "ytncganfjbalkgaa", sum := "11715f8f83299adff57d87bba9b511717980ad8e62298ea1aba5901601bdd74e", func := "hasp/hasplaw07.BtreeFills", spec := "btreeFills", inPlace := ["internal/bytealg.abigen_runtime_cmpstring", "slices.overlaps[hasp/btree.part]"], unfollowed := true, recurses := true, apart := false, narrowed := true }
def BtreeFillsUptoSaid : Prop := btreeFillsUptoRow.holds Try.pinned (OpenSpec.upto btreeFillsSpec)

/-- 'hasplaw07.BtreeWalks', WHERE WHAT IT READS IS OF BULK AT MOST 1048576: true; the input reads as it did. -/
def btreeWalksUptoRow : OpenClaim := { program := "ytncganfjbalkgaa", sum := "11715f8f83299adff57d87bba9b511717980ad8e62298ea1aba5901601bdd74e", func := "hasp/hasplaw07.BtreeWalks", spec := "btreeWalks", inPlace := ["internal/bytealg.abigen_runtime_cmpstring", "slices.overlaps[hasp/btree.part]"], unfollowed := true, recurses := true, apart := false, narrowed := true }
def BtreeWalksUptoSaid : Prop := btreeWalksUptoRow.holds Try.pinned (OpenSpec.upto btreeWalksSpec)

/-- 'hasplaw07.BtreeOrders', WHERE WHAT IT READS IS OF BULK AT MOST 1048576: true; the input reads as it did. -/
def btreeOrdersUptoRow : OpenClaim := { program := "ytncganfjbalkgaa", sum := "11715f8f83299adff57d87bba9b511717980ad8e62298ea1aba5901601bdd74e", func := "hasp/hasplaw07.BtreeOrders", spec := "btreeOrders", inPlace := ["internal/bytealg.abigen_runtime_cmpstring", "slices.overlaps[hasp/btree.part]"], unfollowed := true, recurses := true, apart := false, narrowed := true }
def BtreeOrdersUptoSaid : Prop := btreeOrdersUptoRow.holds Try.pinned (OpenSpec.upto btreeOrdersSpec)

end Rows
end Go.Proofs.Ytncganfjbalkgaa
