/-
  bytes.ToLower at text of one byte or more, each below 128, by the library's own contract.
  Conditions: none.
-/
import Derived.Test.YtlhipnklljjahaaDoorLx9
import Derived.Shelf.Bytes.SlCase
namespace Go.Proofs.YtlhipnklljjahaaDoor
set_option maxRecDepth 100000
open Go.RowKit Go.Joins Go.ChangeShapes Go.WideShapes
set_option linter.unusedVariables false
set_option linter.unusedSimpArgs false

/-- the numbers that the library's text has here -/
def tlRen : Go.Shelf.Ren where
  f := fun x => match x with
    | 10 => 28
    | 15 => 35
    | 16 => 36
    | 18 => 37
    | n => n
  t := fun x => match x with
    | 0 => 0
    | 3 => 3
    | 4 => 4
    | 5 => 5
    | 22 => 27
    | 30 => 52
    | 21 => 21
    | n => n
  g := fun x => x
theorem tlLays : Go.Proofs.SlLaysU.n10 Tryd.prog tlRen :=
  { mixed := by kernel_rfl, f10 := Eq.trans Tryd.func28 (congrArg some rfl), f15 := Eq.trans Tryd.func35 (congrArg some rfl),
    t0 := Tryd.underlying0, a0 := Tryd.isAgg0, z0 := Tryd.sizeOf0, v0 := Tryd.zeroValue0,
    t3 := Tryd.underlying3, a3 := Tryd.isAgg3, z3 := Tryd.sizeOf3, v3 := Tryd.zeroValue3,
    t4 := Tryd.underlying4, a4 := Tryd.isAgg4, z4 := Tryd.sizeOf4, v4 := Tryd.zeroValue4,
    t5 := Tryd.underlying5, a5 := Tryd.isAgg5, z5 := Tryd.sizeOf5, v5 := Tryd.zeroValue5,
    t22 := Tryd.underlying27, a22 := Tryd.isAgg27, z22 := Tryd.sizeOf27, v22 := Tryd.zeroValue27,
    t30 := Tryd.underlying52, a30 := Tryd.isAgg52, z30 := Tryd.sizeOf52, v30 := Tryd.zeroValue52,
    i5 := by kernel_rfl }
theorem tl_any (a : Addr) (n c : Nat) (xs : List Int) (w : World) (hx : xs.length = n) (hasc : ∀ x ∈ xs, 0 ≤ x ∧ x < 128) (hc : ∀ i, i < n → w.cell? (a.add i) = some (.int .u8 (xs.getD i 0))) (h0 : 0 < n) (hs : n ≤ 140737488355328) :
    Calls Tryd.prog 28 #[.slice (some a) n c] w fun e w' => ∃ v', e = .returned v' ∧ Lib.FreshBytes w.heap.size w' v' (Lib.toLowerA (Lib.bytesOf xs)) ∧ Below w.heap.size w w' :=
  Go.Proofs.Any.bytes_ToLower_at tlLays a n c xs w hx hasc hc h0 hs

end Go.Proofs.YtlhipnklljjahaaDoor
