/-
  The listed variables of the library's: what the walks want of them, and a world in which they hold what is laid (layer 12).
  Conditions: none.
-/
import Derived.Test.YtlhipnklljjahaaDoorLx23
import Derived.Test.YtlhipnklljjahaaDoorCards
import Derived.Stop.LaidErr
import Derived.Great.CaseRows
import Derived.Lib.LaidIn
namespace Go.Proofs.YtlhipnklljjahaaDoor
set_option maxRecDepth 100000
open Go.RowKit Go.Joins Go.ChangeShapes Go.WideShapes
set_option linter.unusedVariables false
set_option linter.unusedSimpArgs false

/-- the list of the rows of this layer -/
def lxLaid : List (String × DataW Unit) := [("math/bits.deBruijn32tab", Rows.laid_math_bits_deBruijn32tab), ("math/bits.deBruijn64tab", Rows.laid_math_bits_deBruijn64tab), ("internal/strconv.uint64pow10", Rows.laid_internal_strconv_uint64pow10), ("unicode/utf8.acceptRanges", Rows.laid_unicode_utf8_acceptRanges), ("strconv.ErrRange", Rows.laid_strconv_ErrRange), ("strconv.ErrSyntax", Rows.laid_strconv_ErrSyntax), ("unicode.CaseRanges", Rows.laid_unicode_CaseRanges), ("unicode/utf8.first", Rows.laid_unicode_utf8_first)]
theorem lx_nohandle (w : World) : laidMetH Tryd.prog lxLaid w = laidMet Tryd.prog lxLaid w := by
  have e : (lxLaid.filter fun x => x.2.handleName?.isSome) = [] := by kernel_rfl
  unfold laidMetH
  rw [e]
theorem errs_star : "*" ++ "errors.errorString" = "*errors.errorString" := by decide
theorem errs_row (u : TypeId) (h : Tryd.prog.typeName? 3 u = some "*errors.errorString") : u = 87 :=
  typeName_ptr_named (nm := "errors.errorString") (by rw [errs_star]; kernel_rfl) (by kernel_rfl) (by decide) u (by rw [errs_star]; exact h)
theorem errr_of_laid {W : World} (h : laidMetH Tryd.prog lxLaid W) : ErrR W := by
  rw [lx_nohandle] at h
  have h4 := h.tail.tail.tail.tail
  obtain ⟨a0, s0, hv0, _⟩ := laid_sentinel (g := 3) (ti := 47) (tp := 87) (te := 89) (ts := 9) h4 (by kernel_rfl) (by kernel_rfl) Tryd.underlying47 errs_row Tryd.underlying87 Tryd.underlying89 rfl rfl Tryd.underlying9 (by kernel_rfl) (by kernel_rfl)
  exact ⟨_, World.var?_cell (by kernel_rfl) hv0 0, .inr ⟨_, _, rfl⟩⟩

/-! a world in which the variables hold what is laid -/
def litsOf (d : DataW Unit) : List Value := match d with
  | .agg ps => ps.flatMap fun x => match x with
    | .lit (.int k n) => [.int k n]
    | .agg qs => qs.flatMap fun y => match y with
      | .lit (.int k n) => [.int k n]
      | _ => []
    | _ => []
  | _ => []
def setRowOf (cs : Array Value) : Obj → Obj
  | .cells _ t frozen => .cells cs t frozen
  | o => o
noncomputable abbrev lx0 (os : Os) : Array Obj := (World.holding Tryd.prog os ⟨#[], #[], []⟩).heap
noncomputable def lxHeap (os : Os) : Array Obj :=
  (((((((((((lx0 os).modify 7 (setRowOf (litsOf Rows.laid_math_bits_deBruijn32tab).toArray)).modify 8 (setRowOf (litsOf Rows.laid_math_bits_deBruijn64tab).toArray)).modify 6 (setRowOf (litsOf Rows.laid_internal_strconv_uint64pow10).toArray)).modify 5 (setRowOf (litsOf Rows.laid_unicode_utf8_acceptRanges).toArray)).modify 3 (setRowOf #[.iface 87 (.pointer (some ⟨(lx0 os).size, 0, none⟩))])).modify 2 (setRowOf #[.iface 87 (.pointer (some ⟨(lx0 os).size + 1, 0, none⟩))])).modify 1 (setRowOf #[.slice (some ⟨(lx0 os).size + 2, 0, none⟩) Go.Pinned.caseRows.length Go.Pinned.caseRows.length])).modify 4 (setRowOf (litsOf Rows.laid_unicode_utf8_first).toArray)).push
    (.cells #[.string ⟨#[118, 97, 108, 117, 101, 32, 111, 117, 116, 32, 111, 102, 32, 114, 97, 110, 103, 101]⟩] 89 (0, 0))).push (.cells #[.string ⟨#[105, 110, 118, 97, 108, 105, 100, 32, 115, 121, 110, 116, 97, 120]⟩] 89 (0, 0))).push (.cells (Go.Pinned.caseRows.flatMap Go.Lib.cells5).toArray 93 (0, 0))
noncomputable def lxWorld (os : Os) : World := { World.holding Tryd.prog os ⟨#[], #[], []⟩ with heap := lxHeap os }
theorem lx_cty : Go.Great.CTypes Tryd.prog 72 93 91 69 21 := ⟨by kernel_rfl, by kernel_rfl, by kernel_rfl, by kernel_rfl, by kernel_rfl, by kernel_rfl, by kernel_rfl, by kernel_rfl, by kernel_rfl⟩
theorem lx_small (os : Os) : LaidIn Tryd.prog (lxWorld os) [("math/bits.deBruijn32tab", Rows.laid_math_bits_deBruijn32tab), ("math/bits.deBruijn64tab", Rows.laid_math_bits_deBruijn64tab), ("internal/strconv.uint64pow10", Rows.laid_internal_strconv_uint64pow10), ("unicode/utf8.acceptRanges", Rows.laid_unicode_utf8_acceptRanges), ("strconv.ErrRange", Rows.laid_strconv_ErrRange), ("strconv.ErrSyntax", Rows.laid_strconv_ErrSyntax)] [7, 8, 6, 5, 3, (lx0 os).size, 2, (lx0 os).size + 1] :=
  LaidIn.of_run _ 8 (by kernel_rfl) (by kernel_rfl) (by kernel_rfl) (by kernel_rfl)
theorem lx_case (os : Os) : LaidIn Tryd.prog (lxWorld os) [("unicode.CaseRanges", Rows.laid_unicode_CaseRanges)] [1, (lx0 os).size + 2] :=
  Go.Great.laidIn_case lx_cty (name := "unicode.CaseRanges") (g := 1) (B := (lx0 os).size + 2) (tg := 72) (tb := 93) Go.Pinned.caseRows (by kernel_rfl) (by kernel_rfl) (Nat.le_of_ble_eq_true (by kernel_rfl)) (by kernel_rfl) (by kernel_rfl) (by kernel_rfl) (Nat.ne_of_beq_eq_false (by kernel_rfl))
theorem lx_first (os : Os) : LaidIn Tryd.prog (lxWorld os) [("unicode/utf8.first", Rows.laid_unicode_utf8_first)] [4] :=
  LaidIn.of_run _ 8 (by kernel_rfl) (by kernel_rfl) (by kernel_rfl) (by kernel_rfl)
theorem lx_met (os : Os) : laidMet Tryd.prog lxLaid (lxWorld os) :=
  (LaidIn.append (LaidIn.append (lx_small os) (lx_case os) (by kernel_rfl)) (lx_first os) (by kernel_rfl)).met

end Go.Proofs.YtlhipnklljjahaaDoor
