/-
  The document's number (haspref12): contracts over the translation.
  Conditions: none.
-/
import Derived.Test.YtlhipnklljjahaaDoorLx24
namespace Go.Proofs.YtlhipnklljjahaaDoor
set_option maxRecDepth 100000
open Go.RowKit Go.Joins Go.ChangeShapes Go.WideShapes
set_option linter.unusedVariables false
set_option linter.unusedSimpArgs false

/-- what the document's reader of a token answers -/
def RTok (x : Except Nat (Tk × Nat)) (i : Nat) (w : World) (e : Ending) (w' : World) : Prop := Below w.heap.size w w' ∧ match x with
  | .error er => ∃ j : Int, e = .returned (.tuple #[Tkv 0 ⟨#[]⟩ 0 0, .int .i64 j, .int .i64 (er : Int)])
  | .ok (t, k) => e = .returned (.tuple #[Tkv t.kind (strB t.text) t.num t.scale, .int .i64 ((i + k : Nat) : Int), .int .i64 0])
theorem getD_drop (l : List Nat) (i k : Nat) : (l.drop i).getD k 0 = l.getD (i + k) 0 := by
  rw [List.getD_eq_getElem?_getD, List.getD_eq_getElem?_getD, List.getElem?_drop]
theorem take_snoc (l : List Nat) (k : Nat) (h : k < l.length) : l.take (k + 1) = l.take k ++ [l.getD k 0] := by
  rw [List.take_add_one, List.getElem?_eq_getElem h, List.getD_eq_getElem?_getD, List.getElem?_eq_getElem h]
  rfl
theorem rtok_ret {R : Ending → World → Prop} {fn : Func} (hr : fn.results = #[.cell 4 29, .tmp 5, .tmp 6]) {a : Act} {w : World} {g : Nat} {k n sc j er : Int} {s : ByteArray} (hb : TBox w g k n sc s)
    (h2 : a.tmps[4]?.getD undef = .pointer (some ⟨g, 0, none⟩)) (h3 : a.tmps[5]?.getD undef = .int .i64 j) (h4 : a.tmps[6]?.getD undef = .int .i64 er) (hd : a.defers = []) (hR : R (.returned (.tuple #[Tkv k s n sc, .int .i64 j, .int .i64 er])) w) : bodyPost Tryd.prog fn R .ret a w := by
  obtain ⟨⟨z0, z1, z2, z3⟩, _⟩ := hb.cells
  exact bodyPost_ret (v := .tuple #[Tkv k s n sc, .int .i64 j, .int .i64 er]) (by simp [results, hr, go_sem, z0, z1, z2, z3, h2, h3, h4, Tkv]) hd hR
theorem box4_below {B : Nat} {w w2 : World} (h : Below B w w2) {g : Nat} (hg : B ≤ g) (v0 v1 v2 v3 : Value) : Below B w ((((w2.setCell ⟨g, 0, none⟩ v0).setCell ⟨g, 1, none⟩ v1).setCell ⟨g, 2, none⟩ v2).setCell ⟨g, 3, none⟩ v3) :=
  (((h.setCell hg v0).setCell hg v1).setCell hg v2).setCell hg v3
theorem frac_at (l : List Nat) (k : Nat) : fracL (l.drop k) = (l.getD k 0 == 46 && dgL (l.getD (k + 1) 0)) := by
  have e0 : l.getD k 0 = (l.drop k).getD 0 0 := by rw [getD_drop]; rfl
  have e1 : l.getD (k + 1) 0 = (l.drop k).getD 1 0 := by rw [getD_drop]
  rw [e0, e1]
  cases l.drop k with
  | nil => rfl
  | cons a r =>
    cases r with
    | nil => show false = (a == 46 && dgL 0); rw [show dgL 0 = false from rfl, Bool.and_false]
    | cons d r => rfl
end Go.Proofs.YtlhipnklljjahaaDoor
