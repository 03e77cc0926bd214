/-
  Contract over the translation: the values of a key's bytes (haspref05.Decode).
  Conditions: the bytes lie in memory.
-/
import Derived.Test.YtpknoclnmhomiabKey5
namespace Go.Proofs.Ytpknoclnmhomiab
open Go.RowKit Go.Joins Go.ChangeShapes Go.WideShapes
set_option linter.unusedVariables false

def DecOk (W : World) (X : List Vt × Int) (e : Ending) (w' : World) : Prop :=
  ∃ v, e = .returned (.tuple #[v, .int .i64 X.2]) ∧ (X.2 = 0 → OwV w' W.heap.size v X.1) ∧ (X.2 ≠ 0 → ∃ a c, v = .slice a 0 c) ∧ Below W.heap.size W w'

/-- the state of the region that reads a number -/
def DS (W w : World) (B : Nat) (v : Value) (l : List Vt) (g : Nat) (k : Int) : Prop := EnV W w B v l ∧ BoxX w g k Em ∧ B ≤ g ∧ v.ownBlock ≠ some g
theorem ds_all {W w : World} {B : Nat} {v : Value} {l : List Vt} {g : Nat} {k : Int} (h : DS W w B v l g k) :
    DS W w B v l g k ∧ w.cell? ⟨g, 0, none⟩ = some (.int .i64 k) ∧ w.cell? ⟨g, 1, none⟩ = some (bval w g 1) ∧ w.cell? ⟨g, 2, none⟩ = some (.string Em) ∧ w.frozen? ⟨g, 1, none⟩ = false := ⟨h, h.2.1.cells⟩
theorem DS.drew {W w : World} {B : Nat} {v : Value} {l : List Vt} {g : Nat} {k : Int} (h : DS W w B v l g k) : DS W w.drew B v l g k := ⟨h.1.drew, h.2.1.drew, h.2.2⟩
theorem DS.set {W w : World} {B : Nat} {v : Value} {l : List Vt} {g : Nat} {k : Int} (h : DS W w B v l g k) (u : Value) : DS W (w.setCell ⟨g, 1, none⟩ u) B v l g k := ⟨h.1.set h.2.2.1 h.2.2.2 u, h.2.1.set u, h.2.2⟩

theorem DS.bel {W w : World} {B : Nat} {v : Value} {l : List Vt} {g : Nat} {k : Int} (h : DS W w B v l g k) : Below B W w := h.1.bel
theorem ds_fin {W w : World} {B : Nat} {v : Value} {l : List Vt} {g : Nat} {k : Int} (h : DS W w B v l g k) (n : Int) : EnV W (w.setCell ⟨g, 1, none⟩ (.int .i64 n)) B v l ∧ BoxV (w.setCell ⟨g, 1, none⟩ (.int .i64 n)) g k n Em := ⟨(h.set _).1, h.2.1.setV n⟩

end Go.Proofs.Ytpknoclnmhomiab
