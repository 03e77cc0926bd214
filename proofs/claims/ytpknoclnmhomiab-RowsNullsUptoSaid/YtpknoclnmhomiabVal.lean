/-
  Values of the document as the translation has them, and contracts of comparisons over the translation: ints, texts, truths.
  Conditions: none.
-/
import Derived.Test.YtpknoclnmhomiabRef1
import Derived.Lib.SmallJoins
import Derived.Lib.Bytealg
namespace Go.Proofs.Ytpknoclnmhomiab
open Go.RowKit Go.Joins Go.ChangeShapes Go.WideShapes

/-- a value: its kind, number and text -/
def Vv (k n : Int) (s : ByteArray) : Value := .agg #[.int .i64 k, .int .i64 n, .string s]

theorem cellsV : Try.prog.cellsOf 43 = 3 := by kernel_rfl

theorem open_val {H : Type} {enc : TypeId × Value → H} {W : World} {base b0 : Nat} {spare : Nat → Bool} {held : Bool} {r : Reach} {v : Value} {d : DataW H} {p : List MemPlace}
    (o : Value.okWide Try.prog W r b0 43 v) (h : DataW.Trod enc Try.prog W base spare held 43 v d p) :
    ∃ k n s, v = Vv k n s ∧ InI k ∧ InI n ∧ s.size ≤ maxLen := by
  obtain ⟨c0, c1, c2, y0, y1, y2, m, rfl, -, -, h0, h1, h2⟩ := open_agg3 Try.underlying43 (by kernel_rfl) cellsV o h
  obtain ⟨k, e0, -, wk⟩ := DataW.trod_int Try.underlying3 h0
  obtain ⟨n, e1, -, wn⟩ := DataW.trod_int Try.underlying2 h1
  obtain ⟨s, e2, -, hs⟩ := DataW.trod_string Try.underlying9 h2
  simp only [List.cons.injEq, and_true] at e0 e1 e2
  subst e0 e1 e2
  exact ⟨k, n, s, rfl, bounds_i64 wk, bounds_i64 wn, hs⟩

def cmpI (a b : Int) : Int := if a < b then -1 else if b < a then 1 else 0
def SCmp (s t : ByteArray) : Int := Lib.compareBytes s.data.toList t.data.toList

def b2i (x : Bool) : Int := if x then 1 else 0

end Go.Proofs.Ytpknoclnmhomiab
