/-
  Values of the document as the translation has them, and contracts of comparisons over the translation: ints, texts, truths.
  Conditions: none.
-/
import Derived.Test.YtncganfjbalkgaaRef1
import Derived.Lib.SmallJoins
import Derived.Lib.Bytealg
namespace Go.Proofs.Ytncganfjbalkgaa
open Go.RowKit Go.Joins Go.ChangeShapes Go.WideShapes

/-- a value: its kind, number and text -/
def Vv (k n : Int) (s : ByteArray) : Value := .agg #[.int .i64 k, .int .i64 n, .string s]

def cmpI (a b : Int) : Int := if a < b then -1 else if b < a then 1 else 0
def SCmp (s t : ByteArray) : Int := Lib.compareBytes s.data.toList t.data.toList

theorem run_cmpstring (s t : ByteArray) (w : World) : (callFunc 56 #[.string s, .string t]).run Try.prog w = .ok (.value (.int .i64 (SCmp s t))) w := by
  rw [run_callFunc_extern (fn := Try.f56) (e := Extern.BytealgCompare.compare) (by kernel_rfl) (by kernel_rfl) (by kernel_rfl) (by kernel_rfl) (by kernel_rfl), Lib.run_compareString]
  rfl

theorem bacmp_any (s t : ByteArray) (w : World) :
    Calls Try.prog 54 #[.string s, .string t] w fun e w' => e = .returned (.int .i64 (SCmp s t)) ∧ w = w' := by
  have h1 := run_cmpstring s t
  go_enter Try.func54, Try.ntmps54
  go_wp2
  go_ret
  exact ⟨rfl, rfl⟩

theorem strcmp_any (s t : ByteArray) (w : World) :
    Calls Try.prog 50 #[.string s, .string t] w fun e w' => e = .returned (.int .i64 (SCmp s t)) ∧ w = w' := by
  go_enter Try.func50, Try.ntmps50
  go_wp2_with (go_at_call 54; refine (bacmp_any _ _ _).mono ?_; rintro e w' ⟨rfl, rfl⟩)
  go_ret
  exact ⟨rfl, rfl⟩

def b2i (x : Bool) : Int := if x then 1 else 0

end Go.Proofs.Ytncganfjbalkgaa
