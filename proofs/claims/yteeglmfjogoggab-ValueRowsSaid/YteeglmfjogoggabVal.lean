/-
  Values of the document as the translation has them, and contracts of comparisons over the translation: ints, texts, truths.
  Conditions: none.
-/
import Derived.Test.YteeglmfjogoggabRef1
import Derived.Lib.SmallJoins
import Derived.Lib.Bytealg
namespace Go.Proofs.Yteeglmfjogoggab
open Go.RowKit Go.Joins Go.ChangeShapes Go.WideShapes

/-- a value: its kind, number and text -/
def Vv (k n : Int) (s : ByteArray) : Value := .agg #[.int .i64 k, .int .i64 n, .string s]

theorem cellsV : Try.prog.cellsOf 24 = 3 := by kernel_rfl

theorem open_val {H : Type} {enc : TypeId × Value → H} {W : World} {base b0 : Nat} {spare : Nat → Bool} {held : Bool} {r : Reach} {v : Value} {d : DataW H} {p : List MemPlace}
    (o : Value.okWide Try.prog W r b0 24 v) (h : DataW.Trod enc Try.prog W base spare held 24 v d p) :
    ∃ k n s, v = Vv k n s ∧ InI k ∧ InI n ∧ s.size ≤ maxLen := by
  obtain ⟨c0, c1, c2, y0, y1, y2, m, rfl, -, -, h0, h1, h2⟩ := open_agg3 Try.underlying24 (by kernel_rfl) cellsV o h
  obtain ⟨k, e0, -, wk⟩ := DataW.trod_int Try.underlying3 h0
  obtain ⟨n, e1, -, wn⟩ := DataW.trod_int Try.underlying2 h1
  obtain ⟨s, e2, -, hs⟩ := DataW.trod_string Try.underlying9 h2
  simp only [List.cons.injEq, and_true] at e0 e1 e2
  subst e0 e1 e2
  exact ⟨k, n, s, rfl, bounds_i64 wk, bounds_i64 wn, hs⟩

def cmpI (a b : Int) : Int := if a < b then -1 else if b < a then 1 else 0
def SCmp (s t : ByteArray) : Int := Lib.compareBytes s.data.toList t.data.toList

theorem run_cmpstring (s t : ByteArray) (w : World) : (callFunc 48 #[.string s, .string t]).run Try.prog w = .ok (.value (.int .i64 (SCmp s t))) w := by
  rw [run_callFunc_extern (fn := Try.f48) (e := Extern.BytealgCompare.compare) (by kernel_rfl) (by kernel_rfl) (by kernel_rfl) (by kernel_rfl) (by kernel_rfl), Lib.run_compareString]
  rfl

theorem bacmp_any (s t : ByteArray) (w : World) :
    Calls Try.prog 42 #[.string s, .string t] w fun e w' => e = .returned (.int .i64 (SCmp s t)) ∧ w = w' := by
  have h1 := run_cmpstring s t
  go_enter Try.func42, Try.ntmps42
  go_wp2
  go_ret
  exact ⟨rfl, rfl⟩

theorem strcmp_any (s t : ByteArray) (w : World) :
    Calls Try.prog 31 #[.string s, .string t] w fun e w' => e = .returned (.int .i64 (SCmp s t)) ∧ w = w' := by
  go_enter Try.func31, Try.ntmps31
  go_wp2_with (go_at_call 42; refine (bacmp_any _ _ _).mono ?_; rintro e w' ⟨rfl, rfl⟩)
  go_ret
  exact ⟨rfl, rfl⟩

theorem cmpint_any (a b : Int) (w : World) :
    Calls Try.prog 29 #[.int .i64 a, .int .i64 b] w fun e w' => e = .returned (.int .i64 (cmpI a b)) ∧ w = w' := by
  unfold cmpI
  go_enter Try.func29, Try.ntmps29
  go_wp2
  all_goals
    go_ret
    exact ⟨ret_i (by (repeat' split) <;> omega), rfl⟩

theorem cmpint64_any (a b : Int) (w : World) :
    Calls Try.prog 32 #[.int .i64 a, .int .i64 b] w fun e w' => e = .returned (.int .i64 (cmpI a b)) ∧ w = w' := by
  unfold cmpI
  go_enter Try.func32, Try.ntmps32
  go_wp2
  all_goals
    go_ret
    exact ⟨ret_i (by (repeat' split) <;> omega), rfl⟩

theorem less_any (x y : Bool) (w : World) :
    Calls Try.prog 33 #[.bool x, .bool y] w fun e w' => e = .returned (.int .i64 (if x then -1 else if y then 1 else 0)) ∧ w = w' := by
  cases x <;> cases y
  all_goals
    go_enter Try.func33, Try.ntmps33
    go_wp2
    go_ret
    exact ⟨rfl, rfl⟩

def b2i (x : Bool) : Int := if x then 1 else 0

theorem truth_any (x : Bool) (w : World) :
    Calls Try.prog 35 #[.bool x] w fun e w' => e = .returned (.int .i64 (b2i x)) ∧ w = w' := by
  cases x
  all_goals
    go_enter Try.func35, Try.ntmps35
    go_wp2
    go_ret
    exact ⟨rfl, rfl⟩

end Go.Proofs.Yteeglmfjogoggab
