/-
  The calls on modes, the program's and the document's: contracts over the translation.
  Conditions: the variables hold what the program's text lays.
-/
import Derived.Test.YtgndbhgpdcelpaaDoorMd1
namespace Go.Proofs.YtgndbhgpdcelpaaDoor
set_option maxRecDepth 100000
open Go.RowKit Go.Joins Go.ChangeShapes Go.WideShapes
set_option linter.unusedVariables false
set_option linter.unusedSimpArgs false

/-- stands a mode in the tables? -/
def kn (a : Int) : Bool := decide (0 ≤ a) && decide (a ≤ 6)
def mrg (a : Int) : Bool := decide (1 ≤ a) && decide (a ≤ 6)
def tgI (a b : Int) : Bool := kn a && kn b && tb tgL a.toNat b.toNat
def cvI (a b : Int) : Bool := kn a && kn b && tb cvL a.toNat b.toNat
def jnN (a b : Int) : Nat → Nat → Int
  | _, 0 => 0
  | m, n + 1 => if cvI m a && cvI m b then m else jnN a b (m + 1) n
def jnI (a b : Int) : Int := jnN a b 0 7
theorem kn_cases {a : Int} (h : kn a = true) : ∃ n : Nat, a = n ∧ n < 7 := by
  simp only [kn, Bool.and_eq_true, decide_eq_true_eq] at h
  exact ⟨a.toNat, by omega, by omega⟩

theorem right_any (a : Int) (w : World) : Calls Tryd.prog 37 #[.int .i64 a] w fun e w' => e = .returned (.bool (mrg a)) ∧ w = w' := by
  obtain ⟨r, hr⟩ : ∃ r, mrg a = r := ⟨_, rfl⟩
  rw [hr]
  by_cases c1 : 1 ≤ a
  · by_cases c2 : a ≤ 6
    · obtain rfl : r = true := by rw [← hr]; simp [mrg, c1, c2]
      clear hr
      go_enter Tryd.func37, Tryd.ntmps37
      go_wp2
      go_ret
      exact ⟨rfl, rfl⟩
    · obtain rfl : r = false := by rw [← hr]; simp [mrg, c2]
      clear hr
      go_enter Tryd.func37, Tryd.ntmps37
      go_wp2
      go_ret
      exact ⟨rfl, rfl⟩
  · obtain rfl : r = false := by rw [← hr]; simp [mrg, c1]
    clear hr
    go_enter Tryd.func37, Tryd.ntmps37
    go_wp2
    go_ret
    exact ⟨rfl, rfl⟩
theorem known_any (a : Int) (w : World) : Calls Tryd.prog 46 #[.int .i64 a] w fun e w' => e = .returned (.bool (kn a)) ∧ w = w' := by
  have HR := Lib.hid (right_any a w)
  by_cases c1 : a = 0
  · subst c1
    have hr : kn 0 = true := rfl
    rw [hr]
    go_enter Tryd.func46, Tryd.ntmps46
    go_wp2
    go_ret
    exact ⟨rfl, rfl⟩
  · have e : kn a = mrg a := by
      unfold kn mrg
      rw [show decide (0 ≤ a) = decide (1 ≤ a) by rw [decide_eq_decide]; omega]
    rw [e]
    have c2 : (a == 0) = false := by simp [c1]
    generalize mrg a = r at *
    go_enter Tryd.func46, Tryd.ntmps46
    go_wp2_with (first | (go_at_call 37; refine HR.out.mono ?_; rintro e w' ⟨rfl, rfl⟩))
    go_ret
    exact ⟨rfl, rfl⟩

end Go.Proofs.YtgndbhgpdcelpaaDoor
