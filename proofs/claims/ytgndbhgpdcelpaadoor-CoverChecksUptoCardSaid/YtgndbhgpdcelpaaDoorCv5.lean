/-
  The checker's small functions and predicates: contracts over the translation.
  Conditions: the captured variables lie in memory.
-/
import Derived.Test.YtgndbhgpdcelpaaDoorCv4
import Derived.Deep.RegionHeld3
namespace Go.Proofs.YtgndbhgpdcelpaaDoor
set_option maxRecDepth 100000
open Go.RowKit Go.Joins Go.ChangeShapes Go.WideShapes
set_option linter.unusedVariables false
set_option linter.unusedSimpArgs false

theorem keym_any (x : Ins) (w : World) : Calls Tryd.prog 43 #[x.val] w fun e w' => e = .returned (.int .i64 x.mode) ∧ Below w.heap.size w w' := by
  unfold Ins.val
  go_enter Tryd.func43, Tryd.ntmps43
  go_wp2_with fail
  go_ret
  exact ⟨rfl, (Below.refl _ _).alloc (Nat.le_refl _) _⟩
theorem rowm_any (x : Ins) (w : World) : Calls Tryd.prog 44 #[x.val] w fun e w' => e = .returned (.int .i64 x.part) ∧ Below w.heap.size w w' := by
  unfold Ins.val
  go_enter Tryd.func44, Tryd.ntmps44
  go_wp2_with fail
  go_ret
  exact ⟨rfl, (Below.refl _ _).alloc (Nat.le_refl _) _⟩
theorem islock_any (x : Ins) (w : World) : Calls Tryd.prog 27 #[x.val] w fun e w' => e = .returned (.bool (x.op == 1)) ∧ Below w.heap.size w w' := by
  unfold Ins.val
  cases h : x.op == 1
  all_goals
    go_enter Tryd.func27, Tryd.ntmps27
    go_wp2_with fail
    go_ret
    exact ⟨by first | rfl | simp [h], (Below.refl _ _).alloc (Nat.le_refl _) _⟩
theorem isgrd_any (x : Ins) (w : World) : Calls Tryd.prog 48 #[x.val] w fun e w' => e = .returned (.bool (x.op == 9)) ∧ Below w.heap.size w w' := by
  unfold Ins.val
  cases h : x.op == 9
  all_goals
    go_enter Tryd.func48, Tryd.ntmps48
    go_wp2_with fail
    go_ret
    exact ⟨by first | rfl | simp [h], (Below.refl _ _).alloc (Nat.le_refl _) _⟩
theorem iscur_any (n : Int) (w : World) : Calls Tryd.prog 38 #[.int .i64 n] w fun e w' => e = .returned (.bool (decide (0 ≤ n) && decide (n < 4))) ∧ w = w' := by
  by_cases h1 : 0 ≤ n
  · by_cases h2 : n < 4
    all_goals
      go_enter Tryd.func38, Tryd.ntmps38
      go_wp2_with fail
      go_ret
      exact ⟨by simp [h1, h2], rfl⟩
  · go_enter Tryd.func38, Tryd.ntmps38
    go_wp2_with fail
    go_ret
    exact ⟨by simp [h1]; omega, rfl⟩
theorem ismode_any (n : Int) (w : World) : Calls Tryd.prog 25 #[.int .i64 n] w fun e w' => e = .returned (.bool (kn n)) ∧ w = w' := by
  have HR := Lib.hid (right_any n w)
  by_cases c1 : n = 0
  · subst c1
    have hr : kn 0 = true := rfl
    rw [hr]
    go_enter Tryd.func25, Tryd.ntmps25
    go_wp2
    go_ret
    exact ⟨rfl, rfl⟩
  · have e : kn n = mrg n := by
      unfold kn mrg
      rw [show decide (0 ≤ n) = decide (1 ≤ n) by rw [decide_eq_decide]; omega]
    rw [e]
    have c2 : (n == 0) = false := by simp [c1]
    generalize mrg n = r at *
    go_enter Tryd.func25, Tryd.ntmps25
    go_wp2_with (first | (go_at_call 37; refine HR.out.mono ?_; rintro e w' ⟨rfl, rfl⟩))
    go_ret
    exact ⟨rfl, rfl⟩
theorem isplace_any (tb : ByteArray) (a : Option Addr) (n cap : Nat) (k : Int) (w : World) : Calls Tryd.prog 39 #[.agg #[.string tb, .slice a n cap], .int .i64 k] w fun e w' => e = .returned (.bool (decide (0 ≤ k) && decide (k < n))) ∧ Below w.heap.size w w' := by
  by_cases h1 : 0 ≤ k
  · by_cases h2 : k < n
    all_goals
      go_enter Tryd.func39, Tryd.ntmps39
      go_wp2_with fail
      go_ret
      exact ⟨by simp [h1, h2], (Below.refl _ _).alloc (Nat.le_refl _) _⟩
  · go_enter Tryd.func39, Tryd.ntmps39
    go_wp2_with fail
    go_ret
    exact ⟨by simp [h1]; omega, (Below.refl _ _).alloc (Nat.le_refl _) _⟩

end Go.Proofs.YtgndbhgpdcelpaaDoor
