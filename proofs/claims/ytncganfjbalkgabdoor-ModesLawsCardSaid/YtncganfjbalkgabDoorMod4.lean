/-
  The document's calls on modes: contracts over the translation.
  Conditions: none.
-/
import Derived.Test.YtncganfjbalkgabDoorMod3
namespace Go.Proofs.YtncganfjbalkgabDoor
open Go.RowKit Go.Joins Go.ChangeShapes Go.WideShapes
set_option linter.unusedVariables false
set_option linter.unusedSimpArgs false

theorem seven {n : Nat} (h : n < 7) : n = 0 ∨ n = 1 ∨ n = 2 ∨ n = 3 ∨ n = 4 ∨ n = 5 ∨ n = 6 := by omega
theorem kn_no {a : Int} (h : kn a = false) : a < 0 ∨ 6 < a := by
  simp only [kn, Bool.and_eq_false_iff, decide_eq_false_iff_not] at h
  omega
theorem join_eq : ∀ a, a < 7 → ∀ b, b < 7 → (decide (jnI (a : Nat) (b : Nat) = (a : Nat)) = cvI (a : Nat) (b : Nat) ∧ kn (jnI (a : Nat) (b : Nat)) = true) := by decide +kernel
theorem rright_any (a : Int) (w : World) : Calls Tryd.prog 21 #[.int .i64 a] w fun e w' => e = .returned (.bool (rg a)) ∧ w = w' := by
  obtain ⟨r, hr⟩ : ∃ r, rg a = r := ⟨_, rfl⟩
  rw [hr]
  by_cases c1 : 0 < a
  · by_cases c2 : a < 7
    · obtain rfl : r = true := by rw [← hr]; simp [rg]; omega
      clear hr
      go_enter Tryd.func21, Tryd.ntmps21
      go_wp2
      go_ret
      exact ⟨rfl, rfl⟩
    · obtain rfl : r = false := by rw [← hr]; simp [rg]; omega
      clear hr
      go_enter Tryd.func21, Tryd.ntmps21
      go_wp2
      go_ret
      exact ⟨rfl, rfl⟩
  · obtain rfl : r = false := by rw [← hr]; simp [rg]; omega
    clear hr
    go_enter Tryd.func21, Tryd.ntmps21
    go_wp2
    go_ret
    exact ⟨rfl, rfl⟩
set_option maxHeartbeats 4000000 in
theorem rtog_no (a b : Int) (w : World) (h : kn a = false ∨ kn b = false) : Calls Tryd.prog 23 #[.int .i64 a, .int .i64 b] w fun e w' => e = .returned (.bool false) ∧ Below w.heap.size w w' := by
  by_cases c1 : a < 0
  · go_enter Tryd.func23, Tryd.ntmps23
    go_wp2
    go_ret
    exact ⟨rfl, (Below.refl _ _).alloc (Nat.le_refl _) _⟩
  · by_cases c2 : 6 < a
    · go_enter Tryd.func23, Tryd.ntmps23
      go_wp2
      go_ret
      exact ⟨rfl, (Below.refl _ _).alloc (Nat.le_refl _) _⟩
    · by_cases c3 : b < 0
      · go_enter Tryd.func23, Tryd.ntmps23
        go_wp2
        go_ret
        exact ⟨rfl, (Below.refl _ _).alloc (Nat.le_refl _) _⟩
      · have c4 : 6 < b := by
          rcases h with h | h
          · have := kn_no h; omega
          · have := kn_no h; omega
        go_enter Tryd.func23, Tryd.ntmps23
        go_wp2
        go_ret
        exact ⟨rfl, (Below.refl _ _).alloc (Nat.le_refl _) _⟩
set_option maxHeartbeats 40000000 in
theorem rtog_yes (a b : Nat) (w : World) (ha : a < 7) (hb : b < 7) : Calls Tryd.prog 23 #[.int .i64 a, .int .i64 b] w fun e w' => e = .returned (.bool (tgI a b)) ∧ Below w.heap.size w w' := by
  rcases seven ha with rfl | rfl | rfl | rfl | rfl | rfl | rfl <;> rcases seven hb with rfl | rfl | rfl | rfl | rfl | rfl | rfl
  all_goals
    go_enter Tryd.func23, Tryd.ntmps23
    go_wp2
    go_ret
    exact ⟨rfl, (Below.refl _ _).alloc (Nat.le_refl _) _⟩

end Go.Proofs.YtncganfjbalkgabDoor
