/-
  Contracts over the translation: truths and values, of package value (layer 2) and of the document's answer.
  Conditions: none.
-/
import Derived.Test.YteeglmfjogoggabVal4
namespace Go.Proofs.Yteeglmfjogoggab
open Go.RowKit Go.Joins Go.ChangeShapes Go.WideShapes
set_option linter.unusedVariables false

theorem num_any (n : Int) (w : World) :
    Calls Try.prog 25 #[.int .i64 n] w fun e w' => e = .returned (Vv 2 n ⟨#[]⟩) ∧ Below w.heap.size w w' := by
  go_enter Try.func25, Try.ntmps25
  go_wp2
  exact bodyPost_ret (v := Vv 2 n ⟨#[]⟩) (by simp [results, Try.results25, go_sem, Vv]) rfl ⟨rfl, (Below.refl _ _).alloc (Nat.le_refl _) _⟩

theorem rl_any (n : Int) (w : World) :
    Calls Try.prog 26 #[.int .i64 n] w fun e w' => e = .returned (Vv 3 n ⟨#[]⟩) ∧ Below w.heap.size w w' := by
  go_enter Try.func26, Try.ntmps26
  go_wp2
  exact bodyPost_ret (v := Vv 3 n ⟨#[]⟩) (by simp [results, Try.results26, go_sem, Vv]) rfl ⟨rfl, (Below.refl _ _).alloc (Nat.le_refl _) _⟩

/-- the truth that a value is, and the error's number -/
def VT (k n : Int) : Int × Int := if k = 0 then (2, 0) else if k = 1 then (b2i (n == 1), 0) else (0, 30)

theorem vtruth_any (k n : Int) (s : ByteArray) (w : World) :
    Calls Try.prog 21 #[Vv k n s] w fun e w' => e = .returned (.agg #[.int .i64 (VT k n).1, .int .i64 (VT k n).2]) ∧ Below w.heap.size w w' := by
  unfold Vv
  by_cases h0 : k = 0
  · subst h0
    rw [show VT 0 n = (2, 0) from rfl]
    go_enter Try.func21, Try.ntmps21
    go_wp2
    exact bodyPost_ret (v := .agg #[.int .i64 2, .int .i64 0]) (by simp [results, Try.results21, go_sem]) rfl ⟨rfl, two_below _ _ _⟩
  · have b0 : (k == 0) = false := by simpa using h0
    by_cases h1 : k = 1
    · subst h1
      rw [show VT 1 n = (b2i (n == 1), 0) from rfl]
      generalize hx : (n == 1) = x
      go_enter Try.func21, Try.ntmps21
      go_wp2_with (go_at_call 35; refine (truth_any _ _).mono ?_; rintro e w' ⟨rfl, rfl⟩)
      exact bodyPost_ret (v := .agg #[.int .i64 (b2i x), .int .i64 0]) (by simp [results, Try.results21, go_sem]) rfl ⟨rfl, two_below _ _ _⟩
    · have b1 : (k == 1) = false := by simpa using h1
      rw [show VT k n = (0, 30) by unfold VT; rw [if_neg h0, if_neg h1]]
      clear h0 h1
      go_enter Try.func21, Try.ntmps21
      go_wp2
      exact bodyPost_ret (v := .agg #[.int .i64 0, .int .i64 30]) (by simp [results, Try.results21, go_sem]) rfl ⟨rfl, two_below _ _ _⟩

theorem reftruth_any (k n : Int) (s : ByteArray) (w : World) :
    Calls Try.prog 22 #[Vv k n s] w fun e w' => e = .returned (.tuple #[.int .i64 (VT k n).1, .int .i64 (VT k n).2]) ∧ Below w.heap.size w w' := by
  unfold Vv
  by_cases h0 : k = 0
  · subst h0
    rw [show VT 0 n = (2, 0) from rfl]
    go_enter Try.func22, Try.ntmps22
    go_wp2
    go_ret2
    exact ⟨rfl, (Below.refl _ _).alloc (Nat.le_refl _) _⟩
  · have b0 : (k == 0) = false := by simpa using h0
    by_cases h1 : k = 1
    · subst h1
      rw [show VT 1 n = (b2i (n == 1), 0) from rfl]
      by_cases c : n = 1
      · subst c
        go_enter Try.func22, Try.ntmps22
        go_wp2
        go_ret2
        exact ⟨rfl, (Below.refl _ _).alloc (Nat.le_refl _) _⟩
      · have c1 : (n == 1) = false := by simpa using c
        rw [c1]
        clear c
        go_enter Try.func22, Try.ntmps22
        go_wp2
        go_ret2
        exact ⟨rfl, (Below.refl _ _).alloc (Nat.le_refl _) _⟩
    · have b1 : (k != 1) = true := by simpa using h1
      rw [show VT k n = (0, 30) by unfold VT; rw [if_neg h0, if_neg h1]]
      clear h0 h1
      go_enter Try.func22, Try.ntmps22
      go_wp2
      go_ret2
      exact ⟨rfl, (Below.refl _ _).alloc (Nat.le_refl _) _⟩

/-- the value that a truth is: its kind and number -/
def VO (t : Int) : Int × Int := if t = 0 then (1, 0) else if t = 1 then (1, 1) else (0, 0)

theorem vof_any (t : Int) (w : World) :
    Calls Try.prog 23 #[.int .i64 t] w fun e w' => e = .returned (Vv (VO t).1 (VO t).2 ⟨#[]⟩) ∧ Below w.heap.size w w' := by
  by_cases h0 : t = 0
  · subst h0
    rw [show VO 0 = (1, 0) from rfl]
    go_enter Try.func23, Try.ntmps23
    go_wp2
    exact bodyPost_ret (v := Vv 1 0 ⟨#[]⟩) (by simp [results, Try.results23, go_sem, Vv]) rfl ⟨rfl, (Below.refl _ _).alloc (Nat.le_refl _) _⟩
  · have b0 : (t == 0) = false := by simpa using h0
    by_cases h1 : t = 1
    · subst h1
      rw [show VO 1 = (1, 1) from rfl]
      go_enter Try.func23, Try.ntmps23
      go_wp2
      exact bodyPost_ret (v := Vv 1 1 ⟨#[]⟩) (by simp [results, Try.results23, go_sem, Vv]) rfl ⟨rfl, (Below.refl _ _).alloc (Nat.le_refl _) _⟩
    · have b1 : (t == 1) = false := by simpa using h1
      rw [show VO t = (0, 0) by unfold VO; rw [if_neg h0, if_neg h1]]
      have h2 : t < 0 ∨ 1 < t := by omega
      clear h0 h1
      rcases h2 with h2 | h2
      all_goals
        go_enter Try.func23, Try.ntmps23
        go_wp2
        exact bodyPost_ret (v := Vv 0 0 ⟨#[]⟩) (by simp [results, Try.results23, go_sem, Vv]) rfl ⟨rfl, (Below.refl _ _).alloc (Nat.le_refl _) _⟩

theorem refof_any (t : Int) (w : World) :
    Calls Try.prog 24 #[.int .i64 t] w fun e w' => e = .returned (Vv (VO t).1 (VO t).2 ⟨#[]⟩) ∧ Below w.heap.size w w' := by
  by_cases h0 : t = 0
  · subst h0
    rw [show VO 0 = (1, 0) from rfl]
    go_enter Try.func24, Try.ntmps24
    go_wp2
    exact bodyPost_ret (v := Vv 1 0 ⟨#[]⟩) (by simp [results, Try.results24, go_sem, Vv]) rfl ⟨rfl, (Below.refl _ _).alloc (Nat.le_refl _) _⟩
  · have b0 : (t == 0) = false := by simpa using h0
    by_cases h1 : t = 1
    · subst h1
      rw [show VO 1 = (1, 1) from rfl]
      go_enter Try.func24, Try.ntmps24
      go_wp2
      exact bodyPost_ret (v := Vv 1 1 ⟨#[]⟩) (by simp [results, Try.results24, go_sem, Vv]) rfl ⟨rfl, (Below.refl _ _).alloc (Nat.le_refl _) _⟩
    · have b1 : (t == 1) = false := by simpa using h1
      rw [show VO t = (0, 0) by unfold VO; rw [if_neg h0, if_neg h1]]
      have h2 : t < 0 ∨ 1 < t := by omega
      clear h0 h1
      rcases h2 with h2 | h2
      all_goals
        go_enter Try.func24, Try.ntmps24
        go_wp2
        exact bodyPost_ret (v := Vv 0 0 ⟨#[]⟩) (by simp [results, Try.results24, go_sem, Vv]) rfl ⟨rfl, (Below.refl _ _).alloc (Nat.le_refl _) _⟩

end Go.Proofs.Yteeglmfjogoggab
