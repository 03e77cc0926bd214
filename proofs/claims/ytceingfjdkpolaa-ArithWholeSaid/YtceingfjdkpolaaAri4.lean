/-
  Contracts over the translation: the type of an operator's answer, by package arith.
  Conditions: none.
-/
import Derived.Test.YtceingfjdkpolaaAri3
import Derived.Test.YtceingfjdkpolaaVal10
namespace Go.Proofs.Ytceingfjdkpolaa
open Go.RowKit Go.Joins Go.ChangeShapes Go.WideShapes
set_option linter.unusedVariables false

def cntV (op : Int) : Nat := if 7 ≤ op ∧ op ≤ 12 then 2 else if 13 ≤ op ∧ op ≤ 15 then 1 else 0
def aloV (op : Int) : Int := if op = 12 then 4 else if op = 11 ∨ op = 14 then 2 else if op = 15 then 3 else 0
def oneV (op t : Int) : Int :=
  if op = 7 ∨ op = 8 ∨ op = 9 ∨ op = 10 ∨ op = 13 then (if t = 2 ∨ t = 3 then t else 0) else if op = 11 then (if t = 2 then 2 else 0) else if op = 12 then (if t = 4 then 4 else 0)
  else if op = 14 then (if 1 ≤ t ∧ t ≤ 3 then 2 else 0) else if op = 15 then (if t = 2 ∨ t = 3 then 3 else 0) else 0

theorem op_cases (op : Int) : op < 7 ∨ 15 < op ∨ op = 7 ∨ op = 8 ∨ op = 9 ∨ op = 10 ∨ op = 11 ∨ op = 12 ∨ op = 13 ∨ op = 14 ∨ op = 15 := by omega

theorem operands_any (op : Int) (w : World) :
    Calls Try.prog 19 #[.int .i64 op] w fun e w' => e = .returned (.int .i64 (cntV op : Nat)) ∧ w = w' := by
  rcases op_cases op with h | h | rfl | rfl | rfl | rfl | rfl | rfl | rfl | rfl | rfl
  · rw [show cntV op = 0 by unfold cntV; rw [if_neg (by omega), if_neg (by omega)]]
    go_enter Try.func19, Try.ntmps19
    go_wp2
    go_ret
    exact ⟨rfl, rfl⟩
  · rw [show cntV op = 0 by unfold cntV; rw [if_neg (by omega), if_neg (by omega)]]
    go_enter Try.func19, Try.ntmps19
    go_wp2
    go_ret
    exact ⟨rfl, rfl⟩
  all_goals
    go_enter Try.func19, Try.ntmps19
    go_wp2
    go_ret
    exact ⟨rfl, rfl⟩

theorem alone_any (op : Int) (w : World) :
    Calls Try.prog 29 #[.int .i64 op] w fun e w' => e = .returned (.tuple #[.int .i64 (aloV op), .bool (aloV op != 0)]) ∧ w = w' := by
  rcases op_cases op with h | h | rfl | rfl | rfl | rfl | rfl | rfl | rfl | rfl | rfl
  · rw [show aloV op = 0 by unfold aloV; rw [if_neg (by omega), if_neg (by omega), if_neg (by omega)]]
    go_enter Try.func29, Try.ntmps29
    go_wp2
    go_ret2
    exact ⟨rfl, rfl⟩
  · rw [show aloV op = 0 by unfold aloV; rw [if_neg (by omega), if_neg (by omega), if_neg (by omega)]]
    go_enter Try.func29, Try.ntmps29
    go_wp2
    go_ret2
    exact ⟨rfl, rfl⟩
  all_goals
    go_enter Try.func29, Try.ntmps29
    go_wp2
    go_ret2
    exact ⟨rfl, rfl⟩

theorem k23 (t : Int) : t = 2 ∨ t = 3 ∨ (¬ t = 2 ∧ ¬ t = 3 ∧ (t == 2) = false ∧ (t == 3) = false) := by
  by_cases h2 : t = 2
  · exact .inl h2
  by_cases h3 : t = 3
  · exact .inr (.inl h3)
  exact .inr (.inr ⟨h2, h3, by simpa using h2, by simpa using h3⟩)

theorem answer_7 (t : Int) (w : World) :
    Calls Try.prog 30 #[.int .i64 7, .int .i64 t] w fun e w' => e = .returned (.tuple #[.int .i64 (oneV 7 t), .bool (oneV 7 t != 0)]) ∧ w = w' := by
  rcases k23 t with rfl | rfl | ⟨n2, n3, h2, h3⟩
  · go_enter Try.func30, Try.ntmps30
    go_wp2
    go_ret2
    exact ⟨rfl, rfl⟩
  · go_enter Try.func30, Try.ntmps30
    go_wp2
    go_ret2
    exact ⟨rfl, rfl⟩
  · rw [show oneV 7 t = 0 by simp [oneV, n2, n3]]
    clear n2 n3
    go_enter Try.func30, Try.ntmps30
    go_wp2
    go_ret2
    exact ⟨rfl, rfl⟩

theorem answer_8 (t : Int) (w : World) :
    Calls Try.prog 30 #[.int .i64 8, .int .i64 t] w fun e w' => e = .returned (.tuple #[.int .i64 (oneV 8 t), .bool (oneV 8 t != 0)]) ∧ w = w' := by
  rcases k23 t with rfl | rfl | ⟨n2, n3, h2, h3⟩
  · go_enter Try.func30, Try.ntmps30
    go_wp2
    go_ret2
    exact ⟨rfl, rfl⟩
  · go_enter Try.func30, Try.ntmps30
    go_wp2
    go_ret2
    exact ⟨rfl, rfl⟩
  · rw [show oneV 8 t = 0 by simp [oneV, n2, n3]]
    clear n2 n3
    go_enter Try.func30, Try.ntmps30
    go_wp2
    go_ret2
    exact ⟨rfl, rfl⟩

theorem answer_9 (t : Int) (w : World) :
    Calls Try.prog 30 #[.int .i64 9, .int .i64 t] w fun e w' => e = .returned (.tuple #[.int .i64 (oneV 9 t), .bool (oneV 9 t != 0)]) ∧ w = w' := by
  rcases k23 t with rfl | rfl | ⟨n2, n3, h2, h3⟩
  · go_enter Try.func30, Try.ntmps30
    go_wp2
    go_ret2
    exact ⟨rfl, rfl⟩
  · go_enter Try.func30, Try.ntmps30
    go_wp2
    go_ret2
    exact ⟨rfl, rfl⟩
  · rw [show oneV 9 t = 0 by simp [oneV, n2, n3]]
    clear n2 n3
    go_enter Try.func30, Try.ntmps30
    go_wp2
    go_ret2
    exact ⟨rfl, rfl⟩

theorem answer_10 (t : Int) (w : World) :
    Calls Try.prog 30 #[.int .i64 10, .int .i64 t] w fun e w' => e = .returned (.tuple #[.int .i64 (oneV 10 t), .bool (oneV 10 t != 0)]) ∧ w = w' := by
  rcases k23 t with rfl | rfl | ⟨n2, n3, h2, h3⟩
  · go_enter Try.func30, Try.ntmps30
    go_wp2
    go_ret2
    exact ⟨rfl, rfl⟩
  · go_enter Try.func30, Try.ntmps30
    go_wp2
    go_ret2
    exact ⟨rfl, rfl⟩
  · rw [show oneV 10 t = 0 by simp [oneV, n2, n3]]
    clear n2 n3
    go_enter Try.func30, Try.ntmps30
    go_wp2
    go_ret2
    exact ⟨rfl, rfl⟩

theorem answer_11 (t : Int) (w : World) :
    Calls Try.prog 30 #[.int .i64 11, .int .i64 t] w fun e w' => e = .returned (.tuple #[.int .i64 (oneV 11 t), .bool (oneV 11 t != 0)]) ∧ w = w' := by
  rcases k23 t with rfl | rfl | ⟨n2, n3, h2, h3⟩
  · go_enter Try.func30, Try.ntmps30
    go_wp2
    go_ret2
    exact ⟨rfl, rfl⟩
  · go_enter Try.func30, Try.ntmps30
    go_wp2
    go_ret2
    exact ⟨rfl, rfl⟩
  · rw [show oneV 11 t = 0 by simp [oneV, n2]]
    clear n2 n3
    go_enter Try.func30, Try.ntmps30
    go_wp2
    go_ret2
    exact ⟨rfl, rfl⟩

theorem answer_12 (t : Int) (w : World) :
    Calls Try.prog 30 #[.int .i64 12, .int .i64 t] w fun e w' => e = .returned (.tuple #[.int .i64 (oneV 12 t), .bool (oneV 12 t != 0)]) ∧ w = w' := by
  rcases k23 t with rfl | rfl | ⟨n2, n3, h2, h3⟩
  · go_enter Try.func30, Try.ntmps30
    go_wp2
    go_ret2
    exact ⟨rfl, rfl⟩
  · go_enter Try.func30, Try.ntmps30
    go_wp2
    go_ret2
    exact ⟨rfl, rfl⟩
  · by_cases hx : t = 4
    · subst hx
      clear n2 n3
      go_enter Try.func30, Try.ntmps30
      go_wp2
      go_ret2
      exact ⟨rfl, rfl⟩
    · have h4 : (t == 4) = false := by simpa using hx
      rw [show oneV 12 t = 0 by simp [oneV, hx]]
      clear n2 n3 hx
      go_enter Try.func30, Try.ntmps30
      go_wp2
      go_ret2
      exact ⟨rfl, rfl⟩

theorem answer_13 (t : Int) (w : World) :
    Calls Try.prog 30 #[.int .i64 13, .int .i64 t] w fun e w' => e = .returned (.tuple #[.int .i64 (oneV 13 t), .bool (oneV 13 t != 0)]) ∧ w = w' := by
  rcases k23 t with rfl | rfl | ⟨n2, n3, h2, h3⟩
  · go_enter Try.func30, Try.ntmps30
    go_wp2
    go_ret2
    exact ⟨rfl, rfl⟩
  · go_enter Try.func30, Try.ntmps30
    go_wp2
    go_ret2
    exact ⟨rfl, rfl⟩
  · rw [show oneV 13 t = 0 by simp [oneV, n2, n3]]
    clear n2 n3
    go_enter Try.func30, Try.ntmps30
    go_wp2
    go_ret2
    exact ⟨rfl, rfl⟩

theorem answer_14 (t : Int) (w : World) :
    Calls Try.prog 30 #[.int .i64 14, .int .i64 t] w fun e w' => e = .returned (.tuple #[.int .i64 (oneV 14 t), .bool (oneV 14 t != 0)]) ∧ w = w' := by
  rcases k23 t with rfl | rfl | ⟨n2, n3, h2, h3⟩
  · go_enter Try.func30, Try.ntmps30
    go_wp2
    go_ret2
    exact ⟨rfl, rfl⟩
  · go_enter Try.func30, Try.ntmps30
    go_wp2
    go_ret2
    exact ⟨rfl, rfl⟩
  · by_cases hx : t = 1
    · subst hx
      clear n2 n3
      go_enter Try.func30, Try.ntmps30
      go_wp2
      go_ret2
      exact ⟨rfl, rfl⟩
    · have h4 : (t == 1) = false := by simpa using hx
      rw [show oneV 14 t = 0 by unfold oneV; simp; omega]
      clear n2 n3 hx
      go_enter Try.func30, Try.ntmps30
      go_wp2
      go_ret2
      exact ⟨rfl, rfl⟩

theorem answer_15 (t : Int) (w : World) :
    Calls Try.prog 30 #[.int .i64 15, .int .i64 t] w fun e w' => e = .returned (.tuple #[.int .i64 (oneV 15 t), .bool (oneV 15 t != 0)]) ∧ w = w' := by
  rcases k23 t with rfl | rfl | ⟨n2, n3, h2, h3⟩
  · go_enter Try.func30, Try.ntmps30
    go_wp2
    go_ret2
    exact ⟨rfl, rfl⟩
  · go_enter Try.func30, Try.ntmps30
    go_wp2
    go_ret2
    exact ⟨rfl, rfl⟩
  · rw [show oneV 15 t = 0 by simp [oneV, n2, n3]]
    clear n2 n3
    go_enter Try.func30, Try.ntmps30
    go_wp2
    go_ret2
    exact ⟨rfl, rfl⟩

theorem answer_any (op t : Int) (ho : 7 ≤ op ∧ op ≤ 15) (w : World) :
    Calls Try.prog 30 #[.int .i64 op, .int .i64 t] w fun e w' => e = .returned (.tuple #[.int .i64 (oneV op t), .bool (oneV op t != 0)]) ∧ w = w' := by
  rcases op_cases op with h | h | rfl | rfl | rfl | rfl | rfl | rfl | rfl | rfl | rfl
  · exact absurd ho (by omega)
  · exact absurd ho (by omega)
  · exact answer_7 t w
  · exact answer_8 t w
  · exact answer_9 t w
  · exact answer_10 t w
  · exact answer_11 t w
  · exact answer_12 t w
  · exact answer_13 t w
  · exact answer_14 t w
  · exact answer_15 t w

end Go.Proofs.Ytceingfjdkpolaa
