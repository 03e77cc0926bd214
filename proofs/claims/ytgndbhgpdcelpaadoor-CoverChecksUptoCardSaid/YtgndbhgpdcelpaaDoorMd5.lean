/-
  The document's Join and Covers: contracts over the translation.
  Conditions: none.
-/
import Derived.Test.YtgndbhgpdcelpaaDoorMd4
namespace Go.Proofs.YtgndbhgpdcelpaaDoor
set_option maxRecDepth 100000
open Go.RowKit Go.Joins Go.ChangeShapes Go.WideShapes
set_option linter.unusedVariables false
set_option linter.unusedSimpArgs false

set_option maxHeartbeats 4000000 in
theorem rjoin_no (a b : Int) (w : World) (h : kn a = false ∨ kn b = false) : Calls Tryd.prog 36 #[.int .i64 a, .int .i64 b] w fun e w' => e = .returned (.int .i64 0) ∧ Below w.heap.size w w' := by
  by_cases c1 : a < 0
  · go_enter Tryd.func36, Tryd.ntmps36
    go_wp2
    go_ret
    exact ⟨rfl, (Below.refl _ _).alloc (Nat.le_refl _) _⟩
  · by_cases c2 : 6 < a
    · go_enter Tryd.func36, Tryd.ntmps36
      go_wp2
      go_ret
      exact ⟨rfl, (Below.refl _ _).alloc (Nat.le_refl _) _⟩
    · by_cases c3 : b < 0
      · go_enter Tryd.func36, Tryd.ntmps36
        go_wp2
        go_ret
        exact ⟨rfl, (Below.refl _ _).alloc (Nat.le_refl _) _⟩
      · have c4 : 6 < b := by
          rcases h with h | h
          · have := kn_no h; omega
          · have := kn_no h; omega
        go_enter Tryd.func36, Tryd.ntmps36
        go_wp2
        go_ret
        exact ⟨rfl, (Below.refl _ _).alloc (Nat.le_refl _) _⟩
set_option maxHeartbeats 40000000 in
theorem rjoin_yes (a b : Nat) (w : World) (ha : a < 7) (hb : b < 7) : Calls Tryd.prog 36 #[.int .i64 a, .int .i64 b] w fun e w' => e = .returned (.int .i64 (jnI a b)) ∧ Below w.heap.size w w' := by
  rcases seven ha with rfl | rfl | rfl | rfl | rfl | rfl | rfl <;> rcases seven hb with rfl | rfl | rfl | rfl | rfl | rfl | rfl
  all_goals
    go_enter Tryd.func36, Tryd.ntmps36
    go_wp2
    go_ret
    exact ⟨rfl, (Below.refl _ _).alloc (Nat.le_refl _) _⟩

theorem cv_le : ∀ m, m < 7 → ∀ b : Int, kn b = false → cvI m b = false := fun m _ b h => by unfold cvI; rw [h]; simp
theorem jn_no {a b : Int} (h : kn a = false ∨ kn b = false) : jnI a b = 0 := by
  have hc : ∀ m : Int, (cvI m a && cvI m b) = false := by
    intro m
    rcases h with h | h
    · simp [cvI, h]
    · simp [cvI, h]
  have hn : ∀ n m, jnN a b m n = 0 := by
    intro n
    induction n with
    | zero => intro m; rfl
    | succ n ih =>
      intro m
      unfold jnN
      rw [hc m]
      exact ih (m + 1)
  exact hn 7 0
theorem rjoin_any (a b : Int) (w : World) : Calls Tryd.prog 36 #[.int .i64 a, .int .i64 b] w fun e w' => e = .returned (.int .i64 (jnI a b)) ∧ Below w.heap.size w w' := by
  by_cases h : kn a = false ∨ kn b = false
  · rw [jn_no h]
    exact rjoin_no a b w h
  · obtain ⟨na, rfl, la⟩ := kn_cases (a := a) (by cases e : kn a with | true => rfl | false => exact absurd (.inl e) h)
    obtain ⟨nb, rfl, lb⟩ := kn_cases (a := b) (by cases e : kn b with | true => rfl | false => exact absurd (.inr e) h)
    exact rjoin_yes na nb w la lb
set_option maxHeartbeats 1000000 in
theorem rcov_any (a b : Int) (w : World) : Calls Tryd.prog 22 #[.int .i64 a, .int .i64 b] w fun e w' => e = .returned (.bool (cvI a b)) ∧ Below w.heap.size w w' := by
  have HJ := Lib.hid (rjoin_any a b w)
  obtain ⟨r, hr⟩ : ∃ r, cvI a b = r := ⟨_, rfl⟩
  rw [hr]
  by_cases h : kn a = false ∨ kn b = false
  · obtain rfl : r = false := by
      rw [← hr]
      unfold cvI
      rcases h with h | h
      · simp [h]
      · simp [h]
    clear hr
    by_cases c1 : a < 0
    · go_enter Tryd.func22, Tryd.ntmps22
      go_wp2
      go_ret
      exact ⟨rfl, Below.refl _ _⟩
    · by_cases c2 : 6 < a
      · go_enter Tryd.func22, Tryd.ntmps22
        go_wp2
        go_ret
        exact ⟨rfl, Below.refl _ _⟩
      · by_cases c3 : b < 0
        · go_enter Tryd.func22, Tryd.ntmps22
          go_wp2
          go_ret
          exact ⟨rfl, Below.refl _ _⟩
        · have c4 : 6 < b := by
            rcases h with h | h
            · have := kn_no h; omega
            · have := kn_no h; omega
          go_enter Tryd.func22, Tryd.ntmps22
          go_wp2
          go_ret
          exact ⟨rfl, Below.refl _ _⟩
  · obtain ⟨na, rfl, la⟩ := kn_cases (a := a) (by cases e : kn a with | true => rfl | false => exact absurd (.inl e) h)
    obtain ⟨nb, rfl, lb⟩ := kn_cases (a := b) (by cases e : kn b with | true => rfl | false => exact absurd (.inr e) h)
    have hj := (join_eq na la nb lb).1
    rw [hr] at hj
    have c1 : ¬ (na : Int) < 0 := by omega
    have c2 : ¬ (6 : Int) < na := by omega
    have c3 : ¬ (nb : Int) < 0 := by omega
    have c4 : ¬ (6 : Int) < nb := by omega
    generalize jnI na nb = z at *
    have t1 : (z == (na : Int)) = r := by rw [← hj]; rfl
    clear hr hj h
    go_enter Tryd.func22, Tryd.ntmps22
    go_wp2_with fail
    refine HJ.out.mono ?_
    rintro e w' ⟨rfl, b1⟩
    have HB := Lib.hid b1
    clear b1
    go_wp2
    go_ret
    exact ⟨rfl, HB.out⟩

end Go.Proofs.YtgndbhgpdcelpaaDoor
