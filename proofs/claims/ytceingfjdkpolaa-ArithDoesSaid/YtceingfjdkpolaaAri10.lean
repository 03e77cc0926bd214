/-
  Contracts over the translation: how many operands an operator takes, and the type of its answer, by the document's answer.
  Conditions: the list lies in memory.
-/
import Derived.Test.YtceingfjdkpolaaAri5
import Derived.Deep.QuietTactic
import Derived.BigQuiet
namespace Go.Proofs.Ytceingfjdkpolaa
open Go.RowKit Go.Joins Go.ChangeShapes Go.WideShapes
set_option linter.unusedVariables false

theorem refcount_any (op : Int) (w : World) :
    Calls Try.prog 22 #[.int .i64 op] w fun e w' => e = .returned (.int .i64 (cntV op : Nat)) ∧ w = w' := by
  rcases op_cases op with h | h | rfl | rfl | rfl | rfl | rfl | rfl | rfl | rfl | rfl
  · rw [show cntV op = 0 by unfold cntV; rw [if_neg (by omega), if_neg (by omega)]]
    have h1 : decide (7 ≤ op) = false := by simp; omega
    have h2 : decide (13 ≤ op) = false := by simp; omega
    have h3 : op < 13 := by omega
    go_enter Try.func22, Try.ntmps22
    go_wp2
    go_ret
    exact ⟨rfl, rfl⟩
  · rw [show cntV op = 0 by unfold cntV; rw [if_neg (by omega), if_neg (by omega)]]
    have h1 : decide (op ≤ 12) = false := by simp; omega
    have h2 : decide (op ≤ 15) = false := by simp; omega
    have h3 : 12 < op := by omega
    go_enter Try.func22, Try.ntmps22
    go_wp2
    go_ret
    exact ⟨rfl, rfl⟩
  all_goals
    go_enter Try.func22, Try.ntmps22
    go_wp2
    go_ret
    exact ⟨rfl, rfl⟩

theorem refone_7 (t : Int) (w : World) :
    Calls Try.prog 23 #[.int .i64 7, .int .i64 t] w fun e w' => e = .returned (.int .i64 (oneV 7 t)) ∧ w = w' := by
  rcases k23 t with rfl | rfl | ⟨n2, n3, h2, h3⟩
  · go_enter Try.func23, Try.ntmps23
    go_wp2
    go_ret
    exact ⟨rfl, rfl⟩
  · go_enter Try.func23, Try.ntmps23
    go_wp2
    go_ret
    exact ⟨rfl, rfl⟩
  · rw [show oneV 7 t = 0 by simp [oneV, n2, n3]]
    clear n2 n3
    go_enter Try.func23, Try.ntmps23
    go_wp2
    go_ret
    exact ⟨rfl, rfl⟩

theorem refone_8 (t : Int) (w : World) :
    Calls Try.prog 23 #[.int .i64 8, .int .i64 t] w fun e w' => e = .returned (.int .i64 (oneV 8 t)) ∧ w = w' := by
  rcases k23 t with rfl | rfl | ⟨n2, n3, h2, h3⟩
  · go_enter Try.func23, Try.ntmps23
    go_wp2
    go_ret
    exact ⟨rfl, rfl⟩
  · go_enter Try.func23, Try.ntmps23
    go_wp2
    go_ret
    exact ⟨rfl, rfl⟩
  · rw [show oneV 8 t = 0 by simp [oneV, n2, n3]]
    clear n2 n3
    go_enter Try.func23, Try.ntmps23
    go_wp2
    go_ret
    exact ⟨rfl, rfl⟩

theorem refone_9 (t : Int) (w : World) :
    Calls Try.prog 23 #[.int .i64 9, .int .i64 t] w fun e w' => e = .returned (.int .i64 (oneV 9 t)) ∧ w = w' := by
  rcases k23 t with rfl | rfl | ⟨n2, n3, h2, h3⟩
  · go_enter Try.func23, Try.ntmps23
    go_wp2
    go_ret
    exact ⟨rfl, rfl⟩
  · go_enter Try.func23, Try.ntmps23
    go_wp2
    go_ret
    exact ⟨rfl, rfl⟩
  · rw [show oneV 9 t = 0 by simp [oneV, n2, n3]]
    clear n2 n3
    go_enter Try.func23, Try.ntmps23
    go_wp2
    go_ret
    exact ⟨rfl, rfl⟩

theorem refone_10 (t : Int) (w : World) :
    Calls Try.prog 23 #[.int .i64 10, .int .i64 t] w fun e w' => e = .returned (.int .i64 (oneV 10 t)) ∧ w = w' := by
  rcases k23 t with rfl | rfl | ⟨n2, n3, h2, h3⟩
  · go_enter Try.func23, Try.ntmps23
    go_wp2
    go_ret
    exact ⟨rfl, rfl⟩
  · go_enter Try.func23, Try.ntmps23
    go_wp2
    go_ret
    exact ⟨rfl, rfl⟩
  · rw [show oneV 10 t = 0 by simp [oneV, n2, n3]]
    clear n2 n3
    go_enter Try.func23, Try.ntmps23
    go_wp2
    go_ret
    exact ⟨rfl, rfl⟩

theorem refone_11 (t : Int) (w : World) :
    Calls Try.prog 23 #[.int .i64 11, .int .i64 t] w fun e w' => e = .returned (.int .i64 (oneV 11 t)) ∧ w = w' := by
  rcases k23 t with rfl | rfl | ⟨n2, n3, h2, h3⟩
  · go_enter Try.func23, Try.ntmps23
    go_wp2
    go_ret
    exact ⟨rfl, rfl⟩
  · go_enter Try.func23, Try.ntmps23
    go_wp2
    go_ret
    exact ⟨rfl, rfl⟩
  · rw [show oneV 11 t = 0 by simp [oneV, n2]]
    clear n2 n3
    go_enter Try.func23, Try.ntmps23
    go_wp2
    go_ret
    exact ⟨rfl, rfl⟩

theorem refone_12 (t : Int) (w : World) :
    Calls Try.prog 23 #[.int .i64 12, .int .i64 t] w fun e w' => e = .returned (.int .i64 (oneV 12 t)) ∧ w = w' := by
  rcases k23 t with rfl | rfl | ⟨n2, n3, h2, h3⟩
  · go_enter Try.func23, Try.ntmps23
    go_wp2
    go_ret
    exact ⟨rfl, rfl⟩
  · go_enter Try.func23, Try.ntmps23
    go_wp2
    go_ret
    exact ⟨rfl, rfl⟩
  · by_cases hx : t = 4
    · subst hx
      clear n2 n3
      go_enter Try.func23, Try.ntmps23
      go_wp2
      go_ret
      exact ⟨rfl, rfl⟩
    · have h4 : (t == 4) = false := by simpa using hx
      rw [show oneV 12 t = 0 by simp [oneV, hx]]
      clear n2 n3 hx
      go_enter Try.func23, Try.ntmps23
      go_wp2
      go_ret
      exact ⟨rfl, rfl⟩

theorem refone_13 (t : Int) (w : World) :
    Calls Try.prog 23 #[.int .i64 13, .int .i64 t] w fun e w' => e = .returned (.int .i64 (oneV 13 t)) ∧ w = w' := by
  rcases k23 t with rfl | rfl | ⟨n2, n3, h2, h3⟩
  · go_enter Try.func23, Try.ntmps23
    go_wp2
    go_ret
    exact ⟨rfl, rfl⟩
  · go_enter Try.func23, Try.ntmps23
    go_wp2
    go_ret
    exact ⟨rfl, rfl⟩
  · rw [show oneV 13 t = 0 by simp [oneV, n2, n3]]
    clear n2 n3
    go_enter Try.func23, Try.ntmps23
    go_wp2
    go_ret
    exact ⟨rfl, rfl⟩

theorem refone_14 (t : Int) (w : World) :
    Calls Try.prog 23 #[.int .i64 14, .int .i64 t] w fun e w' => e = .returned (.int .i64 (oneV 14 t)) ∧ w = w' := by
  rcases k23 t with rfl | rfl | ⟨n2, n3, h2, h3⟩
  · go_enter Try.func23, Try.ntmps23
    go_wp2
    go_ret
    exact ⟨rfl, rfl⟩
  · go_enter Try.func23, Try.ntmps23
    go_wp2
    go_ret
    exact ⟨rfl, rfl⟩
  · by_cases hx : t = 1
    · subst hx
      clear n2 n3
      go_enter Try.func23, Try.ntmps23
      go_wp2
      go_ret
      exact ⟨rfl, rfl⟩
    · rw [show oneV 14 t = 0 by unfold oneV; simp; omega]
      rcases (show t < 1 ∨ 3 < t by omega) with hl | hl
      · have h4 : decide (1 ≤ t) = false := by simp; omega
        clear n2 n3 hx
        go_enter Try.func23, Try.ntmps23
        go_wp2
        go_ret
        exact ⟨rfl, rfl⟩
      · have h4 : decide (t ≤ 3) = false := by simp; omega
        clear n2 n3 hx
        go_enter Try.func23, Try.ntmps23
        go_wp2
        go_ret
        exact ⟨rfl, rfl⟩

theorem refone_15 (t : Int) (w : World) :
    Calls Try.prog 23 #[.int .i64 15, .int .i64 t] w fun e w' => e = .returned (.int .i64 (oneV 15 t)) ∧ w = w' := by
  rcases k23 t with rfl | rfl | ⟨n2, n3, h2, h3⟩
  · go_enter Try.func23, Try.ntmps23
    go_wp2
    go_ret
    exact ⟨rfl, rfl⟩
  · go_enter Try.func23, Try.ntmps23
    go_wp2
    go_ret
    exact ⟨rfl, rfl⟩
  · rw [show oneV 15 t = 0 by simp [oneV, n2, n3]]
    clear n2 n3
    go_enter Try.func23, Try.ntmps23
    go_wp2
    go_ret
    exact ⟨rfl, rfl⟩

theorem refone_any (op t : Int) (ho : 7 ≤ op ∧ op ≤ 15) (w : World) :
    Calls Try.prog 23 #[.int .i64 op, .int .i64 t] w fun e w' => e = .returned (.int .i64 (oneV op t)) ∧ w = w' := by
  rcases op_cases op with h | h | rfl | rfl | rfl | rfl | rfl | rfl | rfl | rfl | rfl
  · exact absurd ho (by omega)
  · exact absurd ho (by omega)
  · exact refone_7 t w
  · exact refone_8 t w
  · exact refone_9 t w
  · exact refone_10 t w
  · exact refone_11 t w
  · exact refone_12 t w
  · exact refone_13 t w
  · exact refone_14 t w
  · exact refone_15 t w

theorem reftype_bad (op : Int) (A : Option Addr) (m cap : Nat) (hm : m ≤ maxLen) (h : cntV op = 0 ∨ cntV op ≠ m) (w : World) :
    Calls Try.prog 16 #[.int .i64 op, .slice A m cap] w fun e w' => e = .returned (.tuple #[.int .i64 0, .bool false]) ∧ w = w' := by
  unfold maxLen at hm
  have ho := refcount_any op
  generalize cntV op = c at *
  have HO := Lib.hid ho
  clear ho
  by_cases h0 : c = 0
  · subst h0
    clear h
    go_enter Try.func16, Try.ntmps16
    go_wp2_with (go_at_call 22; refine (HO.out _).mono ?_; rintro e w' ⟨rfl, rfl⟩)
    go_ret2
    exact ⟨rfl, rfl⟩
  · have e0 : ((c : Int) == 0) = false := by simpa using h0
    have e0' : ¬ (c : Int) = 0 := by omega
    have e1 : ((c : Int) != (m : Int)) = true := by simp; omega
    have e1' : ¬ (c : Int) = (m : Int) := by omega
    have e2 : (c == 0) = false := by simpa using h0
    have e3 : (c != m) = true := by simp; omega
    clear h h0
    go_enter Try.func16, Try.ntmps16
    go_wp2_with (go_at_call 22; refine (HO.out _).mono ?_; rintro e w' ⟨rfl, rfl⟩)
    go_ret2
    exact ⟨rfl, rfl⟩

theorem alo_cases (op : Int) : op = 12 ∨ op = 11 ∨ op = 14 ∨ op = 15 ∨ (((op == 12) = false ∧ (op == 11) = false ∧ (op == 14) = false ∧ (op == 15) = false) ∧ aloV op = 0) := by
  by_cases h1 : op = 12
  · exact .inl h1
  by_cases h2 : op = 11
  · exact .inr (.inl h2)
  by_cases h3 : op = 14
  · exact .inr (.inr (.inl h3))
  by_cases h4 : op = 15
  · exact .inr (.inr (.inr (.inl h4)))
  exact .inr (.inr (.inr (.inr ⟨⟨by simpa using h1, by simpa using h2, by simpa using h3, by simpa using h4⟩, by simp [aloV, h1, h2, h3, h4]⟩)))

set_option maxHeartbeats 2000000 in
theorem reftype_1 (op : Int) (b off cap : Nat) (f : Nat → Int) (w : World) (hc : cntV op = 1) (hA : IsI w b off 1 f) :
    Calls Try.prog 16 #[.int .i64 op, .slice (some ⟨b, off, none⟩) 1 cap] w fun e w' => e = .returned (.tuple #[.int .i64 (tyV op 1 (f 0) (f (1 - 1))), .bool (tyV op 1 (f 0) (f (1 - 1)) != 0)]) ∧ ∃ n, w' = w.drewN n := by
  have hop : 7 ≤ op ∧ op ≤ 15 := by rcases cnt_le op with h | h | h <;> omega
  have ho := refcount_any op
  rw [hc] at ho
  have HO := Lib.hid ho
  have HF := Lib.hid (fun t => refone_any op t hop)
  have a0 := hA.c 0 (by decide)
  skip
  rw [Nat.add_zero] at a0
  have wr : IntKind.i64.wrap 0 = 0 := by decide
  rw [show tyV op 1 (f 0) (f (1 - 1)) = tyV op 1 (f 0) (f 0) from rfl]
  generalize f 0 = s at *
  skip
  clear ho hA
  have tyz : ∀ x y : Int, tyV op 1 x y = if x ≠ 0 ∧ y ≠ 0 ∧ y ≠ x then 0 else if (if y ≠ 0 then y else x) = 0 then aloV op else oneV op (if y ≠ 0 then y else x) := fun x y => by unfold tyV; rw [if_neg (by omega)]
  by_cases hz : s = 0
  · subst hz
    have hT : tyV op 1 0 0 = aloV op := by rw [tyz]; simp
    clear tyz hc hop
    rcases alo_cases op with rfl | rfl | rfl | rfl | ⟨⟨h1, h2, h3, h4⟩, h5⟩
    · have HT := Lib.hid hT
      clear hT
      go_enter Try.func16, Try.ntmps16
      go_wp2_with (go_at_call 22; refine (HO.out _).mono ?_; rintro e w' ⟨rfl, rfl⟩)
      go_quiet (fail)
      go_wp2_with (go_at_call 23; refine (HF.out _ _).mono ?_; rintro e w' ⟨rfl, rfl⟩)
      go_ret2
      exact ⟨by rw [HT.out]; rfl, _, rfl⟩
    · have HT := Lib.hid hT
      clear hT
      go_enter Try.func16, Try.ntmps16
      go_wp2_with (go_at_call 22; refine (HO.out _).mono ?_; rintro e w' ⟨rfl, rfl⟩)
      go_quiet (fail)
      go_wp2_with (go_at_call 23; refine (HF.out _ _).mono ?_; rintro e w' ⟨rfl, rfl⟩)
      go_ret2
      exact ⟨by rw [HT.out]; rfl, _, rfl⟩
    · have HT := Lib.hid hT
      clear hT
      go_enter Try.func16, Try.ntmps16
      go_wp2_with (go_at_call 22; refine (HO.out _).mono ?_; rintro e w' ⟨rfl, rfl⟩)
      go_quiet (fail)
      go_wp2_with (go_at_call 23; refine (HF.out _ _).mono ?_; rintro e w' ⟨rfl, rfl⟩)
      go_ret2
      exact ⟨by rw [HT.out]; rfl, _, rfl⟩
    · have HT := Lib.hid hT
      clear hT
      go_enter Try.func16, Try.ntmps16
      go_wp2_with (go_at_call 22; refine (HO.out _).mono ?_; rintro e w' ⟨rfl, rfl⟩)
      go_quiet (fail)
      go_wp2_with (go_at_call 23; refine (HF.out _ _).mono ?_; rintro e w' ⟨rfl, rfl⟩)
      go_ret2
      exact ⟨by rw [HT.out]; rfl, _, rfl⟩
    · rw [h5] at hT
      have HT := Lib.hid hT
      clear hT h5
      go_enter Try.func16, Try.ntmps16
      go_wp2_with (go_at_call 22; refine (HO.out _).mono ?_; rintro e w' ⟨rfl, rfl⟩)
      go_quiet (fail)
      go_wp2_with (go_at_call 23; refine (HF.out _ _).mono ?_; rintro e w' ⟨rfl, rfl⟩)
      go_ret2
      exact ⟨by rw [HT.out]; rfl, _, rfl⟩
  · have h1 : (s == 0) = false := by simpa using hz
    have h2 : (s != 0) = true := by simpa using hz
    have hT : tyV op 1 s s = oneV op s := by rw [tyz]; simp [hz]
    have HT := Lib.hid hT
    clear tyz hc hop hz hT
    go_enter Try.func16, Try.ntmps16
    go_wp2_with (go_at_call 22; refine (HO.out _).mono ?_; rintro e w' ⟨rfl, rfl⟩)
    go_quiet (fail)
    go_wp2_with (go_at_call 23; refine (HF.out _ _).mono ?_; rintro e w' ⟨rfl, rfl⟩)
    go_ret2
    exact ⟨by rw [HT.out]; rfl, _, rfl⟩

set_option maxHeartbeats 2000000 in
theorem reftype_2 (op : Int) (b off cap : Nat) (f : Nat → Int) (w : World) (hc : cntV op = 2) (hA : IsI w b off 2 f) :
    Calls Try.prog 16 #[.int .i64 op, .slice (some ⟨b, off, none⟩) 2 cap] w fun e w' => e = .returned (.tuple #[.int .i64 (tyV op 2 (f 0) (f (2 - 1))), .bool (tyV op 2 (f 0) (f (2 - 1)) != 0)]) ∧ ∃ n, w' = w.drewN n := by
  have hop : 7 ≤ op ∧ op ≤ 15 := by rcases cnt_le op with h | h | h <;> omega
  have ho := refcount_any op
  rw [hc] at ho
  have HO := Lib.hid ho
  have HF := Lib.hid (fun t => refone_any op t hop)
  have a0 := hA.c 0 (by decide)
  have a1 := hA.c 1 (by decide)
  rw [Nat.add_zero] at a0
  have wr : IntKind.i64.wrap 1 = 1 := by decide
  rw [show tyV op 2 (f 0) (f (2 - 1)) = tyV op 2 (f 0) (f 1) from rfl]
  generalize f 0 = s at *
  generalize f 1 = t at *
  clear ho hA
  have tyz : ∀ x y : Int, tyV op 2 x y = if x ≠ 0 ∧ y ≠ 0 ∧ y ≠ x then 0 else if (if y ≠ 0 then y else x) = 0 then aloV op else oneV op (if y ≠ 0 then y else x) := fun x y => by unfold tyV; rw [if_neg (by omega)]
  rcases com_cases s t with ⟨rfl, rfl, -⟩ | ⟨rfl, ⟨h1, h2⟩, -⟩ | ⟨⟨h1, h2⟩, rfl, -⟩ | ⟨⟨h1, h2⟩, rfl, -⟩ | ⟨⟨h1, h2⟩, ⟨h3, h4⟩, h5, -⟩
  · have hT : tyV op 2 0 0 = aloV op := by rw [tyz]; simp
    clear tyz hc hop
    rcases alo_cases op with rfl | rfl | rfl | rfl | ⟨⟨h1, h2, h3, h4⟩, h5⟩
    · have HT := Lib.hid hT
      clear hT
      go_enter Try.func16, Try.ntmps16
      go_wp2_with (go_at_call 22; refine (HO.out _).mono ?_; rintro e w' ⟨rfl, rfl⟩)
      go_quiet (fail)
      go_wp2_with (go_at_call 23; refine (HF.out _ _).mono ?_; rintro e w' ⟨rfl, rfl⟩)
      go_ret2
      exact ⟨by rw [HT.out]; rfl, _, rfl⟩
    · have HT := Lib.hid hT
      clear hT
      go_enter Try.func16, Try.ntmps16
      go_wp2_with (go_at_call 22; refine (HO.out _).mono ?_; rintro e w' ⟨rfl, rfl⟩)
      go_quiet (fail)
      go_wp2_with (go_at_call 23; refine (HF.out _ _).mono ?_; rintro e w' ⟨rfl, rfl⟩)
      go_ret2
      exact ⟨by rw [HT.out]; rfl, _, rfl⟩
    · have HT := Lib.hid hT
      clear hT
      go_enter Try.func16, Try.ntmps16
      go_wp2_with (go_at_call 22; refine (HO.out _).mono ?_; rintro e w' ⟨rfl, rfl⟩)
      go_quiet (fail)
      go_wp2_with (go_at_call 23; refine (HF.out _ _).mono ?_; rintro e w' ⟨rfl, rfl⟩)
      go_ret2
      exact ⟨by rw [HT.out]; rfl, _, rfl⟩
    · have HT := Lib.hid hT
      clear hT
      go_enter Try.func16, Try.ntmps16
      go_wp2_with (go_at_call 22; refine (HO.out _).mono ?_; rintro e w' ⟨rfl, rfl⟩)
      go_quiet (fail)
      go_wp2_with (go_at_call 23; refine (HF.out _ _).mono ?_; rintro e w' ⟨rfl, rfl⟩)
      go_ret2
      exact ⟨by rw [HT.out]; rfl, _, rfl⟩
    · rw [h5] at hT
      have HT := Lib.hid hT
      clear hT h5
      go_enter Try.func16, Try.ntmps16
      go_wp2_with (go_at_call 22; refine (HO.out _).mono ?_; rintro e w' ⟨rfl, rfl⟩)
      go_quiet (fail)
      go_wp2_with (go_at_call 23; refine (HF.out _ _).mono ?_; rintro e w' ⟨rfl, rfl⟩)
      go_ret2
      exact ⟨by rw [HT.out]; rfl, _, rfl⟩
  · have hz : ¬ t = 0 := by simpa using h1
    have hT : tyV op 2 0 t = oneV op t := by rw [tyz]; simp [hz]
    have HT := Lib.hid hT
    clear tyz hc hop hz hT
    go_enter Try.func16, Try.ntmps16
    go_wp2_with (go_at_call 22; refine (HO.out _).mono ?_; rintro e w' ⟨rfl, rfl⟩)
    go_quiet (fail)
    go_wp2_with (go_at_call 23; refine (HF.out _ _).mono ?_; rintro e w' ⟨rfl, rfl⟩)
    go_ret2
    exact ⟨by rw [HT.out]; rfl, _, rfl⟩
  · have hz : ¬ s = 0 := by simpa using h1
    have hT : tyV op 2 s 0 = oneV op s := by rw [tyz]; simp [hz]
    have HT := Lib.hid hT
    clear tyz hc hop hz hT
    go_enter Try.func16, Try.ntmps16
    go_wp2_with (go_at_call 22; refine (HO.out _).mono ?_; rintro e w' ⟨rfl, rfl⟩)
    go_quiet (fail)
    go_wp2_with (go_at_call 23; refine (HF.out _ _).mono ?_; rintro e w' ⟨rfl, rfl⟩)
    go_ret2
    exact ⟨by rw [HT.out]; rfl, _, rfl⟩
  · have hz : ¬ t = 0 := by simpa using h1
    have hT : tyV op 2 t t = oneV op t := by rw [tyz]; simp [hz]
    have HT := Lib.hid hT
    clear tyz hc hop hz hT
    go_enter Try.func16, Try.ntmps16
    go_wp2_with (go_at_call 22; refine (HO.out _).mono ?_; rintro e w' ⟨rfl, rfl⟩)
    go_quiet (fail)
    go_wp2_with (go_at_call 23; refine (HF.out _ _).mono ?_; rintro e w' ⟨rfl, rfl⟩)
    go_ret2
    exact ⟨by rw [HT.out]; rfl, _, rfl⟩
  · have hz : ¬ s = 0 := by simpa using h1
    have hz' : ¬ t = 0 := by simpa using h3
    have hz2 : ¬ t = s := by simpa using h5
    have h6 : (s != t) = true := by simp; omega
    have hT : tyV op 2 s t = 0 := by rw [tyz]; simp [hz, hz', hz2]
    have HT := Lib.hid hT
    clear tyz hc hop hz hz' hz2 hT
    go_enter Try.func16, Try.ntmps16
    go_wp2_with (go_at_call 22; refine (HO.out _).mono ?_; rintro e w' ⟨rfl, rfl⟩)
    go_quiet (fail)
    go_wp2_with (go_at_call 23; refine (HF.out _ _).mono ?_; rintro e w' ⟨rfl, rfl⟩)
    go_ret2
    exact ⟨by rw [HT.out]; rfl, _, rfl⟩

end Go.Proofs.Ytceingfjdkpolaa
