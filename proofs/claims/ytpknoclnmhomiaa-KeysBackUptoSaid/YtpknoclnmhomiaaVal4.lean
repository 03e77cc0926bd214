/-
  Contracts over the translation: the order of two values, of package value (layer 2) and of the document's answer.
  Conditions: the values' numbers are int64 numbers.
-/
import Derived.Test.YtpknoclnmhomiaaVal2
namespace Go.Proofs.Ytpknoclnmhomiaa
open Go.RowKit Go.Joins Go.ChangeShapes Go.WideShapes
set_option linter.unusedVariables false

/-- the order of two values -/
def VCmp (k n : Int) (s : ByteArray) (k' n' : Int) (s' : ByteArray) : Int :=
  if k < k' then -1 else if k' < k then 1 else if k = 0 then 0 else if k = 3 then POrder n n' else if k = 4 then SCmp s s' else cmpI n n'

theorem two_below (w : World) (a b : Obj) : Below w.heap.size w ((w.alloc a).alloc b) :=
  ((Below.refl _ _).alloc (Nat.le_refl _) _).alloc (by simp) _

theorem bytesLess_cmp : ∀ a b : List UInt8, Op.bytesLess a b = (Lib.compareBytes a b == -1) ∧ (!(Op.bytesLess a b || a == b)) = (Lib.compareBytes a b == 1)
  | [], [] => by decide
  | [], _ :: _ => by simp [Op.bytesLess, Lib.compareBytes]
  | _ :: _, [] => by simp [Op.bytesLess, Lib.compareBytes]
  | a :: x, b :: y => by
    obtain ⟨h1, h2⟩ := bytesLess_cmp x y
    unfold Op.bytesLess Lib.compareBytes
    by_cases c : a < b
    · have : a ≠ b := fun e => by subst e; exact absurd c (UInt8.lt_irrefl a)
      simp [c]
    · by_cases d : b < a
      · have : a ≠ b := fun e => by subst e; exact absurd d (UInt8.lt_irrefl a)
        simp [c, d, this]
      · have : a = b := UInt8.le_antisymm (UInt8.not_lt.1 d) (UInt8.not_lt.1 c)
        subst this
        simp only [c, if_false, decide_false, Bool.false_or, beq_self_eq_true, Bool.true_and]
        refine ⟨h1, ?_⟩
        rw [← h2]
        congr 2
        simp

theorem cmp_vals : ∀ a b : List UInt8, Lib.compareBytes a b = -1 ∨ Lib.compareBytes a b = 0 ∨ Lib.compareBytes a b = 1
  | [], [] => by decide
  | [], _ :: _ => by simp [Lib.compareBytes]
  | _ :: _, [] => by simp [Lib.compareBytes]
  | a :: x, b :: y => by
    have := cmp_vals x y
    unfold Lib.compareBytes
    split
    · simp
    · split
      · simp
      · exact this

theorem refcompare_any (k n : Int) (s : ByteArray) (k' n' : Int) (s' : ByteArray) (w : World) :
    Calls Try.prog 31 #[Vv k n s, Vv k' n' s'] w fun e w' => e = .returned (.int .i64 (VCmp k n s k' n' s')) ∧ Below w.heap.size w w' := by
  unfold Vv
  by_cases hk : k = k'
  · subst hk
    have e1 : VCmp k n s k n' s' = if k = 0 then 0 else if k = 3 then POrder n n' else if k = 4 then SCmp s s' else cmpI n n' := by
      unfold VCmp; rw [if_neg (by omega), if_neg (by omega)]
    rw [e1]
    by_cases h0 : k = 0
    · subst h0
      rw [if_pos rfl]
      go_enter Try.func31, Try.ntmps31
      go_wp2
      go_ret
      exact ⟨rfl, two_below _ _ _⟩
    · have b0 : (k == 0) = false := by simpa using h0
      rw [if_neg h0]
      by_cases h3 : k = 3
      · subst h3
        rw [if_pos rfl]
        have hq := reforder_any n n'
        generalize POrder n n' = c at *
        have HQ := Lib.hid hq
        clear hq h0 b0 e1
        go_enter Try.func31, Try.ntmps31
        go_wp2_with (go_at_call 45; refine (HQ.out _).mono ?_; rintro e w' ⟨rfl, rfl⟩)
        go_ret
        exact ⟨rfl, two_below _ _ _⟩
      · have b3 : (k == 3) = false := by simpa using h3
        rw [if_neg h3]
        by_cases h4 : k = 4
        · subst h4
          rw [if_pos rfl]
          have hl : ∀ w, Calls Try.prog 32 #[.bool (Op.bytesLess s.toList s'.toList), .bool (!Op.bytesLess s.toList s'.toList && !s.toList == s'.toList)] w fun e w' => e = .returned (.int .i64 (SCmp s s')) ∧ w = w' := by
            intro w
            refine (less_any _ _ w).mono ?_
            rintro e w' ⟨rfl, rfl⟩
            refine ⟨ret_i ?_, rfl⟩
            unfold SCmp
            obtain ⟨h1, h2⟩ := bytesLess_cmp s.toList s'.toList
            rw [← Bool.not_or, h2, h1, Go.ByteArray.toList_eq, Go.ByteArray.toList_eq]
            rcases cmp_vals s.data.toList s'.data.toList with e | e | e <;> rw [e] <;> rfl
          have HL := Lib.hid hl
          clear hl h0 h3 b0 b3 e1
          go_enter Try.func31, Try.ntmps31
          go_wp2_with fail
          refine (HL.out _).mono ?_
          rintro e w' ⟨rfl, rfl⟩
          go_wp2
          go_ret
          exact ⟨rfl, two_below _ _ _⟩
        · have b4 : (k == 4) = false := by simpa using h4
          rw [if_neg h4]
          have hl : ∀ w, Calls Try.prog 32 #[.bool (decide (n < n')), .bool (decide (n' < n))] w fun e w' => e = .returned (.int .i64 (cmpI n n')) ∧ w = w' := by
            intro w
            refine (less_any _ _ w).mono ?_
            rintro e w' ⟨rfl, rfl⟩
            refine ⟨ret_i ?_, rfl⟩
            unfold cmpI
            by_cases c : n < n' <;> by_cases d : n' < n <;> simp [c, d]
          have HL := Lib.hid hl
          clear hl h0 h3 h4 e1
          go_enter Try.func31, Try.ntmps31
          go_wp2_with fail
          refine (HL.out _).mono ?_
          rintro e w' ⟨rfl, rfl⟩
          go_wp2
          go_ret
          exact ⟨rfl, two_below _ _ _⟩
  · have b : (k != k') = true := by simpa using hk
    have e1 : VCmp k n s k' n' s' = cmpI k k' := by
      unfold VCmp cmpI
      by_cases c : k < k'
      · rw [if_pos c, if_pos c]
      · rw [if_neg c, if_neg c, if_pos (by omega), if_pos (by omega)]
    rw [e1]
    have hl : ∀ w, Calls Try.prog 32 #[.bool (decide (k < k')), .bool true] w fun e w' => e = .returned (.int .i64 (cmpI k k')) ∧ w = w' := by
      intro w
      refine (less_any _ _ w).mono ?_
      rintro e w' ⟨rfl, rfl⟩
      refine ⟨ret_i ?_, rfl⟩
      unfold cmpI
      by_cases c : k < k'
      · simp [c]
      · rw [if_neg (by simpa using c), if_neg c, if_pos rfl, if_pos (by omega)]
    have HL := Lib.hid hl
    clear hl hk e1
    go_enter Try.func31, Try.ntmps31
    go_wp2_with fail
    refine (HL.out _).mono ?_
    rintro e w' ⟨rfl, rfl⟩
    go_wp2
    go_ret
    exact ⟨rfl, two_below _ _ _⟩

end Go.Proofs.Ytpknoclnmhomiaa
