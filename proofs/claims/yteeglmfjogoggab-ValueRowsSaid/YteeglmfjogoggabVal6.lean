/-
  Contracts over the translation: comparisons of two values, the document's answer.
  Conditions: the values' numbers are int64 numbers.
-/
import Derived.Test.YteeglmfjogoggabVal5
namespace Go.Proofs.Yteeglmfjogoggab
open Go.RowKit Go.Joins Go.ChangeShapes Go.WideShapes
set_option linter.unusedVariables false

theorem ris_null (op k n : Int) (s : ByteArray) (k' n' : Int) (s' : ByteArray) (h : k = 0 ∨ k' = 0) (w : World) :
    Calls Try.prog 16 #[.int .i64 op, Vv k n s, Vv k' n' s'] w fun e w' => e = .returned (.int .i64 2) ∧ Below w.heap.size w w' := by
  unfold Vv
  by_cases h0 : k = 0
  · subst h0
    clear h
    go_enter Try.func16, Try.ntmps16
    go_wp2
    go_ret
    exact ⟨rfl, two_below _ _ _⟩
  · obtain rfl : k' = 0 := by omega
    have b0 : (k == 0) = false := by simpa using h0
    clear h h0
    go_enter Try.func16, Try.ntmps16
    go_wp2
    go_ret
    exact ⟨rfl, two_below _ _ _⟩

theorem ris_no (op k n : Int) (s : ByteArray) (k' n' : Int) (s' : ByteArray) (h0 : (k == 0) = false) (h0' : (k' == 0) = false) (hop : op < 1 ∨ 6 < op) (w : World) :
    Calls Try.prog 16 #[.int .i64 op, Vv k n s, Vv k' n' s'] w fun e w' => e = .returned (.int .i64 2) ∧ Below w.heap.size w w' := by
  unfold Vv
  rcases hop with h | h
  all_goals
    go_enter Try.func16, Try.ntmps16
    go_wp2
    go_ret
    exact ⟨rfl, two_below _ _ _⟩

theorem three_below {w w1 : World} {a b : Obj} (hb : Below ((w.alloc a).alloc b).heap.size ((w.alloc a).alloc b) w1) (o : Obj) : Below w.heap.size w (w1.alloc o) :=
  ((two_below w a b).trans (hb.mono (by simp; omega))).alloc (by have := hb.size; simp at this; omega) o

theorem ris_1 (k n : Int) (s : ByteArray) (k' n' : Int) (s' : ByteArray) (h0 : (k == 0) = false) (h0' : (k' == 0) = false) (w : World) :
    Calls Try.prog 16 #[.int .i64 1, Vv k n s, Vv k' n' s'] w fun e w' => e = .returned (.int .i64 (opIs 1 (VCmp k n s k' n' s'))) ∧ Below w.heap.size w w' := by
  have hc := refcompare_any k n s k' n' s'
  have hv := vcmp_vals k n s k' n' s'
  generalize VCmp k n s k' n' s' = c at *
  have HC := Lib.hid hc
  clear hc
  unfold Vv at *
  rcases hv with rfl | rfl | rfl
  all_goals
    go_enter Try.func16, Try.ntmps16
    go_wp2_with fail
    refine (HC.out _).mono ?_
    rintro e w1 ⟨rfl, hb⟩
    go_wp2
    go_ret
    exact ⟨rfl, three_below hb _⟩

theorem ris_2 (k n : Int) (s : ByteArray) (k' n' : Int) (s' : ByteArray) (h0 : (k == 0) = false) (h0' : (k' == 0) = false) (w : World) :
    Calls Try.prog 16 #[.int .i64 2, Vv k n s, Vv k' n' s'] w fun e w' => e = .returned (.int .i64 (opIs 2 (VCmp k n s k' n' s'))) ∧ Below w.heap.size w w' := by
  have hc := refcompare_any k n s k' n' s'
  have hv := vcmp_vals k n s k' n' s'
  generalize VCmp k n s k' n' s' = c at *
  have HC := Lib.hid hc
  clear hc
  unfold Vv at *
  rcases hv with rfl | rfl | rfl
  all_goals
    go_enter Try.func16, Try.ntmps16
    go_wp2_with fail
    refine (HC.out _).mono ?_
    rintro e w1 ⟨rfl, hb⟩
    go_wp2
    go_ret
    exact ⟨rfl, three_below hb _⟩

theorem ris_3 (k n : Int) (s : ByteArray) (k' n' : Int) (s' : ByteArray) (h0 : (k == 0) = false) (h0' : (k' == 0) = false) (w : World) :
    Calls Try.prog 16 #[.int .i64 3, Vv k n s, Vv k' n' s'] w fun e w' => e = .returned (.int .i64 (opIs 3 (VCmp k n s k' n' s'))) ∧ Below w.heap.size w w' := by
  have hc := refcompare_any k n s k' n' s'
  have hv := vcmp_vals k n s k' n' s'
  generalize VCmp k n s k' n' s' = c at *
  have HC := Lib.hid hc
  clear hc
  unfold Vv at *
  rcases hv with rfl | rfl | rfl
  all_goals
    go_enter Try.func16, Try.ntmps16
    go_wp2_with fail
    refine (HC.out _).mono ?_
    rintro e w1 ⟨rfl, hb⟩
    go_wp2
    go_ret
    exact ⟨rfl, three_below hb _⟩

theorem ris_4 (k n : Int) (s : ByteArray) (k' n' : Int) (s' : ByteArray) (h0 : (k == 0) = false) (h0' : (k' == 0) = false) (w : World) :
    Calls Try.prog 16 #[.int .i64 4, Vv k n s, Vv k' n' s'] w fun e w' => e = .returned (.int .i64 (opIs 4 (VCmp k n s k' n' s'))) ∧ Below w.heap.size w w' := by
  have hc := refcompare_any k n s k' n' s'
  have hv := vcmp_vals k n s k' n' s'
  generalize VCmp k n s k' n' s' = c at *
  have HC := Lib.hid hc
  clear hc
  unfold Vv at *
  rcases hv with rfl | rfl | rfl
  all_goals
    go_enter Try.func16, Try.ntmps16
    go_wp2_with fail
    refine (HC.out _).mono ?_
    rintro e w1 ⟨rfl, hb⟩
    go_wp2
    go_ret
    exact ⟨rfl, three_below hb _⟩

theorem ris_5 (k n : Int) (s : ByteArray) (k' n' : Int) (s' : ByteArray) (h0 : (k == 0) = false) (h0' : (k' == 0) = false) (w : World) :
    Calls Try.prog 16 #[.int .i64 5, Vv k n s, Vv k' n' s'] w fun e w' => e = .returned (.int .i64 (opIs 5 (VCmp k n s k' n' s'))) ∧ Below w.heap.size w w' := by
  have hc := refcompare_any k n s k' n' s'
  have hv := vcmp_vals k n s k' n' s'
  generalize VCmp k n s k' n' s' = c at *
  have HC := Lib.hid hc
  clear hc
  unfold Vv at *
  rcases hv with rfl | rfl | rfl
  all_goals
    go_enter Try.func16, Try.ntmps16
    go_wp2_with fail
    refine (HC.out _).mono ?_
    rintro e w1 ⟨rfl, hb⟩
    go_wp2
    go_ret
    exact ⟨rfl, three_below hb _⟩

theorem ris_6 (k n : Int) (s : ByteArray) (k' n' : Int) (s' : ByteArray) (h0 : (k == 0) = false) (h0' : (k' == 0) = false) (w : World) :
    Calls Try.prog 16 #[.int .i64 6, Vv k n s, Vv k' n' s'] w fun e w' => e = .returned (.int .i64 (opIs 6 (VCmp k n s k' n' s'))) ∧ Below w.heap.size w w' := by
  have hc := refcompare_any k n s k' n' s'
  have hv := vcmp_vals k n s k' n' s'
  generalize VCmp k n s k' n' s' = c at *
  have HC := Lib.hid hc
  clear hc
  unfold Vv at *
  rcases hv with rfl | rfl | rfl
  all_goals
    go_enter Try.func16, Try.ntmps16
    go_wp2_with fail
    refine (HC.out _).mono ?_
    rintro e w1 ⟨rfl, hb⟩
    go_wp2
    go_ret
    exact ⟨rfl, three_below hb _⟩

theorem ris_any (op k n : Int) (s : ByteArray) (k' n' : Int) (s' : ByteArray) (w : World) :
    Calls Try.prog 16 #[.int .i64 op, Vv k n s, Vv k' n' s'] w fun e w' => e = .returned (.int .i64 (VIs op k n s k' n' s')) ∧ Below w.heap.size w w' := by
  unfold VIs
  by_cases h : k = 0 ∨ k' = 0
  · rw [if_pos h]; exact ris_null op k n s k' n' s' h w
  · rw [if_neg h]
    have h0 : (k == 0) = false := by simp; omega
    have h0' : (k' == 0) = false := by simp; omega
    by_cases hop : op < 1 ∨ 6 < op
    · rw [show opIs op (VCmp k n s k' n' s') = 2 by unfold opIs; repeat' (rw [if_neg (by omega)])]
      exact ris_no op k n s k' n' s' h0 h0' hop w
    · have ho : op = 1 ∨ op = 2 ∨ op = 3 ∨ op = 4 ∨ op = 5 ∨ op = 6 := by omega
      rcases ho with rfl | rfl | rfl | rfl | rfl | rfl
      · exact ris_1 k n s k' n' s' h0 h0' w
      · exact ris_2 k n s k' n' s' h0 h0' w
      · exact ris_3 k n s k' n' s' h0 h0' w
      · exact ris_4 k n s k' n' s' h0 h0' w
      · exact ris_5 k n s k' n' s' h0 h0' w
      · exact ris_6 k n s k' n' s' h0 h0' w

end Go.Proofs.Yteeglmfjogoggab
