/-
  Contracts over the translation: comparisons of two values, of package value (layer 2) and of the document's answer.
  Conditions: the values' numbers are int64 numbers.
-/
import Derived.Test.YteeglmfjogoggabVal4
namespace Go.Proofs.Yteeglmfjogoggab
open Go.RowKit Go.Joins Go.ChangeShapes Go.WideShapes
set_option linter.unusedVariables false

/-- a comparison by the place c -/
def opIs (op c : Int) : Int := if op = 1 then b2i (c == 0) else if op = 2 then b2i (c != 0) else if op = 3 then b2i (decide (c < 0)) else if op = 4 then b2i (decide (c ≤ 0)) else if op = 5 then b2i (decide (0 < c)) else if op = 6 then b2i (decide (0 ≤ c)) else 2

def VIs (op k n : Int) (s : ByteArray) (k' n' : Int) (s' : ByteArray) : Int :=
  if k = 0 ∨ k' = 0 then 2 else opIs op (VCmp k n s k' n' s')

theorem vcmp_vals (k n : Int) (s : ByteArray) (k' n' : Int) (s' : ByteArray) : VCmp k n s k' n' s' = -1 ∨ VCmp k n s k' n' s' = 0 ∨ VCmp k n s k' n' s' = 1 := by
  unfold VCmp
  have h1 := porder_vals n n'
  have h2 := cmp_vals s.data.toList s'.data.toList
  unfold SCmp cmpI
  repeat' split
  all_goals first | exact h1 | exact h2 | simp

theorem is_null (op k n : Int) (s : ByteArray) (k' n' : Int) (s' : ByteArray) (h : k = 0 ∨ k' = 0) (w : World) :
    Calls Try.prog 15 #[.int .i64 op, Vv k n s, Vv k' n' s'] w fun e w' => e = .returned (.int .i64 2) ∧ Below w.heap.size w w' := by
  unfold Vv
  by_cases h0 : k = 0
  · subst h0
    clear h
    go_enter Try.func15, Try.ntmps15
    go_wp2
    go_ret
    exact ⟨rfl, two_below _ _ _⟩
  · obtain rfl : k' = 0 := by omega
    have b0 : (k == 0) = false := by simpa using h0
    clear h h0
    go_enter Try.func15, Try.ntmps15
    go_wp2
    go_ret
    exact ⟨rfl, two_below _ _ _⟩

theorem is_1 (k n : Int) (s : ByteArray) (k' n' : Int) (s' : ByteArray) (h0 : (k == 0) = false) (h0' : (k' == 0) = false) (w : World) :
    Calls Try.prog 15 #[.int .i64 1, Vv k n s, Vv k' n' s'] w fun e w' => e = .returned (.int .i64 (opIs 1 (VCmp k n s k' n' s'))) ∧ Below w.heap.size w w' := by
  have hc := compare_any k n s k' n' s'
  generalize VCmp k n s k' n' s' = c at *
  have HC := Lib.hid hc
  clear hc
  generalize hr : opIs 1 c = r
  have HR := Lib.hid hr
  clear hr
  unfold Vv at *
  go_enter Try.func15, Try.ntmps15
  go_wp2_with fail
  refine (HC.out _).mono ?_
  rintro e w1 ⟨rfl, hb⟩
  go_wp2_with (go_at_call 35; refine (truth_any _ _).mono ?_; rintro e w' ⟨rfl, rfl⟩)
  go_ret
  exact ⟨ret_i (by rw [← HR.out]; rfl), (two_below _ _ _).trans (hb.mono (by simp; omega))⟩

theorem is_2 (k n : Int) (s : ByteArray) (k' n' : Int) (s' : ByteArray) (h0 : (k == 0) = false) (h0' : (k' == 0) = false) (w : World) :
    Calls Try.prog 15 #[.int .i64 2, Vv k n s, Vv k' n' s'] w fun e w' => e = .returned (.int .i64 (opIs 2 (VCmp k n s k' n' s'))) ∧ Below w.heap.size w w' := by
  have hc := compare_any k n s k' n' s'
  generalize VCmp k n s k' n' s' = c at *
  have HC := Lib.hid hc
  clear hc
  generalize hr : opIs 2 c = r
  have HR := Lib.hid hr
  clear hr
  unfold Vv at *
  go_enter Try.func15, Try.ntmps15
  go_wp2_with fail
  refine (HC.out _).mono ?_
  rintro e w1 ⟨rfl, hb⟩
  go_wp2_with (go_at_call 35; refine (truth_any _ _).mono ?_; rintro e w' ⟨rfl, rfl⟩)
  go_ret
  exact ⟨ret_i (by rw [← HR.out]; rfl), (two_below _ _ _).trans (hb.mono (by simp; omega))⟩

theorem is_3 (k n : Int) (s : ByteArray) (k' n' : Int) (s' : ByteArray) (h0 : (k == 0) = false) (h0' : (k' == 0) = false) (w : World) :
    Calls Try.prog 15 #[.int .i64 3, Vv k n s, Vv k' n' s'] w fun e w' => e = .returned (.int .i64 (opIs 3 (VCmp k n s k' n' s'))) ∧ Below w.heap.size w w' := by
  have hc := compare_any k n s k' n' s'
  generalize VCmp k n s k' n' s' = c at *
  have HC := Lib.hid hc
  clear hc
  generalize hr : opIs 3 c = r
  have HR := Lib.hid hr
  clear hr
  unfold Vv at *
  go_enter Try.func15, Try.ntmps15
  go_wp2_with fail
  refine (HC.out _).mono ?_
  rintro e w1 ⟨rfl, hb⟩
  go_wp2_with (go_at_call 35; refine (truth_any _ _).mono ?_; rintro e w' ⟨rfl, rfl⟩)
  go_ret
  exact ⟨ret_i (by rw [← HR.out]; rfl), (two_below _ _ _).trans (hb.mono (by simp; omega))⟩

theorem is_4 (k n : Int) (s : ByteArray) (k' n' : Int) (s' : ByteArray) (h0 : (k == 0) = false) (h0' : (k' == 0) = false) (w : World) :
    Calls Try.prog 15 #[.int .i64 4, Vv k n s, Vv k' n' s'] w fun e w' => e = .returned (.int .i64 (opIs 4 (VCmp k n s k' n' s'))) ∧ Below w.heap.size w w' := by
  have hc := compare_any k n s k' n' s'
  generalize VCmp k n s k' n' s' = c at *
  have HC := Lib.hid hc
  clear hc
  generalize hr : opIs 4 c = r
  have HR := Lib.hid hr
  clear hr
  unfold Vv at *
  go_enter Try.func15, Try.ntmps15
  go_wp2_with fail
  refine (HC.out _).mono ?_
  rintro e w1 ⟨rfl, hb⟩
  go_wp2_with (go_at_call 35; refine (truth_any _ _).mono ?_; rintro e w' ⟨rfl, rfl⟩)
  go_ret
  exact ⟨ret_i (by rw [← HR.out]; rfl), (two_below _ _ _).trans (hb.mono (by simp; omega))⟩

theorem is_5 (k n : Int) (s : ByteArray) (k' n' : Int) (s' : ByteArray) (h0 : (k == 0) = false) (h0' : (k' == 0) = false) (w : World) :
    Calls Try.prog 15 #[.int .i64 5, Vv k n s, Vv k' n' s'] w fun e w' => e = .returned (.int .i64 (opIs 5 (VCmp k n s k' n' s'))) ∧ Below w.heap.size w w' := by
  have hc := compare_any k n s k' n' s'
  generalize VCmp k n s k' n' s' = c at *
  have HC := Lib.hid hc
  clear hc
  generalize hr : opIs 5 c = r
  have HR := Lib.hid hr
  clear hr
  unfold Vv at *
  go_enter Try.func15, Try.ntmps15
  go_wp2_with fail
  refine (HC.out _).mono ?_
  rintro e w1 ⟨rfl, hb⟩
  go_wp2_with (go_at_call 35; refine (truth_any _ _).mono ?_; rintro e w' ⟨rfl, rfl⟩)
  go_ret
  exact ⟨ret_i (by rw [← HR.out]; rfl), (two_below _ _ _).trans (hb.mono (by simp; omega))⟩

theorem is_6 (k n : Int) (s : ByteArray) (k' n' : Int) (s' : ByteArray) (h0 : (k == 0) = false) (h0' : (k' == 0) = false) (w : World) :
    Calls Try.prog 15 #[.int .i64 6, Vv k n s, Vv k' n' s'] w fun e w' => e = .returned (.int .i64 (opIs 6 (VCmp k n s k' n' s'))) ∧ Below w.heap.size w w' := by
  have hc := compare_any k n s k' n' s'
  generalize VCmp k n s k' n' s' = c at *
  have HC := Lib.hid hc
  clear hc
  generalize hr : opIs 6 c = r
  have HR := Lib.hid hr
  clear hr
  unfold Vv at *
  go_enter Try.func15, Try.ntmps15
  go_wp2_with fail
  refine (HC.out _).mono ?_
  rintro e w1 ⟨rfl, hb⟩
  go_wp2_with (go_at_call 35; refine (truth_any _ _).mono ?_; rintro e w' ⟨rfl, rfl⟩)
  go_ret
  exact ⟨ret_i (by rw [← HR.out]; rfl), (two_below _ _ _).trans (hb.mono (by simp; omega))⟩

theorem is_no (op : Int) (k n : Int) (s : ByteArray) (k' n' : Int) (s' : ByteArray) (h0 : (k == 0) = false) (h0' : (k' == 0) = false) (hop : op < 1 ∨ 6 < op) (w : World) :
    Calls Try.prog 15 #[.int .i64 op, Vv k n s, Vv k' n' s'] w fun e w' => e = .returned (.int .i64 (opIs op (VCmp k n s k' n' s'))) ∧ Below w.heap.size w w' := by
  have hc := compare_any k n s k' n' s'
  generalize VCmp k n s k' n' s' = c at *
  have HC := Lib.hid hc
  clear hc
  have hn : opIs op c = 2 := by unfold opIs; repeat' (rw [if_neg (by omega)])
  rw [hn]
  have o1 : (op == 1) = false := by simp; omega
  have o2 : (op == 2) = false := by simp; omega
  have o3 : (op == 3) = false := by simp; omega
  have o4 : (op == 4) = false := by simp; omega
  have o5 : (op == 5) = false := by simp; omega
  have o6 : (op == 6) = false := by simp; omega
  clear hop hn
  unfold Vv at *
  go_enter Try.func15, Try.ntmps15
  go_wp2_with fail
  refine (HC.out _).mono ?_
  rintro e w1 ⟨rfl, hb⟩
  go_wp2_with (go_at_call 35; refine (truth_any _ _).mono ?_; rintro e w' ⟨rfl, rfl⟩)
  go_ret
  exact ⟨rfl, (two_below _ _ _).trans (hb.mono (by simp; omega))⟩

theorem is_any (op k n : Int) (s : ByteArray) (k' n' : Int) (s' : ByteArray) (w : World) :
    Calls Try.prog 15 #[.int .i64 op, Vv k n s, Vv k' n' s'] w fun e w' => e = .returned (.int .i64 (VIs op k n s k' n' s')) ∧ Below w.heap.size w w' := by
  unfold VIs
  by_cases h : k = 0 ∨ k' = 0
  · rw [if_pos h]; exact is_null op k n s k' n' s' h w
  · rw [if_neg h]
    have h0 : (k == 0) = false := by simp; omega
    have h0' : (k' == 0) = false := by simp; omega
    by_cases hop : op < 1 ∨ 6 < op
    · exact is_no op k n s k' n' s' h0 h0' hop w
    · have ho : op = 1 ∨ op = 2 ∨ op = 3 ∨ op = 4 ∨ op = 5 ∨ op = 6 := by omega
      rcases ho with rfl | rfl | rfl | rfl | rfl | rfl
      · exact is_1 k n s k' n' s' h0 h0' w
      · exact is_2 k n s k' n' s' h0 h0' w
      · exact is_3 k n s k' n' s' h0 h0' w
      · exact is_4 k n s k' n' s' h0 h0' w
      · exact is_5 k n s k' n' s' h0 h0' w
      · exact is_6 k n s k' n' s' h0 h0' w

end Go.Proofs.Yteeglmfjogoggab
