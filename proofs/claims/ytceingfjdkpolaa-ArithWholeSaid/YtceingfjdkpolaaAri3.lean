/-
  Contracts over the translation: package arith's operators on numbers, and the types that they take.
  Conditions: the numbers are of 64 bits.
-/
import Derived.Test.YtceingfjdkpolaaAri2
import Derived.Test.YtceingfjdkpolaaReal2
import Derived.Test.YtceingfjdkpolaaWhole3
import Derived.Test.YtceingfjdkpolaaVal2
namespace Go.Proofs.Ytceingfjdkpolaa
open Go.RowKit Go.Joins Go.ChangeShapes Go.WideShapes
set_option linter.unusedVariables false

def wholeV (op a b : Int) : Int × Int := if op = 7 then chk (a + b) else if op = 8 then chk (a - b) else if op = 9 then chk (a * b) else if op = 10 then divV a b else if op = 11 then modV a b else chk (0 - a)
def pointV (op a b : Int) : Int := if op = 7 then ROf (Ieee.double.add (ub a) (ub b)) else if op = 8 then ROf (Ieee.double.sub (ub a) (ub b)) else if op = 9 then ROf (Ieee.double.mul (ub a) (ub b)) else if op = 10 then ROf (Ieee.double.div (ub a) (ub b)) else RNeg a
def OpsI (op : Int) : Prop := op = 7 ∨ op = 8 ∨ op = 9 ∨ op = 10 ∨ op = 11 ∨ op = 13
def OpsR (op : Int) : Prop := op = 7 ∨ op = 8 ∨ op = 9 ∨ op = 10 ∨ op = 13

theorem whole_any (op a b : Int) (ho : OpsI op) (ha : InI a) (hb : InI b) (w : World) :
    Calls Try.prog 35 #[.int .i64 op, .int .i64 a, .int .i64 b] w fun e w' => e = .returned (.tuple #[.int .i64 (wholeV op a b).1, .int .i64 (wholeV op a b).2]) ∧ w = w' := by
  rcases ho with rfl | rfl | rfl | rfl | rfl | rfl
  · rw [show wholeV 7 a b = chk (a + b) by simp [wholeV]]
    have h := aadd_any a b ha hb
    unfold P2 at h
    generalize chk (a + b) = r at *
    obtain ⟨r1, r2⟩ := r
    have H := Lib.hid h
    clear h ha hb
    go_enter Try.func35, Try.ntmps35
    go_wp2_with (go_at_call 49; refine (H.out _).mono ?_; rintro e w' ⟨rfl, rfl⟩)
    go_ret2
    exact ⟨rfl, rfl⟩
  · rw [show wholeV 8 a b = chk (a - b) by simp [wholeV]]
    have h := asub_any a b ha hb
    unfold P2 at h
    generalize chk (a - b) = r at *
    obtain ⟨r1, r2⟩ := r
    have H := Lib.hid h
    clear h ha hb
    go_enter Try.func35, Try.ntmps35
    go_wp2_with (go_at_call 50; refine (H.out _).mono ?_; rintro e w' ⟨rfl, rfl⟩)
    go_ret2
    exact ⟨rfl, rfl⟩
  · rw [show wholeV 9 a b = chk (a * b) by simp [wholeV]]
    have h := amul_any a b ha hb
    unfold P2 at h
    generalize chk (a * b) = r at *
    obtain ⟨r1, r2⟩ := r
    have H := Lib.hid h
    clear h ha hb
    go_enter Try.func35, Try.ntmps35
    go_wp2_with (go_at_call 51; refine (H.out _).mono ?_; rintro e w' ⟨rfl, rfl⟩)
    go_ret2
    exact ⟨rfl, rfl⟩
  · rw [show wholeV 10 a b = divV a b by simp [wholeV]]
    have h := adiv_any a b ha hb
    unfold P2 at h
    generalize divV a b = r at *
    obtain ⟨r1, r2⟩ := r
    have H := Lib.hid h
    clear h ha hb
    go_enter Try.func35, Try.ntmps35
    go_wp2_with (go_at_call 52; refine (H.out _).mono ?_; rintro e w' ⟨rfl, rfl⟩)
    go_ret2
    exact ⟨rfl, rfl⟩
  · rw [show wholeV 11 a b = modV a b by simp [wholeV]]
    have h := arest_any a b ha hb
    unfold P2 at h
    generalize modV a b = r at *
    obtain ⟨r1, r2⟩ := r
    have H := Lib.hid h
    clear h ha hb
    go_enter Try.func35, Try.ntmps35
    go_wp2_with (go_at_call 53; refine (H.out _).mono ?_; rintro e w' ⟨rfl, rfl⟩)
    go_ret2
    exact ⟨rfl, rfl⟩
  · rw [show wholeV 13 a b = chk (0 - a) by simp [wholeV]]
    have h := asub_any 0 a (by unfold InI; omega) ha
    unfold P2 at h
    generalize chk (0 - a) = r at *
    obtain ⟨r1, r2⟩ := r
    have H := Lib.hid h
    clear h ha hb
    go_enter Try.func35, Try.ntmps35
    go_wp2_with (go_at_call 50; refine (H.out _).mono ?_; rintro e w' ⟨rfl, rfl⟩)
    go_ret2
    exact ⟨rfl, rfl⟩

theorem point_any (op a b : Int) (ho : OpsR op) (w : World) :
    Calls Try.prog 34 #[.int .i64 op, .int .i64 a, .int .i64 b] w fun e w' => e = .returned (.int .i64 (pointV op a b)) ∧ ∃ n, w' = w.drewN n := by
  rcases ho with rfl | rfl | rfl | rfl | rfl
  · rw [show pointV 7 a b = ROf (Ieee.double.add (ub a) (ub b)) by simp [pointV]]
    have h := add_any a b
    generalize ROf (Ieee.double.add (ub a) (ub b)) = r at *
    have H := Lib.hid h
    clear h
    go_enter Try.func34, Try.ntmps34
    go_wp2_with fail
    refine (H.out _).mono ?_
    rintro e w' ⟨rfl, n1, rfl⟩
    go_wp2
    go_ret
    exact ⟨rfl, n1, rfl⟩
  · rw [show pointV 8 a b = ROf (Ieee.double.sub (ub a) (ub b)) by simp [pointV]]
    have h := sub_any a b
    generalize ROf (Ieee.double.sub (ub a) (ub b)) = r at *
    have H := Lib.hid h
    clear h
    go_enter Try.func34, Try.ntmps34
    go_wp2_with fail
    refine (H.out _).mono ?_
    rintro e w' ⟨rfl, n1, rfl⟩
    go_wp2
    go_ret
    exact ⟨rfl, n1, rfl⟩
  · rw [show pointV 9 a b = ROf (Ieee.double.mul (ub a) (ub b)) by simp [pointV]]
    have h := mul_any a b
    generalize ROf (Ieee.double.mul (ub a) (ub b)) = r at *
    have H := Lib.hid h
    clear h
    go_enter Try.func34, Try.ntmps34
    go_wp2_with fail
    refine (H.out _).mono ?_
    rintro e w' ⟨rfl, n1, rfl⟩
    go_wp2
    go_ret
    exact ⟨rfl, n1, rfl⟩
  · rw [show pointV 10 a b = ROf (Ieee.double.div (ub a) (ub b)) by simp [pointV]]
    have h := div_any a b
    generalize ROf (Ieee.double.div (ub a) (ub b)) = r at *
    have H := Lib.hid h
    clear h
    go_enter Try.func34, Try.ntmps34
    go_wp2_with fail
    refine (H.out _).mono ?_
    rintro e w' ⟨rfl, n1, rfl⟩
    go_wp2
    go_ret
    exact ⟨rfl, n1, rfl⟩
  · rw [show pointV 13 a b = RNeg a by simp [pointV]]
    have h := neg_any a
    generalize RNeg a = r at *
    have H := Lib.hid h
    clear h
    go_enter Try.func34, Try.ntmps34
    go_wp2_with fail
    refine (H.out _).mono ?_
    rintro e w' ⟨rfl, rfl⟩
    go_wp2
    go_ret
    exact ⟨rfl, 0, rfl⟩

def tiV (k n : Int) : Int × Int := if k = 3 then (if tbad (ub n) then 0 else TW (ub n), if tbad (ub n) then 10 else 0) else (n, 0)
def trV (k n : Int) : Int := if k = 2 then ROfInt n else n

theorem toint2_any (k n : Int) (s : ByteArray) (w : World) :
    Calls Try.prog 32 #[Vv k n s] w fun e w' => e = .returned (.tuple #[.int .i64 (tiV k n).1, .int .i64 (tiV k n).2]) ∧ Below w.heap.size w w' := by
  unfold Vv
  by_cases h3 : k = 3
  · subst h3
    rw [show tiV 3 n = (if tbad (ub n) then 0 else TW (ub n), if tbad (ub n) then 10 else 0) by simp [tiV]]
    have h := toint_any n
    generalize (if tbad (ub n) then 0 else TW (ub n)) = r1 at *
    generalize (if tbad (ub n) then (10 : Int) else 0) = r2 at *
    have H := Lib.hid h
    clear h
    go_enter Try.func32, Try.ntmps32
    go_wp2_with (go_at_call 42; refine (H.out _).mono ?_; rintro e w' ⟨rfl, rfl⟩)
    go_ret2
    exact ⟨rfl, (Below.refl _ _).alloc (Nat.le_refl _) _⟩
  · have c : (k == 3) = false := by simpa using h3
    rw [show tiV k n = (n, 0) by unfold tiV; exact if_neg h3]
    clear h3
    go_enter Try.func32, Try.ntmps32
    go_wp2
    go_ret2
    exact ⟨rfl, (Below.refl _ _).alloc (Nat.le_refl _) _⟩

theorem toreal_any (k n : Int) (s : ByteArray) (w : World) :
    Calls Try.prog 33 #[Vv k n s] w fun e w' => e = .returned (.int .i64 (trV k n)) ∧ Below w.heap.size w w' := by
  unfold Vv
  by_cases h3 : k = 2
  · subst h3
    rw [show trV 2 n = ROfInt n by simp [trV]]
    have h := ofint_any n
    generalize ROfInt n = r1 at *
    have H := Lib.hid h
    clear h
    go_enter Try.func33, Try.ntmps33
    go_wp2_with (go_at_call 43; refine (H.out _).mono ?_; rintro e w' ⟨rfl, rfl⟩)
    go_ret
    exact ⟨rfl, (Below.refl _ _).alloc (Nat.le_refl _) _⟩
  · have c : (k == 2) = false := by simpa using h3
    rw [show trV k n = n by unfold trV; exact if_neg h3]
    clear h3
    go_enter Try.func33, Try.ntmps33
    go_wp2
    go_ret
    exact ⟨rfl, (Below.refl _ _).alloc (Nat.le_refl _) _⟩

end Go.Proofs.Ytceingfjdkpolaa
