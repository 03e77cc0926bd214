/-
  The examples of the document for layer 2 hold.
  Conditions: none.
-/
import Derived.Test.YteeglmfjogoggabVal3
import Derived.Test.YteeglmfjogoggabVal6
import Derived.Test.YteeglmfjogoggabVal7
import Derived.Test.YteeglmfjogoggabVal8
import Derived.Deep.RegionHeld3
namespace Go.Proofs.Yteeglmfjogoggab
open Go.RowKit Go.Joins Go.ChangeShapes Go.WideShapes

theorem s1 : VCmp 2 5 ⟨#[]⟩ 3 0 ⟨#[]⟩ = -1 := by decide +kernel
theorem s2 : VIs 1 3 0 ⟨#[]⟩ 3 (-9223372036854775808) ⟨#[]⟩ = 1 := by decide +kernel
theorem s3 : VIs 3 3 9218868437227405312 ⟨#[]⟩ 3 9221120237041090560 ⟨#[]⟩ = 1 := by decide +kernel
theorem s4 : VIs 2 0 0 ⟨#[]⟩ 2 1 ⟨#[]⟩ = 2 := by decide +kernel
theorem s5 : VCheck 2 1 ⟨#[]⟩ = 0 := by decide +kernel

theorem fieldT (a b : Int) (w : World) : (Instr.field 37 (.agg #[.int .i64 a, .int .i64 b]) 0).run Try.prog w = .ok (.int .i64 a) w := by kernel_rfl
theorem fieldE (a b : Int) (w : World) : (Instr.field 37 (.agg #[.int .i64 a, .int .i64 b]) 1).run Try.prog w = .ok (.int .i64 b) w := by kernel_rfl

theorem speaks2_any (w : World) :
    Calls Try.prog 10 #[] w fun e w' => e = .returned (.bool true) ∧ Below w.heap.size w w' := by
  go_enter Try.func10, Try.ntmps10
  go_wp2_with fail
  refine (num_any _ _).mono ?_
  rintro e w1 ⟨rfl, b1⟩
  go_wp2_with fail
  refine (rl_any _ _).mono ?_
  rintro e w2 ⟨rfl, b2⟩
  have c2 := b1.trans (b2.mono b1.size)
  clear b1 b2
  go_wp2_with fail
  refine (compare_any _ _ _ _ _ _ _).mono ?_
  rintro e w3 ⟨rfl, b3⟩
  have c3 := c2.trans (b3.mono c2.size)
  clear c2 b3
  rw [s1]
  go_wp2_with fail
  refine (rl_any _ _).mono ?_
  rintro e w4 ⟨rfl, b4⟩
  have c4 := c3.trans (b4.mono c3.size)
  clear c3 b4
  go_wp2_with fail
  refine (rl_any _ _).mono ?_
  rintro e w5 ⟨rfl, b5⟩
  have c5 := c4.trans (b5.mono c4.size)
  clear c4 b5
  go_wp2_with fail
  refine (is_any _ _ _ _ _ _ _ _).mono ?_
  rintro e w6 ⟨rfl, b6⟩
  have c6 := c5.trans (b6.mono c5.size)
  clear c5 b6
  rw [s2]
  go_wp2_with fail
  refine (rl_any _ _).mono ?_
  rintro e w7 ⟨rfl, b7⟩
  have c7 := c6.trans (b7.mono c6.size)
  clear c6 b7
  go_wp2_with fail
  refine (rl_any _ _).mono ?_
  rintro e w8 ⟨rfl, b8⟩
  have c8 := c7.trans (b8.mono c7.size)
  clear c7 b8
  go_wp2_with fail
  refine (is_any _ _ _ _ _ _ _ _).mono ?_
  rintro e w9 ⟨rfl, b9⟩
  have c9 := c8.trans (b9.mono c8.size)
  clear c8 b9
  rw [s3]
  go_wp2_with fail
  refine (num_any _ _).mono ?_
  rintro e w10 ⟨rfl, b10⟩
  have c10 := c9.trans (b10.mono c9.size)
  clear c9 b10
  go_wp2_with fail
  refine (is_any _ _ _ _ _ _ _ _).mono ?_
  rintro e w11 ⟨rfl, b11⟩
  have c11 := c10.trans (b11.mono c10.size)
  clear c10 b11
  rw [s4]
  go_wp2_with fail
  refine (num_any _ _).mono ?_
  rintro e w12 ⟨rfl, b12⟩
  have c12 := c11.trans (b12.mono c11.size)
  clear c11 b12
  go_wp2_with fail
  refine (check_any _ _ _ (by decide) _).mono ?_
  rintro e w13 ⟨rfl, b13⟩
  have c13 := c12.trans (b13.mono c12.size)
  clear c12 b13
  rw [s5]
  go_wp2_with fail
  refine (vof_any _ _).mono ?_
  rintro e w14 ⟨rfl, b14⟩
  have c14 := c13.trans (b14.mono c13.size)
  clear c13 b14
  rw [show VO 1 = (1, 1) from rfl]
  go_wp2_with fail
  refine (vtruth_any _ _ _ _).mono ?_
  rintro e w15 ⟨rfl, b15⟩
  have c15 := c14.trans (b15.mono c14.size)
  clear c14 b15
  rw [show VT 1 1 = (1, 0) from rfl]
  have hfld := fieldT 1 0
  go_wp2_with fail
  refine (num_any _ _).mono ?_
  rintro e w16 ⟨rfl, b16⟩
  clear hfld
  have c16 := c15.trans (b16.mono c15.size)
  clear c15 b16
  unfold Vv
  go_wp2_with fail
  refine (vrows_zero _ _ _ _ _ _ (by decide) (by decide) (.inr rfl) _).mono ?_
  rintro e w17 ⟨rfl, b17⟩
  have c17 := (c16.alloc (c16.size) _).trans (b17.mono (by have := c16.size; simp; omega))
  clear c16 b17
  rw [show cmpI (1 : Nat) (0 : Nat) = 1 from rfl]
  go_wp2_with fail
  go_ret
  exact ⟨rfl, c17⟩

end Go.Proofs.Yteeglmfjogoggab
