/-
  ArithOrder answers true at any three whole numbers: sums keep their order, where neither is too great.
  Conditions: none but the row's own.
-/
import Derived.Test.YtoghiebgffkhcaaAri9
import Derived.Test.YtoghiebgffkhcaaRows
import Derived.WalkKit
import Derived.ProofKit
import Derived.OpenShut
import Derived.ShutString
import Derived.ChangeOld
import Derived.Below
import Derived.Carry
namespace Go.Proofs.Ytoghiebgffkhcaa.arithOrder
open Go.ChangeShapes Go.WideShapes Go.ChangeAt Go.RowKit
open Go.Joins
set_option linter.unusedVariables false

theorem own : ownKnob Try.prog.godebug = none := by kernel_rfl
theorem laidOut : laidOutB Try.prog = true := by kernel_rfl

theorem order_walk (a b c k1 n1 e1 k2 n2 e2 : Int) (d1 : DoIs 7 a c k1 n1 e1) (d2 : DoIs 7 b c k2 n2 e2) (hc : (e1 = 31) ∨ (e1 = 0 ∧ e2 = 31) ∨ (e1 = 0 ∧ e2 = 0 ∧ ((a < b ∧ n1 < n2 ∧ (a == b) = false ∧ (n1 == n2) = false) ∨ (a = b ∧ n1 = n2) ∨ (decide (a < b) = false ∧ decide (n1 < n2) = false ∧ (a == b) = false ∧ (n1 == n2) = false)))) (W : World) :
    Calls Try.prog 8 #[.int .i64 a, .int .i64 b, .int .i64 c] W fun e w' => e = .returned (.bool true) ∧ Below W.heap.size W w' := by
  have HS := Lib.hid speaks3_any
  have HN := Lib.hid num_any
  have HC := Lib.hid hc
  unfold DoIs at d1 d2
  have D1 := Lib.hid d1
  have D2 := Lib.hid d2
  clear hc d1 d2
  go_enter Try.func8, Try.ntmps8
  go_wp2_with fail
  refine (HS.out _).mono ?_
  rintro x w0 ⟨rfl, b0⟩
  have r0 := (rg_nil W).step b0
  clear b0
  go_wp2_with fail
  refine (HN.out _ _).mono ?_
  rintro x w1 ⟨rfl, b1⟩
  have r1 := r0.step b1
  clear b1 r0
  go_wp2_with fail
  refine (HN.out _ _).mono ?_
  rintro x w2 ⟨rfl, b2⟩
  have r2 := r1.step b2
  clear b2 r1
  go_wp2_with fail
  refine (D1.out _).mono ?_
  rintro x w3 ⟨rfl, b3⟩
  have r3 := rg_new (r2.step b3) k1 n1 E0
  clear b3 r2
  go_wp2_with fail
  refine (HN.out _ _).mono ?_
  rintro x w4 ⟨rfl, b4⟩
  have r4 := r3.step b4
  clear b4 r3
  go_wp2_with fail
  refine (HN.out _ _).mono ?_
  rintro x w5 ⟨rfl, b5⟩
  have r5 := r4.step b5
  clear b5 r4
  go_wp2_with fail
  refine (D2.out _).mono ?_
  rintro x w6 ⟨rfl, b6⟩
  have r6 := r5.step b6
  have bl := (rg_new r6 k2 n2 E0).bel
  have c1 := r6.kp.tl.hd.1
  have l1 : w3.heap.size < w6.heap.size := r6.kp.lt
  clear b6 r5
  clear r6 HS HN D1 D2
  rcases HC.out with rfl | ⟨rfl, rfl⟩ | ⟨rfl, rfl, ⟨p1, p2, p3, p4⟩ | ⟨rfl, rfl⟩ | ⟨p1, p2, p3, p4⟩⟩
  all_goals
    clear HC
    go_wp2
    go_ret
    exact ⟨rfl, bl⟩

set_option maxHeartbeats 4000000 in
theorem walk {H : Type} {enc : TypeId × Value → H} (base : Nat) (v0 : Value) (d0 : DataW H) (p0 : List MemPlace) (v1 : Value) (d1 : DataW H) (p1 : List MemPlace) (v2 : Value) (d2 : DataW H) (p2 : List MemPlace) (W : World)
    (o0 : Value.okWide Try.prog W .any base 2 v0) (h0 : DataW.Trod enc Try.prog W 0 (fun _ => true) true 2 v0 d0 p0)
    (o1 : Value.okWide Try.prog W .any base 2 v1) (h1 : DataW.Trod enc Try.prog W 0 (fun _ => true) true 2 v1 d1 p1)
    (o2 : Value.okWide Try.prog W .any base 2 v2) (h2 : DataW.Trod enc Try.prog W 0 (fun _ => true) true 2 v2 d2 p2) :
    Calls Try.prog 8 #[v0, v1, v2] W fun e w' => e = .returned (.bool true) ∧ Below W.heap.size W w' := by
  obtain ⟨a, rfl, -, -, wa⟩ := open_int Try.underlying2 o0 h0
  obtain ⟨b, rfl, -, -, wb⟩ := open_int Try.underlying2 o1 h1
  obtain ⟨c, rfl, -, -, wc⟩ := open_int Try.underlying2 o2 h2
  have ia : InI a := bounds_i64 wa
  have ib : InI b := bounds_i64 wb
  have ic : InI c := bounds_i64 wc
  by_cases h1 : InI (a + c)
  · have d1 : DoIs 7 a c 2 (a + c) 0 := do_is (.inl rfl) ia ic (by rw [wv7]; exact wo_chk h1)
    by_cases h2 : InI (b + c)
    · have d2 : DoIs 7 b c 2 (b + c) 0 := do_is (.inl rfl) ib ic (by rw [wv7]; exact wo_chk h2)
      refine order_walk a b c _ _ _ _ _ _ d1 d2 (.inr (.inr ⟨rfl, rfl, ?_⟩)) W
      rcases Int.lt_trichotomy a b with h | h | h
      · exact .inl ⟨h, by omega, by simp; omega, by simp; omega⟩
      · exact .inr (.inl ⟨h, by omega⟩)
      · exact .inr (.inr ⟨by simp; omega, by simp; omega, by simp; omega, by simp; omega⟩)
    · have d2 : DoIs 7 b c 0 0 31 := do_is (.inl rfl) ib ic (by rw [wv7]; exact wo_out h2)
      exact order_walk a b c _ _ _ _ _ _ d1 d2 (.inr (.inl ⟨rfl, rfl⟩)) W
  · have d1 : DoIs 7 a c 0 0 31 := do_is (.inl rfl) ia ic (by rw [wv7]; exact wo_out h1)
    by_cases h2 : InI (b + c)
    · exact order_walk a b c _ _ _ _ _ _ d1 (do_is (.inl rfl) ib ic (by rw [wv7]; exact wo_chk h2)) (.inl rfl) W
    · exact order_walk a b c _ _ _ _ _ _ d1 (do_is (.inl rfl) ib ic (by rw [wv7]; exact wo_out h2)) (.inl rfl) W

set_option maxRecDepth 100000 in
theorem lifted (os : Os) (started : os.Started) (H : Type) (enc : TypeId × Value → H) :
    ReturnsInHanded {} Try.checked os 8 .any (Rows.arithOrderSpec.pre6 enc Try.prog Try.f8 Rows.arithOrderRow.domain false) (Rows.arithOrderSpec.post enc Try.prog Try.f8 false true false false) := by
  refine returnsInHanded_of_change (C := Try.checked) own started (by kernel_rfl) Try.func8
    (ChangeSpec.witness6 (enc := enc) (C := Try.checked) false ⟨#[], #[.int .i64 0, .int .i64 0, .int .i64 0], []⟩ 8 (by kernel_rfl) (by kernel_rfl) (by kernel_rfl) (by kernel_rfl)) ?_
  intro W base args ds gs before hval0 hW hcnd _
  have hval : ∀ (j : Nat) t v, Try.f8.params[j]? = some t → args[j]? = some v → Value.okWide Try.prog W .any base t v := hval0
  have hW' := hW
  obtain ⟨p, q, hA0, hV, rfl, hfz, hnd⟩ := hW
  have hA : DataW.TrodAll enc Try.prog W 0 (fun _ => true) true Try.f8.params.toList args.toList ds p := hA0
  rw [Try.params8] at hA hval
  obtain ⟨v0, vs0, d0, ds0, p0, q0, hargs, rfl, rfl, h0, r0⟩ := trodAll_cons hA
  obtain ⟨v1, vs1, d1, ds1, p1, q1, rfl, rfl, rfl, h1, r1⟩ := trodAll_cons r0
  obtain ⟨v2, vs2, d2, ds2, p2, q2, rfl, rfl, rfl, h2, r2⟩ := trodAll_cons r1
  obtain ⟨rfl, rfl, rfl⟩ := trodAll_nil r2
  obtain rfl : args = #[v0, v1, v2] := by cases args; simp_all
  obtain ⟨rfl, rfl⟩ := trodVars_none hV
  have lt0 : ∀ x ∈ p0, x.block < W.heap.size := by obtain ⟨m, hm⟩ := h0; exact DataW.trod_lt m _ _ _ hm
  have lt1 : ∀ x ∈ p1, x.block < W.heap.size := by obtain ⟨m, hm⟩ := h1; exact DataW.trod_lt m _ _ _ hm
  have lt2 : ∀ x ∈ p2, x.block < W.heap.size := by obtain ⟨m, hm⟩ := h2; exact DataW.trod_lt m _ _ _ hm
  refine (walk (enc := enc) base v0 d0 p0 v1 d1 p1 v2 d2 p2 W (hval 0 2 v0 rfl rfl) h0 (hval 1 2 v1 rfl rfl) h1 (hval 2 2 v2 rfl rfl) h2).mono fun e W' ⟨he, bel⟩ => ?_
  subst he
  exact ⟨_, rfl, _, _, _, [], _, [], hW', trodAll_mk1 (shut_bool Try.underlying4 _), (trodAll_cons_mk (Below.trod laidOut (by kernel_rfl) (of_decide_eq_true (by kernel_rfl)) h0 bel lt0) (trodAll_cons_mk (Below.trod laidOut (by kernel_rfl) (of_decide_eq_true (by kernel_rfl)) h1 bel lt1) (trodAll_cons_mk (Below.trod laidOut (by kernel_rfl) (of_decide_eq_true (by kernel_rfl)) h2 bel lt2) trodAll_mk0))), rfl, bel.frame _, fun h => by cases h⟩

theorem over : Rows.arithOrderRow.holds Try.pinned (OpenSpec.ofChange Rows.arithOrderSpec) :=
  OpenClaim.holds_of_wide 8 Try.f8 rfl rfl rfl rfl rfl rfl rfl ⟨rfl, rfl, rfl, rfl, rfl⟩ rfl rfl rfl rfl rfl (by kernel_rfl) Try.func8 (by kernel_rfl)
    (of_decide_eq_true (by kernel_rfl)) (by unfold Func.isWrapper; first | (rw [if_pos (by decide +kernel)]; kernel_rfl) | (rw [if_neg (by decide +kernel)]; exact ⟨rfl, rfl⟩))
    (fun os started H enc _ => lifted os started H enc)

theorem proved : Rows.ArithOrderSaid :=
  over
end Go.Proofs.Ytoghiebgffkhcaa.arithOrder
