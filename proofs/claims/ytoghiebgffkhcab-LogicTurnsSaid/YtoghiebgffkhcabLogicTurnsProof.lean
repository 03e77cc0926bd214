/-
  LogicTurns answers true at any three verdicts: their order and their groups make no difference, and what is turned about goes by the other word.
  Conditions: none but the row's own.
-/
import Derived.Test.YtoghiebgffkhcabLog8
import Derived.Test.YtoghiebgffkhcabRows
import Derived.WalkKit
import Derived.ProofKit
import Derived.OpenShut
import Derived.ShutString
import Derived.ChangeOld
import Derived.Below
import Derived.Carry
namespace Go.Proofs.Ytoghiebgffkhcab.logicTurns
open Go.ChangeShapes Go.WideShapes Go.ChangeAt Go.RowKit
open Go.Joins
set_option linter.unusedVariables false

theorem own : ownKnob Try.prog.godebug = none := by kernel_rfl
theorem laidOut : laidOutB Try.prog = true := by kernel_rfl


set_option maxHeartbeats 8000000 in
theorem walk {H : Type} {enc : TypeId × Value → H} (base : Nat) (v0 : Value) (d0 : DataW H) (p0 : List MemPlace) (v1 : Value) (d1 : DataW H) (p1 : List MemPlace) (v2 : Value) (d2 : DataW H) (p2 : List MemPlace) (W : World)
    (o0 : Value.okWide Try.prog W .any base 24 v0) (h0 : DataW.Trod enc Try.prog W 0 (fun _ => true) true 24 v0 d0 p0)
    (o1 : Value.okWide Try.prog W .any base 24 v1) (h1 : DataW.Trod enc Try.prog W 0 (fun _ => true) true 24 v1 d1 p1)
    (o2 : Value.okWide Try.prog W .any base 24 v2) (h2 : DataW.Trod enc Try.prog W 0 (fun _ => true) true 24 v2 d2 p2) :
    Calls Try.prog 5 #[v0, v1, v2] W fun e w' => e = .returned (.bool true) ∧ Below W.heap.size W w' := by
  obtain ⟨t, e, rfl, -, -⟩ := open_ver o0 h0
  obtain ⟨t', e', rfl, -, -⟩ := open_ver o1 h1
  obtain ⟨u, f, rfl, -, -⟩ := open_ver o2 h2
  clear o0 o1 o2 h0 h1 h2
  have hs := fun w => speaks4_any w
  have x1 := and_any t e t' e'
  have x2 := and_any t' e' t e
  have x3 := or_any t e t' e'
  have x4 := or_any t' e' t e
  have x5 := and_any t' e' u f
  have x6 := and_any t e (aT t' e' u f) (aE t' e' u f)
  have x7 := and_any (aT t e t' e') (aE t e t' e') u f
  have x8 := or_any t' e' u f
  have x9 := or_any t e (oT t' e' u f) (oE t' e' u f)
  have x10 := or_any (oT t e t' e') (oE t e t' e') u f
  have x11 := not_any (aT t e t' e') (aE t e t' e')
  have x12 := not_any t e
  have x13 := not_any t' e'
  have x14 := or_any (nT t e) e (nT t' e') e'
  have x15 := not_any (nT t e) e
  have x16 := and_any t e t e
  rw [aT_comm t e t' e', aE_comm t e t' e'] at x2
  rw [oT_comm t e t' e', oE_comm t e t' e'] at x4
  rw [(a_assoc t e t' e' u f).1, (a_assoc t e t' e' u f).2] at x7
  rw [(o_assoc t e t' e' u f).1, (o_assoc t e t' e' u f).2] at x10
  rw [(turn_and t e t' e').1, (turn_and t e t' e').2] at x14
  rw [(a_self t e).1, (a_self t e).2] at x16
  unfold Dv at *
  generalize nT (aT t e t' e') (aE t e t' e') = N1 at *
  generalize aT t e (aT t' e' u f) (aE t' e' u f) = D1 at *
  generalize aE t e (aT t' e' u f) (aE t' e' u f) = D2 at *
  generalize oT t e (oT t' e' u f) (oE t' e' u f) = R1 at *
  generalize oE t e (oT t' e' u f) (oE t' e' u f) = R2 at *
  generalize aT t' e' u f = B1 at *
  generalize aE t' e' u f = B2 at *
  generalize oT t' e' u f = P1 at *
  generalize oE t' e' u f = P2 at *
  generalize aT t e t' e' = A1 at *
  generalize aE t e t' e' = A2 at *
  generalize oT t e t' e' = O1 at *
  generalize oE t e t' e' = O2 at *
  generalize nT (nT t e) e = s1 at *
  generalize nT t e = a1 at *
  generalize nT t' e' = b1 at *
  have HS := Lib.hid hs
  have X1 := Lib.hid x1
  have X2 := Lib.hid x2
  have X3 := Lib.hid x3
  have X4 := Lib.hid x4
  have X5 := Lib.hid x5
  have X6 := Lib.hid x6
  have X7 := Lib.hid x7
  have X8 := Lib.hid x8
  have X9 := Lib.hid x9
  have X10 := Lib.hid x10
  have X11 := Lib.hid x11
  have X12 := Lib.hid x12
  have X13 := Lib.hid x13
  have X14 := Lib.hid x14
  have X15 := Lib.hid x15
  have X16 := Lib.hid x16
  clear hs x1 x2 x3 x4 x5 x6 x7 x8 x9 x10 x11 x12 x13 x14 x15 x16
  go_enter Try.func5, Try.ntmps5
  go_wp2_with fail
  refine (HS.out _).mono ?_
  rintro x w0 ⟨rfl, b0⟩
  have r0 := (rg_three t e t' e' u f W).step b0
  clear b0
  go_wp2_with fail
  have hk := rg_all6 r0
  clear r0
  go_region_held3 (fun w' => Rg W.heap.size W w' (C6 W.heap.size t e t' e' u f) ∧ w'.cell? ⟨W.heap.size, 0, none⟩ = some (.int .i64 t) ∧ w'.cell? ⟨W.heap.size, 1, none⟩ = some (.int .i64 e) ∧ w'.cell? ⟨W.heap.size + 1, 0, none⟩ = some (.int .i64 t') ∧ w'.cell? ⟨W.heap.size + 1, 1, none⟩ = some (.int .i64 e') ∧ w'.cell? ⟨W.heap.size + 2, 0, none⟩ = some (.int .i64 u) ∧ w'.cell? ⟨W.heap.size + 2, 1, none⟩ = some (.int .i64 f))
    (first | (go_split_ands; exact rg_all6 (by assumption)) | (go_split_ands; exact rg_all6 (Rg.drew (by assumption))) | (go_split_ands; exact rg_all6 (Rg.step (by assumption) hb)))
    (first
      | (go_at_call 8; (with_reducible refine (X1.out _).mono ?_); rintro x w1 ⟨rfl, hb⟩)
      | (go_at_call 8; (with_reducible refine (X2.out _).mono ?_); rintro x w1 ⟨rfl, hb⟩)
      | (go_at_call 10; (with_reducible refine (X3.out _).mono ?_); rintro x w1 ⟨rfl, hb⟩)
      | (go_at_call 10; (with_reducible refine (X4.out _).mono ?_); rintro x w1 ⟨rfl, hb⟩))
  go_wp2_with fail
  go_region_held3 (fun w' => Rg W.heap.size W w' (C6 W.heap.size t e t' e' u f) ∧ w'.cell? ⟨W.heap.size, 0, none⟩ = some (.int .i64 t) ∧ w'.cell? ⟨W.heap.size, 1, none⟩ = some (.int .i64 e) ∧ w'.cell? ⟨W.heap.size + 1, 0, none⟩ = some (.int .i64 t') ∧ w'.cell? ⟨W.heap.size + 1, 1, none⟩ = some (.int .i64 e') ∧ w'.cell? ⟨W.heap.size + 2, 0, none⟩ = some (.int .i64 u) ∧ w'.cell? ⟨W.heap.size + 2, 1, none⟩ = some (.int .i64 f))
    (first | (go_split_ands; exact rg_all6 (by assumption)) | (go_split_ands; exact rg_all6 (Rg.drew (by assumption))) | (go_split_ands; exact rg_all6 (Rg.step (by assumption) hb)))
    (first
      | (go_at_call 8; (with_reducible refine (X1.out _).mono ?_); rintro x w1 ⟨rfl, hb⟩)
      | (go_at_call 8; (with_reducible refine (X5.out _).mono ?_); rintro x w1 ⟨rfl, hb⟩)
      | (go_at_call 8; (with_reducible refine (X6.out _).mono ?_); rintro x w1 ⟨rfl, hb⟩)
      | (go_at_call 8; (with_reducible refine (X7.out _).mono ?_); rintro x w1 ⟨rfl, hb⟩)
      | (go_at_call 10; (with_reducible refine (X3.out _).mono ?_); rintro x w1 ⟨rfl, hb⟩)
      | (go_at_call 10; (with_reducible refine (X8.out _).mono ?_); rintro x w1 ⟨rfl, hb⟩)
      | (go_at_call 10; (with_reducible refine (X9.out _).mono ?_); rintro x w1 ⟨rfl, hb⟩)
      | (go_at_call 10; (with_reducible refine (X10.out _).mono ?_); rintro x w1 ⟨rfl, hb⟩))
  go_wp2_with fail
  go_region_held3 (fun w' => Rg W.heap.size W w' (C6 W.heap.size t e t' e' u f) ∧ w'.cell? ⟨W.heap.size, 0, none⟩ = some (.int .i64 t) ∧ w'.cell? ⟨W.heap.size, 1, none⟩ = some (.int .i64 e) ∧ w'.cell? ⟨W.heap.size + 1, 0, none⟩ = some (.int .i64 t') ∧ w'.cell? ⟨W.heap.size + 1, 1, none⟩ = some (.int .i64 e') ∧ w'.cell? ⟨W.heap.size + 2, 0, none⟩ = some (.int .i64 u) ∧ w'.cell? ⟨W.heap.size + 2, 1, none⟩ = some (.int .i64 f))
    (first | (go_split_ands; exact rg_all6 (by assumption)) | (go_split_ands; exact rg_all6 (Rg.drew (by assumption))) | (go_split_ands; exact rg_all6 (Rg.step (by assumption) hb)))
    (first
      | (go_at_call 8; (with_reducible refine (X1.out _).mono ?_); rintro x w1 ⟨rfl, hb⟩)
      | (go_at_call 8; (with_reducible refine (X16.out _).mono ?_); rintro x w1 ⟨rfl, hb⟩)
      | (go_at_call 12; (with_reducible refine (X11.out _).mono ?_); rintro x w1 ⟨rfl, hb⟩)
      | (go_at_call 12; (with_reducible refine (X12.out _).mono ?_); rintro x w1 ⟨rfl, hb⟩)
      | (go_at_call 12; (with_reducible refine (X13.out _).mono ?_); rintro x w1 ⟨rfl, hb⟩)
      | (go_at_call 12; (with_reducible refine (X15.out _).mono ?_); rintro x w1 ⟨rfl, hb⟩)
      | (go_at_call 10; (with_reducible refine (X14.out _).mono ?_); rintro x w1 ⟨rfl, hb⟩))
  all_goals
    go_split_ands
    go_wp2
    go_ret
    exact ⟨rfl, Rg.bel (by assumption)⟩

set_option maxRecDepth 100000 in
theorem lifted (os : Os) (started : os.Started) (H : Type) (enc : TypeId × Value → H) :
    ReturnsInHanded {} Try.checked os 5 .any (Rows.logicTurnsSpec.pre6 enc Try.prog Try.f5 Rows.logicTurnsRow.domain false) (Rows.logicTurnsSpec.post enc Try.prog Try.f5 false true false false) := by
  refine returnsInHanded_of_change (C := Try.checked) own started (by kernel_rfl) Try.func5
    (ChangeSpec.witness6 (enc := enc) (C := Try.checked) false ⟨#[], #[.agg #[.int .i64 0, .int .i64 0], .agg #[.int .i64 0, .int .i64 0], .agg #[.int .i64 0, .int .i64 0]], []⟩ 8 (by kernel_rfl) (by kernel_rfl) (by kernel_rfl) (by kernel_rfl)) ?_
  intro W base args ds gs before hval0 hW hcnd _
  have hval : ∀ (j : Nat) t v, Try.f5.params[j]? = some t → args[j]? = some v → Value.okWide Try.prog W .any base t v := hval0
  have hW' := hW
  obtain ⟨p, q, hA0, hV, rfl, hfz, hnd⟩ := hW
  have hA : DataW.TrodAll enc Try.prog W 0 (fun _ => true) true Try.f5.params.toList args.toList ds p := hA0
  rw [Try.params5] at hA hval
  obtain ⟨v0, vs0, d0, ds0, p0, q0, hargs, rfl, rfl, h0, r0⟩ := trodAll_cons hA
  obtain ⟨v1, vs1, d1, ds1, p1, q1, rfl, rfl, rfl, h1, r1⟩ := trodAll_cons r0
  obtain ⟨v2, vs2, d2, ds2, p2, q2, rfl, rfl, rfl, h2, r2⟩ := trodAll_cons r1
  obtain ⟨rfl, rfl, rfl⟩ := trodAll_nil r2
  obtain rfl : args = #[v0, v1, v2] := by cases args; simp_all
  obtain ⟨rfl, rfl⟩ := trodVars_none hV
  have lt0 : ∀ x ∈ p0, x.block < W.heap.size := by obtain ⟨m, hm⟩ := h0; exact DataW.trod_lt m _ _ _ hm
  have lt1 : ∀ x ∈ p1, x.block < W.heap.size := by obtain ⟨m, hm⟩ := h1; exact DataW.trod_lt m _ _ _ hm
  have lt2 : ∀ x ∈ p2, x.block < W.heap.size := by obtain ⟨m, hm⟩ := h2; exact DataW.trod_lt m _ _ _ hm
  refine (walk (enc := enc) base v0 d0 p0 v1 d1 p1 v2 d2 p2 W (hval 0 24 v0 rfl rfl) h0 (hval 1 24 v1 rfl rfl) h1 (hval 2 24 v2 rfl rfl) h2).mono fun e W' ⟨he, bel⟩ => ?_
  subst he
  exact ⟨_, rfl, _, _, _, [], _, [], hW', trodAll_mk1 (shut_bool Try.underlying4 _), (trodAll_cons_mk (Below.trod laidOut (by kernel_rfl) (of_decide_eq_true (by kernel_rfl)) h0 bel lt0) (trodAll_cons_mk (Below.trod laidOut (by kernel_rfl) (of_decide_eq_true (by kernel_rfl)) h1 bel lt1) (trodAll_cons_mk (Below.trod laidOut (by kernel_rfl) (of_decide_eq_true (by kernel_rfl)) h2 bel lt2) trodAll_mk0))), rfl, bel.frame _, fun h => by cases h⟩

theorem over : Rows.logicTurnsRow.holds Try.pinned (OpenSpec.ofChange Rows.logicTurnsSpec) :=
  OpenClaim.holds_of_wide 5 Try.f5 rfl rfl rfl rfl rfl rfl rfl ⟨rfl, rfl, rfl, rfl, rfl⟩ rfl rfl rfl rfl rfl (by kernel_rfl) Try.func5 (by kernel_rfl)
    (of_decide_eq_true (by kernel_rfl)) (by unfold Func.isWrapper; first | (rw [if_pos (by decide +kernel)]; kernel_rfl) | (rw [if_neg (by decide +kernel)]; exact ⟨rfl, rfl⟩))
    (fun os started H enc _ => lifted os started H enc)

theorem proved : Rows.LogicTurnsSaid :=
  over
end Go.Proofs.Ytoghiebgffkhcab.logicTurns
