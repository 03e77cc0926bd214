/-
  LogicJoins answers true at any two verdicts: they go together exactly as the document says.
  Conditions: none but the row's own.
-/
import Derived.Test.YtoghiebgffkhcabLog8
import Derived.Test.YtoghiebgffkhcabRows
import Derived.WalkKit
import Derived.ProofKit
import Derived.OpenShut
import Derived.ShutString
import Derived.ChangeOld
import Derived.Below
import Derived.Carry
namespace Go.Proofs.Ytoghiebgffkhcab.logicJoins
open Go.ChangeShapes Go.WideShapes Go.ChangeAt Go.RowKit
open Go.Joins
set_option linter.unusedVariables false

theorem own : ownKnob Try.prog.godebug = none := by kernel_rfl
theorem laidOut : laidOutB Try.prog = true := by kernel_rfl


set_option maxHeartbeats 4000000 in
theorem walk {H : Type} {enc : TypeId × Value → H} (base : Nat) (v0 : Value) (d0 : DataW H) (p0 : List MemPlace) (v1 : Value) (d1 : DataW H) (p1 : List MemPlace) (W : World)
    (o0 : Value.okWide Try.prog W .any base 24 v0) (h0 : DataW.Trod enc Try.prog W 0 (fun _ => true) true 24 v0 d0 p0)
    (o1 : Value.okWide Try.prog W .any base 24 v1) (h1 : DataW.Trod enc Try.prog W 0 (fun _ => true) true 24 v1 d1 p1) :
    Calls Try.prog 3 #[v0, v1] W fun e w' => e = .returned (.bool true) ∧ Below W.heap.size W w' := by
  obtain ⟨t, e, rfl, -, -⟩ := open_ver o0 h0
  obtain ⟨t', e', rfl, -, -⟩ := open_ver o1 h1
  clear o0 o1 h0 h1
  have hs := fun w => speaks4_any w
  have x1 := and_any t e t' e'
  have x2 := refand_any t e t' e'
  have x3 := or_any t e t' e'
  have x4 := refor_any t e t' e'
  have x5 := not_any t e
  have x6 := refnot_any t e
  have x7 := worse_any e e'
  have x8 := refworse_any e e'
  unfold Dv at *
  generalize aT t e t' e' = a1 at *
  generalize aE t e t' e' = a2 at *
  generalize oT t e t' e' = a3 at *
  generalize oE t e t' e' = a4 at *
  generalize nT t e = a5 at *
  generalize W2 e e' = a6 at *
  have HS := Lib.hid hs
  have X1 := Lib.hid x1
  have X2 := Lib.hid x2
  have X3 := Lib.hid x3
  have X4 := Lib.hid x4
  have X5 := Lib.hid x5
  have X6 := Lib.hid x6
  have X7 := Lib.hid x7
  have X8 := Lib.hid x8
  clear hs x1 x2 x3 x4 x5 x6 x7 x8
  go_enter Try.func3, Try.ntmps3
  go_wp2_with fail
  refine (HS.out _).mono ?_
  rintro x w0 ⟨rfl, b0⟩
  have r0 := (rg_two t e t' e' W).step b0
  clear b0
  go_wp2_with fail
  have hk := rg_all r0
  clear r0
  go_region_held3 (fun w' => Rg W.heap.size W w' (C4 W.heap.size t e t' e') ∧ w'.cell? ⟨W.heap.size, 0, none⟩ = some (.int .i64 t) ∧ w'.cell? ⟨W.heap.size, 1, none⟩ = some (.int .i64 e) ∧ w'.cell? ⟨W.heap.size + 1, 0, none⟩ = some (.int .i64 t') ∧ w'.cell? ⟨W.heap.size + 1, 1, none⟩ = some (.int .i64 e'))
    (first | (go_split_ands; exact rg_all (by assumption)) | (go_split_ands; exact rg_all (Rg.drew (by assumption))) | (go_split_ands; exact rg_all (Rg.step (by assumption) hb)))
    (first
      | (go_at_call 8; refine (X1.out _).mono ?_; rintro x w1 ⟨rfl, hb⟩)
      | (go_at_call 9; refine (X2.out _).mono ?_; rintro x w1 ⟨rfl, hb⟩)
      | (go_at_call 10; refine (X3.out _).mono ?_; rintro x w1 ⟨rfl, hb⟩)
      | (go_at_call 11; refine (X4.out _).mono ?_; rintro x w1 ⟨rfl, hb⟩)
      | (go_at_call 12; refine (X5.out _).mono ?_; rintro x w1 ⟨rfl, hb⟩)
      | (go_at_call 13; refine (X6.out _).mono ?_; rintro x w1 ⟨rfl, hb⟩)
      | (go_at_call 14; refine (X7.out _).mono ?_; rintro x w1 ⟨rfl, rfl⟩)
      | (go_at_call 15; refine (X8.out _).mono ?_; rintro x w1 ⟨rfl, rfl⟩))
  all_goals
    go_split_ands
    go_wp2
    go_ret
    exact ⟨rfl, Rg.bel (by assumption)⟩

set_option maxRecDepth 100000 in
theorem lifted (os : Os) (started : os.Started) (H : Type) (enc : TypeId × Value → H) :
    ReturnsInHanded {} Try.checked os 3 .any (Rows.logicJoinsSpec.pre6 enc Try.prog Try.f3 Rows.logicJoinsRow.domain false) (Rows.logicJoinsSpec.post enc Try.prog Try.f3 false true false false) := by
  refine returnsInHanded_of_change (C := Try.checked) own started (by kernel_rfl) Try.func3
    (ChangeSpec.witness6 (enc := enc) (C := Try.checked) false ⟨#[], #[.agg #[.int .i64 0, .int .i64 0], .agg #[.int .i64 0, .int .i64 0]], []⟩ 8 (by kernel_rfl) (by kernel_rfl) (by kernel_rfl) (by kernel_rfl)) ?_
  intro W base args ds gs before hval0 hW hcnd _
  have hval : ∀ (j : Nat) t v, Try.f3.params[j]? = some t → args[j]? = some v → Value.okWide Try.prog W .any base t v := hval0
  have hW' := hW
  obtain ⟨p, q, hA0, hV, rfl, hfz, hnd⟩ := hW
  have hA : DataW.TrodAll enc Try.prog W 0 (fun _ => true) true Try.f3.params.toList args.toList ds p := hA0
  rw [Try.params3] at hA hval
  obtain ⟨v0, vs0, d0, ds0, p0, q0, hargs, rfl, rfl, h0, r0⟩ := trodAll_cons hA
  obtain ⟨v1, vs1, d1, ds1, p1, q1, rfl, rfl, rfl, h1, r1⟩ := trodAll_cons r0
  obtain ⟨rfl, rfl, rfl⟩ := trodAll_nil r1
  obtain rfl : args = #[v0, v1] := by cases args; simp_all
  obtain ⟨rfl, rfl⟩ := trodVars_none hV
  have lt0 : ∀ x ∈ p0, x.block < W.heap.size := by obtain ⟨m, hm⟩ := h0; exact DataW.trod_lt m _ _ _ hm
  have lt1 : ∀ x ∈ p1, x.block < W.heap.size := by obtain ⟨m, hm⟩ := h1; exact DataW.trod_lt m _ _ _ hm
  refine (walk (enc := enc) base v0 d0 p0 v1 d1 p1 W (hval 0 24 v0 rfl rfl) h0 (hval 1 24 v1 rfl rfl) h1).mono fun e W' ⟨he, bel⟩ => ?_
  subst he
  exact ⟨_, rfl, _, _, _, [], _, [], hW', trodAll_mk1 (shut_bool Try.underlying4 _), (trodAll_cons_mk (Below.trod laidOut (by kernel_rfl) (of_decide_eq_true (by kernel_rfl)) h0 bel lt0) (trodAll_cons_mk (Below.trod laidOut (by kernel_rfl) (of_decide_eq_true (by kernel_rfl)) h1 bel lt1) trodAll_mk0)), rfl, bel.frame _, fun h => by cases h⟩

theorem over : Rows.logicJoinsRow.holds Try.pinned (OpenSpec.ofChange Rows.logicJoinsSpec) :=
  OpenClaim.holds_of_wide 3 Try.f3 rfl rfl rfl rfl rfl rfl rfl ⟨rfl, rfl, rfl, rfl, rfl⟩ rfl rfl rfl rfl rfl (by kernel_rfl) Try.func3 (by kernel_rfl)
    (of_decide_eq_true (by kernel_rfl)) (by unfold Func.isWrapper; first | (rw [if_pos (by decide +kernel)]; kernel_rfl) | (rw [if_neg (by decide +kernel)]; exact ⟨rfl, rfl⟩))
    (fun os started H enc _ => lifted os started H enc)

theorem proved : Rows.LogicJoinsSaid :=
  over
end Go.Proofs.Ytoghiebgffkhcab.logicJoins
