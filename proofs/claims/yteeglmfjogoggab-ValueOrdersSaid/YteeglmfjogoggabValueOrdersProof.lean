/-
  ValueOrders answers true at any two values and any operator: their order and every comparison of them are the document's.
  Conditions: none but the row's own.
-/
import Derived.Test.YteeglmfjogoggabKeep
import Derived.Test.YteeglmfjogoggabRows
import Derived.WalkKit
import Derived.ProofKit
import Derived.OpenShut
import Derived.ShutString
import Derived.ChangeOld
import Derived.Below
import Derived.Carry
namespace Go.Proofs.Yteeglmfjogoggab.valueOrders
open Go.ChangeShapes Go.WideShapes Go.ChangeAt Go.RowKit
open Go.Joins
set_option linter.unusedVariables false

theorem own : ownKnob Try.prog.godebug = none := by kernel_rfl
theorem laidOut : laidOutB Try.prog = true := by kernel_rfl


theorem walk {H : Type} {enc : TypeId × Value → H} (base : Nat) (v0 : Value) (d0 : DataW H) (p0 : List MemPlace) (v1 : Value) (d1 : DataW H) (p1 : List MemPlace) (v2 : Value) (d2 : DataW H) (p2 : List MemPlace) (W : World)
    (o0 : Value.okWide Try.prog W .any base 24 v0) (h0 : DataW.Trod enc Try.prog W 0 (fun _ => true) true 24 v0 d0 p0)
    (o1 : Value.okWide Try.prog W .any base 24 v1) (h1 : DataW.Trod enc Try.prog W 0 (fun _ => true) true 24 v1 d1 p1)
    (o2 : Value.okWide Try.prog W .any base 3 v2) (h2 : DataW.Trod enc Try.prog W 0 (fun _ => true) true 3 v2 d2 p2) :
    Calls Try.prog 5 #[v0, v1, v2] W fun e w' => e = .returned (.bool true) ∧ Below W.heap.size W w' := by
  obtain ⟨k, n, s, rfl, hk0, hn0, hs0⟩ := open_val o0 h0
  obtain ⟨k', n', s', rfl, hk1, hn1, hs1⟩ := open_val o1 h1
  obtain ⟨op, rfl, -, -, wop⟩ := open_int Try.underlying3 o2 h2
  clear o0 h0 o1 h1 o2 h2
  unfold Vv
  go_enter Try.func5, Try.ntmps5
  go_wp2_with fail
  refine (speaks2_any _).mono ?_
  rintro e w0 ⟨rfl, b0⟩
  obtain ⟨hc, hf⟩ := bcell b0
  have a0 : w0.cell? ⟨W.heap.size, 0, none⟩ = some (.int .i64 k) := by rw [hc _ _ (by first | (simp; done) | (simp; omega))]; go_simp
  have a1 : w0.cell? ⟨W.heap.size, 1, none⟩ = some (.int .i64 n) := by rw [hc _ _ (by first | (simp; done) | (simp; omega))]; go_simp
  have a2 : w0.cell? ⟨W.heap.size, 2, none⟩ = some (.string s) := by rw [hc _ _ (by first | (simp; done) | (simp; omega))]; go_simp
  have a3 : w0.cell? ⟨W.heap.size + 1, 0, none⟩ = some (.int .i64 k') := by rw [hc _ _ (by first | (simp; done) | (simp; omega))]; go_simp
  have a4 : w0.cell? ⟨W.heap.size + 1, 1, none⟩ = some (.int .i64 n') := by rw [hc _ _ (by first | (simp; done) | (simp; omega))]; go_simp
  have a5 : w0.cell? ⟨W.heap.size + 1, 2, none⟩ = some (.string s') := by rw [hc _ _ (by first | (simp; done) | (simp; omega))]; go_simp
  have hh : Below (W.heap.size + 2) ((W.alloc (.cells #[.int .i64 k, .int .i64 n, .string s] 24)).alloc (.cells #[.int .i64 k', .int .i64 n', .string s'] 24)) w0 := b0.mono (by first | (simp; done) | (simp; omega))
  clear hc hf b0
  go_wp2_with fail
  go_region_held3 (fun w' => Below (W.heap.size + 2) ((W.alloc (.cells #[.int .i64 k, .int .i64 n, .string s] 24)).alloc (.cells #[.int .i64 k', .int .i64 n', .string s'] 24)) w' ∧ w'.cell? ⟨W.heap.size, 0, none⟩ = some (.int .i64 k) ∧ w'.cell? ⟨W.heap.size, 1, none⟩ = some (.int .i64 n) ∧ w'.cell? ⟨W.heap.size, 2, none⟩ = some (.string s) ∧ w'.cell? ⟨W.heap.size + 1, 0, none⟩ = some (.int .i64 k') ∧ w'.cell? ⟨W.heap.size + 1, 1, none⟩ = some (.int .i64 n') ∧ w'.cell? ⟨W.heap.size + 1, 2, none⟩ = some (.string s'))
    (first | exact ⟨by first | assumption | exact Below.drew (by assumption), by assumption, by assumption, by assumption, by assumption, by assumption, by assumption⟩ | (go_split_ands; exact keep2 (by assumption) (by first | (simp; done) | (simp; omega)) (by omega) hb (by assumption) (by assumption) (by assumption) (by assumption) (by assumption) (by assumption)))
    (first | (go_at_call 13; refine (compare_any k n s k' n' s' _).mono ?_; rintro e w' ⟨rfl, hb⟩) | (go_at_call 14; refine (refcompare_any k n s k' n' s' _).mono ?_; rintro e w' ⟨rfl, hb⟩) | (go_at_call 15; refine (is_any op k n s k' n' s' _).mono ?_; rintro e w' ⟨rfl, hb⟩) | (go_at_call 16; refine (ris_any op k n s k' n' s' _).mono ?_; rintro e w' ⟨rfl, hb⟩))
  go_wp2
  all_goals
    go_split_ands
    go_ret
    exact ⟨rfl, (two_below _ _ _).trans (Below.mono (by assumption) (by omega))⟩

set_option maxRecDepth 100000 in
theorem lifted (os : Os) (started : os.Started) (H : Type) (enc : TypeId × Value → H) :
    ReturnsInHanded {} Try.checked os 5 .any (Rows.valueOrdersSpec.pre6 enc Try.prog Try.f5 Rows.valueOrdersRow.domain false) (Rows.valueOrdersSpec.post enc Try.prog Try.f5 false true false false) := by
  refine returnsInHanded_of_change (C := Try.checked) own started (by kernel_rfl) Try.func5
    (ChangeSpec.witness6 (enc := enc) (C := Try.checked) false ⟨#[], #[.agg #[.int .i64 0, .int .i64 0, .string ByteArray.empty], .agg #[.int .i64 0, .int .i64 0, .string ByteArray.empty], .int .i64 0], []⟩ 8 (by kernel_rfl) (by kernel_rfl) (by kernel_rfl) (by kernel_rfl)) ?_
  intro W base args ds gs before hval0 hW hcnd _
  have hval : ∀ (j : Nat) t v, Try.f5.params[j]? = some t → args[j]? = some v → Value.okWide Try.prog W .any base t v := hval0
  have hW' := hW
  obtain ⟨p, q, hA0, hV, rfl, hfz, hnd⟩ := hW
  have hA : DataW.TrodAll enc Try.prog W 0 (fun _ => true) true Try.f5.params.toList args.toList ds p := hA0
  rw [Try.params5] at hA hval
  obtain ⟨v0, vs0, d0, ds0, p0, q0, hargs, rfl, rfl, h0, r0⟩ := trodAll_cons hA
  obtain ⟨v1, vs1, d1, ds1, p1, q1, rfl, rfl, rfl, h1, r1⟩ := trodAll_cons r0
  obtain ⟨v2, vs2, d2, ds2, p2, q2, rfl, rfl, rfl, h2, r2⟩ := trodAll_cons r1
  obtain ⟨rfl, rfl, rfl⟩ := trodAll_nil r2
  obtain rfl : args = #[v0, v1, v2] := by cases args; simp_all
  obtain ⟨rfl, rfl⟩ := trodVars_none hV
  have lt0 : ∀ x ∈ p0, x.block < W.heap.size := by obtain ⟨m, hm⟩ := h0; exact DataW.trod_lt m _ _ _ hm
  have lt1 : ∀ x ∈ p1, x.block < W.heap.size := by obtain ⟨m, hm⟩ := h1; exact DataW.trod_lt m _ _ _ hm
  have lt2 : ∀ x ∈ p2, x.block < W.heap.size := by obtain ⟨m, hm⟩ := h2; exact DataW.trod_lt m _ _ _ hm
  refine (walk (enc := enc) base v0 d0 p0 v1 d1 p1 v2 d2 p2 W (hval 0 24 v0 rfl rfl) h0 (hval 1 24 v1 rfl rfl) h1 (hval 2 3 v2 rfl rfl) h2).mono fun e W' ⟨he, bel⟩ => ?_
  subst he
  exact ⟨_, rfl, _, _, _, [], _, [], hW', trodAll_mk1 (shut_bool Try.underlying4 _), (trodAll_cons_mk (Below.trod laidOut (by kernel_rfl) (of_decide_eq_true (by kernel_rfl)) h0 bel lt0) (trodAll_cons_mk (Below.trod laidOut (by kernel_rfl) (of_decide_eq_true (by kernel_rfl)) h1 bel lt1) (trodAll_cons_mk (Below.trod laidOut (by kernel_rfl) (of_decide_eq_true (by kernel_rfl)) h2 bel lt2) trodAll_mk0))), rfl, bel.frame _, fun h => by cases h⟩

theorem over : Rows.valueOrdersRow.holds Try.pinned (OpenSpec.ofChange Rows.valueOrdersSpec) :=
  OpenClaim.holds_of_wide 5 Try.f5 rfl rfl rfl rfl rfl rfl rfl ⟨rfl, rfl, rfl, rfl, rfl⟩ rfl rfl rfl rfl rfl (by kernel_rfl) Try.func5 (by kernel_rfl)
    (of_decide_eq_true (by kernel_rfl)) (by unfold Func.isWrapper; first | (rw [if_pos (by decide +kernel)]; kernel_rfl) | (rw [if_neg (by decide +kernel)]; exact ⟨rfl, rfl⟩))
    (fun os started H enc _ => lifted os started H enc)

theorem proved : Rows.ValueOrdersSaid :=
  over
end Go.Proofs.Yteeglmfjogoggab.valueOrders
