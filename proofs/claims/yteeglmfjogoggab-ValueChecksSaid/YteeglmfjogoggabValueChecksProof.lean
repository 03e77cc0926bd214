/-
  ValueChecks answers true at any value: it is checked exactly as the document says.
  Conditions: none but the row's own.
-/
import Derived.Test.YteeglmfjogoggabKeep
import Derived.Test.YteeglmfjogoggabRows
import Derived.WalkKit
import Derived.ProofKit
import Derived.OpenShut
import Derived.ShutString
import Derived.ChangeOld
import Derived.Below
import Derived.Carry
namespace Go.Proofs.Yteeglmfjogoggab.valueChecks
open Go.ChangeShapes Go.WideShapes Go.ChangeAt Go.RowKit
open Go.Joins
set_option linter.unusedVariables false

theorem own : ownKnob Try.prog.godebug = none := by kernel_rfl
theorem laidOut : laidOutB Try.prog = true := by kernel_rfl


theorem walk {H : Type} {enc : TypeId × Value → H} (base : Nat) (v0 : Value) (d0 : DataW H) (p0 : List MemPlace) (W : World)
    (o0 : Value.okWide Try.prog W .any base 24 v0) (h0 : DataW.Trod enc Try.prog W 0 (fun _ => true) true 24 v0 d0 p0) :
    Calls Try.prog 4 #[v0] W fun e w' => e = .returned (.bool true) ∧ Below W.heap.size W w' := by
  obtain ⟨k, n, s, rfl, hk0, hn0, hs0⟩ := open_val o0 h0
  clear o0 h0
  unfold Vv
  go_enter Try.func4, Try.ntmps4
  go_wp2_with fail
  refine (speaks2_any _).mono ?_
  rintro e w0 ⟨rfl, b0⟩
  obtain ⟨hc, hf⟩ := bcell b0
  have a0 : w0.cell? ⟨W.heap.size, 0, none⟩ = some (.int .i64 k) := by rw [hc _ _ (by simp)]; go_simp
  have a1 : w0.cell? ⟨W.heap.size, 1, none⟩ = some (.int .i64 n) := by rw [hc _ _ (by simp)]; go_simp
  have a2 : w0.cell? ⟨W.heap.size, 2, none⟩ = some (.string s) := by rw [hc _ _ (by simp)]; go_simp
  have hh : Below (W.heap.size + 1) (W.alloc (.cells #[.int .i64 k, .int .i64 n, .string s] 24)) w0 := b0.mono (by simp)
  clear hc hf b0
  go_wp2_with fail
  go_region_held3 (fun w' => Below (W.heap.size + 1) (W.alloc (.cells #[.int .i64 k, .int .i64 n, .string s] 24)) w' ∧ w'.cell? ⟨W.heap.size, 0, none⟩ = some (.int .i64 k) ∧ w'.cell? ⟨W.heap.size, 1, none⟩ = some (.int .i64 n) ∧ w'.cell? ⟨W.heap.size, 2, none⟩ = some (.string s))
    (first | exact ⟨by first | assumption | exact Below.drew (by assumption), by assumption, by assumption, by assumption⟩ | (go_split_ands; exact keep1 (by assumption) (by simp) (by omega) hb (by assumption) (by assumption) (by assumption)))
    (first | (go_at_call 11; refine (check_any k n s hs0 _).mono ?_; rintro e w' ⟨rfl, hb⟩) | (go_at_call 12; refine (refcheck_any k n s hn0 hs0 _).mono ?_; rintro e w' ⟨rfl, hb⟩))
  go_wp2
  go_split_ands
  go_ret
  exact ⟨rfl, ((Below.refl _ _).alloc (Nat.le_refl _) _).trans (Below.mono (by assumption) (by omega))⟩

set_option maxRecDepth 100000 in
theorem lifted (os : Os) (started : os.Started) (H : Type) (enc : TypeId × Value → H) :
    ReturnsInHanded {} Try.checked os 4 .any (Rows.valueChecksSpec.pre6 enc Try.prog Try.f4 Rows.valueChecksRow.domain false) (Rows.valueChecksSpec.post enc Try.prog Try.f4 false true false false) := by
  refine returnsInHanded_of_change (C := Try.checked) own started (by kernel_rfl) Try.func4
    (ChangeSpec.witness6 (enc := enc) (C := Try.checked) false ⟨#[], #[.agg #[.int .i64 0, .int .i64 0, .string ByteArray.empty]], []⟩ 8 (by kernel_rfl) (by kernel_rfl) (by kernel_rfl) (by kernel_rfl)) ?_
  intro W base args ds gs before hval0 hW hcnd _
  have hval : ∀ (j : Nat) t v, Try.f4.params[j]? = some t → args[j]? = some v → Value.okWide Try.prog W .any base t v := hval0
  have hW' := hW
  obtain ⟨p, q, hA0, hV, rfl, hfz, hnd⟩ := hW
  have hA : DataW.TrodAll enc Try.prog W 0 (fun _ => true) true Try.f4.params.toList args.toList ds p := hA0
  rw [Try.params4] at hA hval
  obtain ⟨v0, vs0, d0, ds0, p0, q0, hargs, rfl, rfl, h0, r0⟩ := trodAll_cons hA
  obtain ⟨rfl, rfl, rfl⟩ := trodAll_nil r0
  obtain rfl : args = #[v0] := by cases args; simp_all
  obtain ⟨rfl, rfl⟩ := trodVars_none hV
  have lt0 : ∀ x ∈ p0, x.block < W.heap.size := by obtain ⟨m, hm⟩ := h0; exact DataW.trod_lt m _ _ _ hm
  refine (walk (enc := enc) base v0 d0 p0 W (hval 0 24 v0 rfl rfl) h0).mono fun e W' ⟨he, bel⟩ => ?_
  subst he
  exact ⟨_, rfl, _, _, _, [], _, [], hW', trodAll_mk1 (shut_bool Try.underlying4 _), (trodAll_cons_mk (Below.trod laidOut (by kernel_rfl) (of_decide_eq_true (by kernel_rfl)) h0 bel lt0) trodAll_mk0), rfl, bel.frame _, fun h => by cases h⟩

theorem over : Rows.valueChecksRow.holds Try.pinned (OpenSpec.ofChange Rows.valueChecksSpec) :=
  OpenClaim.holds_of_wide 4 Try.f4 rfl rfl rfl rfl rfl rfl rfl ⟨rfl, rfl, rfl, rfl, rfl⟩ rfl rfl rfl rfl rfl (by kernel_rfl) Try.func4 (by kernel_rfl)
    (of_decide_eq_true (by kernel_rfl)) (by unfold Func.isWrapper; first | (rw [if_pos (by decide +kernel)]; kernel_rfl) | (rw [if_neg (by decide +kernel)]; exact ⟨rfl, rfl⟩))
    (fun os started H enc _ => lifted os started H enc)

theorem proved : Rows.ValueChecksSaid :=
  over
end Go.Proofs.Yteeglmfjogoggab.valueChecks
