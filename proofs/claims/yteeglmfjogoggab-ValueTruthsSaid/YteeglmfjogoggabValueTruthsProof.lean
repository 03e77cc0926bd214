/-
  ValueTruths answers true at any value and any truth: truths become values, and values truths, exactly as the document says.
  Conditions: none but the row's own.
-/
import Derived.Test.YteeglmfjogoggabKeep
import Derived.Test.YteeglmfjogoggabEq
import Derived.Test.YteeglmfjogoggabRows
import Derived.WalkKit
import Derived.ProofKit
import Derived.OpenShut
import Derived.ShutString
import Derived.ChangeOld
import Derived.Below
import Derived.Carry
namespace Go.Proofs.Yteeglmfjogoggab.valueTruths
open Go.ChangeShapes Go.WideShapes Go.ChangeAt Go.RowKit
open Go.Joins
set_option linter.unusedVariables false

theorem own : ownKnob Try.prog.godebug = none := by kernel_rfl
theorem laidOut : laidOutB Try.prog = true := by kernel_rfl

theorem vt_of (t : Int) : (VT (VO t).1 (VO t).2).2 = 0 ∧ (t < 0 ∨ 2 < t ∨ (VT (VO t).1 (VO t).2).1 = t) := by
  unfold VO
  by_cases h0 : t = 0
  · subst h0; exact ⟨rfl, .inr (.inr rfl)⟩
  · rw [if_neg h0]
    by_cases h1 : t = 1
    · subst h1; exact ⟨rfl, .inr (.inr rfl)⟩
    · rw [if_neg h1]
      refine ⟨rfl, ?_⟩
      by_cases h2 : t = 2
      · subst h2; exact .inr (.inr rfl)
      · omega

theorem vv_eq (a b : Int) : (veq a b ⟨#[]⟩ a b ⟨#[]⟩) = true := by unfold veq; simp

set_option maxHeartbeats 2000000 in
theorem walk {H : Type} {enc : TypeId × Value → H} (base : Nat) (v0 : Value) (d0 : DataW H) (p0 : List MemPlace) (v1 : Value) (d1 : DataW H) (p1 : List MemPlace) (W : World)
    (o0 : Value.okWide Try.prog W .any base 24 v0) (h0 : DataW.Trod enc Try.prog W 0 (fun _ => true) true 24 v0 d0 p0)
    (o1 : Value.okWide Try.prog W .any base 3 v1) (h1 : DataW.Trod enc Try.prog W 0 (fun _ => true) true 3 v1 d1 p1) :
    Calls Try.prog 7 #[v0, v1] W fun e w' => e = .returned (.bool true) ∧ Below W.heap.size W w' := by
  obtain ⟨k, n, s, rfl, hk0, hn0, hs0⟩ := open_val o0 h0
  obtain ⟨t, rfl, -, -, wt⟩ := open_int Try.underlying3 o1 h1
  clear o0 h0 o1 h1
  have q1 := vtruth_any k n s
  have q2 := reftruth_any k n s
  have q3 := vof_any t
  have q4 := refof_any t
  have q5 := vtruth_any (VO t).1 (VO t).2 ⟨#[]⟩
  obtain ⟨hE, hT⟩ := vt_of t
  generalize (VT k n).1 = x1 at *
  generalize (VT k n).2 = x2 at *
  generalize (VT (VO t).1 (VO t).2).1 = y1 at *
  generalize (VT (VO t).1 (VO t).2).2 = y2 at *
  generalize (VO t).1 = v1 at *
  generalize (VO t).2 = v2 at *
  subst hE
  unfold Vv at *
  have Q1 := Lib.hid q1
  have Q2 := Lib.hid q2
  have Q3 := Lib.hid q3
  have Q4 := Lib.hid q4
  have Q5 := Lib.hid q5
  have hvv := vv_eq v1 v2
  clear q1 q2 q3 q4 q5
  have key : ∀ T : t < 0 ∨ (0 ≤ t ∧ 2 < t) ∨ (0 ≤ t ∧ t ≤ 2 ∧ (y1 == t) = true), Calls Try.prog 7 #[.agg #[.int .i64 k, .int .i64 n, .string s], .int .i64 t] W fun e w' => e = .returned (.bool true) ∧ Below W.heap.size W w' := by
    intro T
    rcases T with T | ⟨T1, T2⟩ | ⟨T1, T2, T3⟩
    all_goals
      clear hT
      go_enter Try.func7, Try.ntmps7
      go_wp2_with fail
      refine (speaks2_any _).mono ?_
      rintro e w0 ⟨rfl, b0⟩
      have c0 : Below (W.heap.size + 1) (W.alloc (.cells #[.int .i64 k, .int .i64 n, .string s] 24)) w0 := b0.mono (by simp)
      clear b0
      obtain ⟨hc, hf⟩ := bcellB c0
      go_wp2_with fail
      refine (Q1.out _).mono ?_
      rintro e w1 ⟨rfl, b1⟩
      have c1 := c0.trans (b1.mono (by have := c0.size; simp at this; omega))
      clear hc hf b1 c0
      obtain ⟨hc, hf⟩ := bcellB c1
      have z1 : W.heap.size + 1 ≤ w1.heap.size := by have := c1.size; simp at this; omega
      have z1' : W.heap.size < w1.heap.size := by omega
      go_wp2_with fail
      refine (Q2.out _).mono ?_
      rintro e w2 ⟨rfl, b2⟩
      have xa : w2.cell? ⟨w1.heap.size, 0, none⟩ = some (.int .i64 x1) := by rw [(bcell b2).1 _ _ (by simp)]; go_simp
      have xb : w2.cell? ⟨w1.heap.size, 1, none⟩ = some (.int .i64 x2) := by rw [(bcell b2).1 _ _ (by simp)]; go_simp
      have z2 : w1.heap.size + 1 ≤ w2.heap.size := by have := b2.size; simp at this; omega
      have c2 := (c1.alloc z1 _).trans (b2.mono (by simp; omega))
      clear hc hf b2 c1
      go_wp2_with fail
      refine (Q3.out _).mono ?_
      rintro e w3 ⟨rfl, b3⟩
      go_wp2_with fail
      refine (Q5.out _).mono ?_
      rintro e w4 ⟨rfl, b4⟩
      have b34 := b3.trans (b4.mono b3.size)
      have ya : w4.cell? ⟨w1.heap.size, 0, none⟩ = some (.int .i64 x1) := by rw [(bcell b34).1 _ _ (by omega)]; exact xa
      have yb : w4.cell? ⟨w1.heap.size, 1, none⟩ = some (.int .i64 x2) := by rw [(bcell b34).1 _ _ (by omega)]; exact xb
      have z4 : w1.heap.size < w4.heap.size := by have := b34.size; omega
      have z5 : W.heap.size + 1 ≤ w4.heap.size := by omega
      have c4 := c2.trans (b34.mono (by omega))
      clear xa xb b3 b4 b34 c2 z2 z1 z1'
      go_wp2_with fail
      refine (Q3.out _).mono ?_
      rintro e w5 ⟨rfl, b5⟩
      go_wp2_with fail
      refine (Q4.out _).mono ?_
      rintro e w6 ⟨rfl, b6⟩
      have b56 := b5.trans (b6.mono b5.size)
      have ua : w6.cell? ⟨w4.heap.size, 0, none⟩ = some (.int .i64 y1) := by rw [(bcell b56).1 _ _ (by simp)]; go_simp
      have ub : w6.cell? ⟨w4.heap.size, 1, none⟩ = some (.int .i64 0) := by rw [(bcell b56).1 _ _ (by simp)]; go_simp
      have c6 := (c4.alloc z5 _).trans (b56.mono (by simp; omega))
      clear b5 b6 b56 ya yb z4 z5 c4
      go_wp2
      go_ret
      exact ⟨rfl, ((Below.refl _ _).alloc (Nat.le_refl _) _).trans (c6.mono (by omega))⟩
  refine key ?_
  rcases hT with h | h | h
  · exact .inl h
  · exact .inr (.inl ⟨by omega, h⟩)
  · rcases Int.lt_or_le t 0 with a | a
    · exact .inl a
    · rcases Int.lt_or_le 2 t with b | b
      · exact .inr (.inl ⟨a, b⟩)
      · exact .inr (.inr ⟨a, b, by simpa using h⟩)

set_option maxRecDepth 100000 in
theorem lifted (os : Os) (started : os.Started) (H : Type) (enc : TypeId × Value → H) :
    ReturnsInHanded {} Try.checked os 7 .any (Rows.valueTruthsSpec.pre6 enc Try.prog Try.f7 Rows.valueTruthsRow.domain false) (Rows.valueTruthsSpec.post enc Try.prog Try.f7 false true false false) := by
  refine returnsInHanded_of_change (C := Try.checked) own started (by kernel_rfl) Try.func7
    (ChangeSpec.witness6 (enc := enc) (C := Try.checked) false ⟨#[], #[.agg #[.int .i64 0, .int .i64 0, .string ByteArray.empty], .int .i64 0], []⟩ 8 (by kernel_rfl) (by kernel_rfl) (by kernel_rfl) (by kernel_rfl)) ?_
  intro W base args ds gs before hval0 hW hcnd _
  have hval : ∀ (j : Nat) t v, Try.f7.params[j]? = some t → args[j]? = some v → Value.okWide Try.prog W .any base t v := hval0
  have hW' := hW
  obtain ⟨p, q, hA0, hV, rfl, hfz, hnd⟩ := hW
  have hA : DataW.TrodAll enc Try.prog W 0 (fun _ => true) true Try.f7.params.toList args.toList ds p := hA0
  rw [Try.params7] at hA hval
  obtain ⟨v0, vs0, d0, ds0, p0, q0, hargs, rfl, rfl, h0, r0⟩ := trodAll_cons hA
  obtain ⟨v1, vs1, d1, ds1, p1, q1, rfl, rfl, rfl, h1, r1⟩ := trodAll_cons r0
  obtain ⟨rfl, rfl, rfl⟩ := trodAll_nil r1
  obtain rfl : args = #[v0, v1] := by cases args; simp_all
  obtain ⟨rfl, rfl⟩ := trodVars_none hV
  have lt0 : ∀ x ∈ p0, x.block < W.heap.size := by obtain ⟨m, hm⟩ := h0; exact DataW.trod_lt m _ _ _ hm
  have lt1 : ∀ x ∈ p1, x.block < W.heap.size := by obtain ⟨m, hm⟩ := h1; exact DataW.trod_lt m _ _ _ hm
  refine (walk (enc := enc) base v0 d0 p0 v1 d1 p1 W (hval 0 24 v0 rfl rfl) h0 (hval 1 3 v1 rfl rfl) h1).mono fun e W' ⟨he, bel⟩ => ?_
  subst he
  exact ⟨_, rfl, _, _, _, [], _, [], hW', trodAll_mk1 (shut_bool Try.underlying4 _), (trodAll_cons_mk (Below.trod laidOut (by kernel_rfl) (of_decide_eq_true (by kernel_rfl)) h0 bel lt0) (trodAll_cons_mk (Below.trod laidOut (by kernel_rfl) (of_decide_eq_true (by kernel_rfl)) h1 bel lt1) trodAll_mk0)), rfl, bel.frame _, fun h => by cases h⟩

theorem over : Rows.valueTruthsRow.holds Try.pinned (OpenSpec.ofChange Rows.valueTruthsSpec) :=
  OpenClaim.holds_of_wide 7 Try.f7 rfl rfl rfl rfl rfl rfl rfl ⟨rfl, rfl, rfl, rfl, rfl⟩ rfl rfl rfl rfl rfl (by kernel_rfl) Try.func7 (by kernel_rfl)
    (of_decide_eq_true (by kernel_rfl)) (by unfold Func.isWrapper; first | (rw [if_pos (by decide +kernel)]; kernel_rfl) | (rw [if_neg (by decide +kernel)]; exact ⟨rfl, rfl⟩))
    (fun os started H enc _ => lifted os started H enc)

theorem proved : Rows.ValueTruthsSaid :=
  over
end Go.Proofs.Yteeglmfjogoggab.valueTruths
