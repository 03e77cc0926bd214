/-
  ArithTypes answers true at any operator and any list of types: the type of its answer is told exactly.
  Conditions: none but the row's own.
-/
import Derived.Test.YtoghiebgffkhcaaAri13
import Derived.Test.YtoghiebgffkhcaaRows
import Derived.WalkKit
import Derived.ProofKit
import Derived.OpenShut
import Derived.ShutString
import Derived.ChangeOld
import Derived.Below
import Derived.Carry
import Derived.SizedLaws
namespace Go.Proofs.Ytoghiebgffkhcaa.arithTypes
open Go.ChangeShapes Go.WideShapes Go.ChangeAt Go.RowKit
open Go.Joins
set_option linter.unusedVariables false

theorem own : ownKnob Try.prog.godebug = none := by kernel_rfl
theorem laidOut : laidOutB Try.prog = true := by kernel_rfl


set_option maxHeartbeats 4000000 in
theorem walk {H : Type} {enc : TypeId × Value → H} (base : Nat) (v0 : Value) (d0 : DataW H) (p0 : List MemPlace) (v1 : Value) (d1 : DataW H) (p1 : List MemPlace) (W : World)
    (o0 : Value.okWide Try.prog W .any base 3 v0) (h0 : DataW.Trod enc Try.prog W 0 (fun _ => true) true 3 v0 d0 p0)
    (o1 : Value.okWide Try.prog W .any base 35 v1) (h1 : DataW.Trod enc Try.prog W 0 (fun _ => true) true 35 v1 d1 p1)
    (hz : (DataW.weightsEach Try.prog [3, 35] [d0, d1]).all (· ≤ reachBytes) = true) :
    Calls Try.prog 5 #[v0, v1] W fun e w' => e = .returned (.bool true) ∧ Below W.heap.size W w' := by
  obtain ⟨op, rfl, -, -, -⟩ := open_int Try.underlying3 o0 h0
  obtain ⟨a, m, cap, b, off, f, rfl, hl, hm, ha, hA, hn, hd⟩ := open_is o1 h1
  have r0 := reachI hz (j := 1) rfl rfl hl hd
  have hm2 : m ≤ maxLen := Nat.le_trans hl hm
  obtain ⟨i0, hi, hz0, hz1, hz2⟩ := info_parts infoI
  have HS := Lib.hid speaks3_any
  have HA := Lib.hid ha
  clear hz hd o0 h0 o1 h1 hm ha
  rcases hn with ⟨rfl, rfl, rfl⟩ | ⟨ad, rfl, had⟩
  · go_enter Try.func5, Try.ntmps5
    go_wp2_with fail
    refine (HS.out _).mono ?_
    rintro x w0 ⟨rfl, b0⟩
    have ho := World.ownsRow_made (e := 3) (size := 1) w0 #[] 0 (Nat.le_refl w0.heap.size) (by decide) rfl
    have HO := Lib.hid ho
    clear ho
    go_wp2_with (at_builtin; refine wpList_append_own_none rfl _ _ 35 rfl w0.heap.size 3 i0 1 Try.underlying35 hi _ 0 [] rfl HO.out rfl ?_)
    have b1 : Below w0.heap.size w0 (w0.alloc (.cells #[] 3)) := (Below.refl _ _).alloc (Nat.le_refl _) _
    have x1 : IsI (w0.alloc (.cells #[] 3)) w0.heap.size 0 0 f := ⟨fun h => absurd h (by decide), fun i hi => absurd hi (by omega)⟩
    have b01 := b0.trans (b1.mono b0.size)
    have a1 := hA.below b01
    clear b1 b0 HO
    refine (type_all op (some ⟨w0.heap.size, 0, none⟩) w0.heap.size 0 0 0 f hm2 (.inr rfl) _ x1).mono ?_
    rintro x w2 ⟨rfl, rfl⟩
    go_wp2_with fail
    refine (reftype_all op none b off 0 0 f hm2 (.inl rfl) _ a1).mono ?_
    rintro x w3 ⟨rfl, nn, rfl⟩
    generalize tyV op 0 (f 0) (f (0 - 1)) = T
    go_wp2
    go_ret
    exact ⟨rfl, b01.trans ⟨rfl, rfl, rfl, Nat.le_refl _, fun _ _ => rfl⟩⟩
  · go_enter Try.func5, Try.ntmps5
    go_wp2_with fail
    refine (HS.out _).mono ?_
    rintro x w0 ⟨rfl, b0⟩
    have a0 := hA.below b0
    have q1 := news_of_isI (a0.below ((Below.refl _ _).alloc (Nat.le_refl _) (.cells #[] 3))) had
    have q2 := icells_one f m
    have q3 : 0 + m ≤ maxLen := by omega
    have q4 : (0 + m) * 8 ≤ 140737488355328 := by omega
    have q5 : w0.heap.size ≤ (w0.alloc (.cells #[] 3)).heap.size := by simp
    have q6 := icells_length f m
    have ho := World.ownsRow_made (e := 3) (size := 1) w0 #[] 0 (Nat.le_refl w0.heap.size) (by decide) rfl
    have Q1 := Lib.hid q1
    have Q2 := Lib.hid q2
    have Q5 := Lib.hid q5
    have Q6 := Lib.hid q6
    have HO := Lib.hid ho
    clear q1 q2 q5 q6 ho
    go_wp2_with (at_builtin; refine wpList_append_own _ rfl _ _ 35 rfl w0.heap.size 3 i0 _ 1 8 Try.underlying35 hi hz0 hz1 hz2 rfl (by decide) _ 0 [] rfl HO.out ad m cap (icells f m) rfl Q6.out Q1.out Q2.out q3 q4 Q5.out ?_; intro v' w1 hown1 hgrow hnil)
    obtain ⟨g, cap', hv, x1, b1⟩ := after_appendI ((Below.refl _ _).alloc (Nat.le_refl _) _) HO.out (by simp) hown1 hgrow hnil f m (by omega) (by simp)
    subst hv
    have b01 := b0.trans (b1.mono b0.size)
    have a1 := a0.below b1
    clear b1 b0 HO hown1 hgrow hnil a0 Q1 Q2 Q5 Q6 q3 q4
    refine (type_all op (some ⟨g, 0, none⟩) g 0 m cap' f hm2 (.inr rfl) _ x1).mono ?_
    rintro x w2 ⟨rfl, rfl⟩
    go_wp2_with fail
    refine (reftype_all op (some ad) b off m cap f hm2 HA.out _ a1).mono ?_
    rintro x w3 ⟨rfl, nn, rfl⟩
    generalize tyV op m (f 0) (f (m - 1)) = T
    go_wp2
    go_ret
    exact ⟨rfl, b01.trans ⟨rfl, rfl, rfl, Nat.le_refl _, fun _ _ => rfl⟩⟩

set_option maxRecDepth 100000 in
theorem lifted (os : Os) (started : os.Started) (H : Type) (enc : TypeId × Value → H) :
    ReturnsInHanded {} Try.checked os 5 .any (Rows.arithTypesSpec.pre6 enc Try.prog Try.f5 Rows.arithTypesRow.domain false) (Rows.arithTypesSpec.post enc Try.prog Try.f5 false true false false) := by
  refine returnsInHanded_of_change_sized (C := Try.checked) own started (by kernel_rfl) Try.func5
    (ChangeSpec.witness6 (enc := enc) (C := Try.checked) false ⟨#[], #[.int .i64 0, .slice none 0 0], []⟩ 8 (by kernel_rfl) (by kernel_rfl) (by kernel_rfl) (by kernel_rfl)) ?_
  intro W base args ds gs before hval0 hW hcnd hsz0 _
  have hval : ∀ (j : Nat) t v, Try.f5.params[j]? = some t → args[j]? = some v → Value.okWide Try.prog W .any base t v := hval0
  have hW' := hW
  obtain ⟨p, q, hA0, hV, rfl, hfz, hnd⟩ := hW
  have hA : DataW.TrodAll enc Try.prog W 0 (fun _ => true) true Try.f5.params.toList args.toList ds p := hA0
  rw [Try.params5] at hA hval
  obtain ⟨v0, vs0, d0, ds0, p0, q0, hargs, rfl, rfl, h0, r0⟩ := trodAll_cons hA
  obtain ⟨v1, vs1, d1, ds1, p1, q1, rfl, rfl, rfl, h1, r1⟩ := trodAll_cons r0
  obtain ⟨rfl, rfl, rfl⟩ := trodAll_nil r1
  obtain rfl : args = #[v0, v1] := by cases args; simp_all
  obtain ⟨rfl, rfl⟩ := trodVars_none hV
  have hsz : (DataW.weightsEach Try.prog [3, 35] [d0, d1]).all (· ≤ reachBytes) = true := hsz0
  have lt0 : ∀ x ∈ p0, x.block < W.heap.size := by obtain ⟨m, hm⟩ := h0; exact DataW.trod_lt m _ _ _ hm
  have lt1 : ∀ x ∈ p1, x.block < W.heap.size := by obtain ⟨m, hm⟩ := h1; exact DataW.trod_lt m _ _ _ hm
  refine (walk (enc := enc) base v0 d0 p0 v1 d1 p1 W (hval 0 3 v0 rfl rfl) h0 (hval 1 35 v1 rfl rfl) h1 hsz).mono fun e W' ⟨he, bel⟩ => ?_
  subst he
  exact ⟨_, rfl, _, _, _, [], _, [], hW', trodAll_mk1 (shut_bool Try.underlying4 _), (trodAll_cons_mk (Below.trod laidOut (by kernel_rfl) (of_decide_eq_true (by kernel_rfl)) h0 bel lt0) (trodAll_cons_mk (Below.trod laidOut (by kernel_rfl) (of_decide_eq_true (by kernel_rfl)) h1 bel lt1) trodAll_mk0)), rfl, bel.frame _, fun h => by cases h⟩

theorem over : Rows.arithTypesRow.holds Try.pinned (OpenSpec.ofChange Rows.arithTypesSpec) :=
  OpenClaim.holds_of_wide 5 Try.f5 rfl rfl rfl rfl rfl rfl rfl ⟨rfl, rfl, rfl, rfl, rfl⟩ rfl rfl rfl rfl rfl (by kernel_rfl) Try.func5 (by kernel_rfl)
    (of_decide_eq_true (by kernel_rfl)) (by unfold Func.isWrapper; first | (rw [if_pos (by decide +kernel)]; kernel_rfl) | (rw [if_neg (by decide +kernel)]; exact ⟨rfl, rfl⟩))
    (fun os started H enc _ => lifted os started H enc)

theorem proved : Rows.ArithTypesSaid :=
  over
end Go.Proofs.Ytoghiebgffkhcaa.arithTypes
