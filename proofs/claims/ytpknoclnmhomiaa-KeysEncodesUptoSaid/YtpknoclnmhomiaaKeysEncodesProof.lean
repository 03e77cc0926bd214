/-
  KeysEncodes answers true at any list of values of a bulk of at most 1048576: a right list's key is the document's, and the list stays.
  Conditions: none but the row's own.
-/
import Derived.Test.YtpknoclnmhomiaaKl1
import Derived.Test.YtpknoclnmhomiaaRows
import Derived.WalkKit
import Derived.ProofKit
import Derived.OpenShut
import Derived.ShutString
import Derived.ChangeOld
import Derived.Below
import Derived.Carry
import Derived.JoinedCond
namespace Go.Proofs.Ytpknoclnmhomiaa.keysEncodes
open Go.ChangeShapes Go.WideShapes Go.ChangeAt Go.RowKit
open Go.Joins
set_option linter.unusedVariables false

theorem own : ownKnob Try.prog.godebug = none := by kernel_rfl
theorem laidOut : laidOutB Try.prog = true := by kernel_rfl


set_option maxHeartbeats 4000000 in
theorem walk {H : Type} {enc : TypeId × Value → H} (base : Nat) (v0 : Value) (d0 : DataW H) (p0 : List MemPlace) (W : World)
    (o0 : Value.okWide Try.prog W .any base 22 v0) (h0 : DataW.Trod enc Try.prog W 0 (fun _ => true) true 22 v0 d0 p0)
    (hk : Rows.uptoSmall H [d0] = true) :
    Calls Try.prog 3 #[v0] W fun e w' => e = .returned (.bool true) ∧ Below W.heap.size W w' := by
  obtain ⟨a, m, cap, b, off, kf, nf, sf, rfl, hl, hm, ha, hA, hB, hN⟩ := open_vals3 o0 h0 (up_arg hk (by simp))
  have r0 : m * 32 ≤ 140737488351232 := by omega
  have hm2 : m ≤ maxLen := by unfold maxLen; omega
  have HS := Lib.hid speaks5_any
  have HA := Lib.hid ha
  have HB := Lib.hid hB
  clear o0 h0 hk ha hB
  by_cases hr : ∀ i, i < m → VCheck (kf i) (nf i) (sf i) = 0
  · have HR := Lib.hid (fun i hi => And.intro (hr i hi) (HB.out i hi).1)
    have HT := Lib.hid (fun w h => allright_any a b off m cap kf nf sf (by omega) w HA.out h HB.out true ⟨fun _ => hr, fun _ => rfl⟩)
    clear hr
    go_enter Try.func3, Try.ntmps3
    go_wp2_with fail
    refine (HS.out _).mono ?_
    rintro x w0 ⟨rfl, b0⟩
    have A0 := Lib.hid (hA.below b0)
    go_wp2_with fail
    refine (HT.out _ A0.out).mono ?_
    rintro x w1 ⟨rfl, b1⟩
    have A1 := Lib.hid (A0.out.below b1)
    have B1 := Lib.hid (stepB b0 b1)
    clear b0 b1 A0
    go_wp2_with fail
    refine (copyrow_any a m cap b off kf nf sf r0 _ HA.out A1.out).mono ?_
    rintro x w2 ⟨g, gc, rfl, y2, b2⟩
    have A2 := Lib.hid (A1.out.below b2)
    have B2 := Lib.hid (stepB B1.out b2)
    have Y2 := Lib.hid y2
    have HE := Lib.hid (fun w' (h : Below w2.heap.size w2 w') => enc_any (some ⟨g, 0, none⟩) g 0 m gc kf nf sf (by omega) w' (.inr rfl) (Y2.out.below h) HR.out)
    have HF := Lib.hid (fun w' (h : Below w2.heap.size w2 w') => refkey_any a b off m cap kf nf sf (by omega) w' HA.out (A2.out.below h) HR.out)
    have HG := Lib.hid (fun w' (h : Below w2.heap.size w2 w') => samerow_all (some ⟨g, 0, none⟩) a g 0 b off m gc cap kf nf sf hm2 w' (.inr rfl) HA.out (Y2.out.below h) (A2.out.below h))
    generalize keyB kf nf sf m = L at *
    have hs := Below.refl w2.heap.size w2
    clear A1 B1 b2 y2 HT HS
    go_wp2_with fail
    have hs1 := hs.drew
    go_region_with (first
        | (go_at_call 12; refine (HE.out _ ?_).mono ?_; assumption; rintro x w12 ⟨vE, rfl, oE, hbx⟩; have hsn := stepB (show Below w2.heap.size w2 _ by assumption) hbx; have cE := OutB.str oE; first | (have cR2 := str_own (OwB.below oR hbx)) | skip)
        | (go_at_call 14; refine (HF.out _ ?_).mono ?_; assumption; rintro x w13 ⟨vR, rfl, oR, hbx⟩; have hsn := stepB (show Below w2.heap.size w2 _ by assumption) hbx; have cR := str_own oR; first | (have cE2 := OutB.str (OutB.below oE hbx)) | skip)
        | (go_at_call 15; refine (HG.out _ ?_).mono ?_; assumption; rintro x w14 ⟨rfl, hbx⟩; have hsn := stepB (show Below w2.heap.size w2 _ by assumption) hbx))
    all_goals
      go_wp2
      go_ret
      exact ⟨rfl, B2.out.trans (Below.mono (B := w2.heap.size) (by assumption) B2.out.size)⟩
  · have HT := Lib.hid (fun w h => allright_any a b off m cap kf nf sf (by omega) w HA.out h HB.out false ⟨fun h => absurd h (by decide), fun h => absurd h hr⟩)
    clear hr
    go_enter Try.func3, Try.ntmps3
    go_wp2_with fail
    refine (HS.out _).mono ?_
    rintro x w0 ⟨rfl, b0⟩
    have A0 := Lib.hid (hA.below b0)
    go_wp2_with fail
    refine (HT.out _ A0.out).mono ?_
    rintro x w1 ⟨rfl, b1⟩
    have A1 := Lib.hid (A0.out.below b1)
    have B1 := Lib.hid (stepB b0 b1)
    clear b0 b1 A0
    go_wp2_with fail
    refine (copyrow_any a m cap b off kf nf sf r0 _ HA.out A1.out).mono ?_
    rintro x w2 ⟨g, gc, rfl, y2, b2⟩
    have B2 := Lib.hid (stepB B1.out b2)
    go_wp2_with fail
    refine (enc_wrong (some ⟨g, 0, none⟩) g 0 m gc kf nf sf (by omega) w2 (.inr rfl) y2 HB.out).mono ?_
    rintro x w3 ⟨v3, rfl, b3⟩
    have B3 := Lib.hid (stepB B2.out b3)
    clear b2 y2 b3
    go_wp2
    go_ret
    exact ⟨rfl, B3.out⟩

set_option maxRecDepth 100000 in
theorem lifted (os : Os) (started : os.Started) (H : Type) (enc : TypeId × Value → H) (F : Stop.Interp) :
    ReturnsInHanded {} Try.checked os 3 .any ((Rows.OpenSpec.upto Rows.keysEncodesSpec).pre6 enc Try.prog Try.f3 Rows.keysEncodesUptoRow.domain false) (((Rows.OpenSpec.upto Rows.keysEncodesSpec).at F).post enc Try.prog Try.f3 false true false false) := by
  refine returnsInHanded_of_cond (C := Try.checked) (s := Rows.OpenSpec.upto Rows.keysEncodesSpec) (k := Rows.uptoSmall) rfl own started (by kernel_rfl) Try.func3
    (OpenSpec.witness (enc := enc) (C := Try.checked) (s := Rows.OpenSpec.upto Rows.keysEncodesSpec) (k := Rows.uptoSmall) rfl false ⟨#[], #[.slice none 0 0], []⟩ 8 (by kernel_rfl) (by kernel_rfl) (by kernel_rfl)
      (x := ([.nil], [], [])) (by kernel_rfl) rfl (by kernel_rfl)) ?_
  intro W base args ds gs before hval0 hW _ hk0 _
  have hval : ∀ (j : Nat) t v, Try.f3.params[j]? = some t → args[j]? = some v → Value.okWide Try.prog W .any base t v := hval0
  have hW' := hW
  obtain ⟨p, q, hA0, hV, rfl, hfz, hnd⟩ := hW
  have hA : DataW.TrodAll enc Try.prog W 0 (fun _ => true) true Try.f3.params.toList args.toList ds p := hA0
  rw [Try.params3] at hA hval
  obtain ⟨v0, vs0, d0, ds0, p0, q0, hargs, rfl, rfl, h0, r0⟩ := trodAll_cons hA
  obtain ⟨rfl, rfl, rfl⟩ := trodAll_nil r0
  obtain rfl : args = #[v0] := by cases args; simp_all
  obtain ⟨rfl, rfl⟩ := trodVars_none hV
  have hk : Rows.uptoSmall H [d0] = true := hk0
  have lt0 : ∀ x ∈ p0, x.block < W.heap.size := by obtain ⟨m, hm⟩ := h0; exact DataW.trod_lt m _ _ _ hm
  refine (walk (enc := enc) base v0 d0 p0 W (hval 0 22 v0 rfl rfl) h0 hk).mono fun e W' ⟨he, bel⟩ => ?_
  subst he
  exact ⟨_, rfl, _, _, _, [], _, [], hW', trodAll_mk1 (shut_bool Try.underlying4 _), (trodAll_cons_mk (Below.trod laidOut (by kernel_rfl) (of_decide_eq_true (by kernel_rfl)) h0 bel lt0) trodAll_mk0), rfl, bel.frame _, fun h => by cases h⟩

theorem over : Rows.keysEncodesUptoRow.holds Try.pinned (Rows.OpenSpec.upto Rows.keysEncodesSpec) :=
  OpenClaim.holds_of_cond 3 Try.f3 rfl rfl rfl rfl rfl rfl rfl ⟨rfl, rfl, rfl, rfl, rfl⟩ rfl rfl rfl rfl rfl (by kernel_rfl) Try.func3 (by kernel_rfl)
    (of_decide_eq_true (by kernel_rfl)) (by unfold Func.isWrapper; first | (rw [if_pos (by decide +kernel)]; kernel_rfl) | (rw [if_neg (by decide +kernel)]; exact ⟨rfl, rfl⟩))
    (fun os started H enc _ F => lifted os started H enc F)

theorem proved : Rows.KeysEncodesUptoSaid :=
  over
end Go.Proofs.Ytpknoclnmhomiaa.keysEncodes
