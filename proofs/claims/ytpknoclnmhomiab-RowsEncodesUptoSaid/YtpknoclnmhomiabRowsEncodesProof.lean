/-
  RowsEncodes answers true at any columns and any row of a bulk of at most 1048576: the row's bytes are the document's, or it is refused as the document says; columns and row stay.
  Conditions: none but the row's own.
-/
import Derived.Test.YtpknoclnmhomiabRl1
import Derived.Test.YtpknoclnmhomiabRows
import Derived.WalkKit
import Derived.ProofKit
import Derived.OpenShut
import Derived.ShutString
import Derived.ChangeOld
import Derived.Below
import Derived.Carry
import Derived.JoinedCond
namespace Go.Proofs.Ytpknoclnmhomiab.rowsEncodes
open Go.ChangeShapes Go.WideShapes Go.ChangeAt Go.RowKit
open Go.Joins
set_option linter.unusedVariables false

theorem own : ownKnob Try.prog.godebug = none := by kernel_rfl
theorem laidOut : laidOutB Try.prog = true := by kernel_rfl


set_option maxHeartbeats 4000000 in
theorem walk {H : Type} {enc : TypeId × Value → H} (base : Nat) (v0 : Value) (d0 : DataW H) (p0 : List MemPlace) (v1 : Value) (d1 : DataW H) (p1 : List MemPlace) (W : World)
    (o0 : Value.okWide Try.prog W .any base 22 v0) (h0 : DataW.Trod enc Try.prog W 0 (fun _ => true) true 22 v0 d0 p0)
    (o1 : Value.okWide Try.prog W .any base 23 v1) (h1 : DataW.Trod enc Try.prog W 0 (fun _ => true) true 23 v1 d1 p1)
    (hk : Rows.uptoSmall H [d0, d1] = true) :
    Calls Try.prog 3 #[v0, v1] W fun e w' => e = .returned (.bool true) ∧ Below W.heap.size W w' := by
  obtain ⟨a, m, cap, b, off, mf, tf, qf, rfl, hl, hm, ha, hA, hI, -⟩ := open_cols o0 h0 (up_arg hk (by simp))
  obtain ⟨a', n, cap', b', off', kf, nf, sf, rfl, hl', hn, ha', hB, hJ, -⟩ := open_vals3 o1 h1 (up_arg hk (by simp))
  have HS := Lib.hid speaks6_any
  have HA := Lib.hid ha
  have HA' := Lib.hid ha'
  have HJ := Lib.hid hJ
  have hm1 : m ≤ 1048576 := by omega
  have hn1 : n ≤ 1048576 := by omega
  have hm2 : m ≤ maxLen := by unfold maxLen; omega
  have hn2 : n ≤ maxLen := by unfold maxLen; omega
  have hJm : ∀ i, i < n → InI (nf i) ∧ (sf i).size ≤ maxLen := fun i hi => ⟨(hJ i hi).1, by have := (hJ i hi).2; unfold maxLen; omega⟩
  have HJM := Lib.hid hJm
  clear o0 o1 h0 h1 hk ha ha' hJ hI hJm
  go_enter Try.func3, Try.ntmps3
  go_wp2_with fail
  refine (HS.out _).mono ?_
  rintro x w0 ⟨rfl, b0⟩
  have A0 := Lib.hid (hA.below b0)
  have V0 := Lib.hid (hB.below b0)
  have W0 := Lib.hid b0
  clear b0 hA hB
  go_wp2_with fail
  refine (copycols_own a m cap b off mf tf qf (by omega) w0 HA.out A0.out).mono ?_
  rintro x w1 ⟨v1, rfl, o1, b1⟩
  obtain ⟨g1, c1, rfl, -, -, -, i1⟩ := o1.isC
  have A1 := Lib.hid (A0.out.below b1)
  have V1 := Lib.hid (V0.out.below b1)
  have C1 := Lib.hid i1
  have W1 := Lib.hid (stepB W0.out b1)
  clear b1 i1 o1 A0 V0
  go_wp2_with fail
  refine (copyrow_any a' n cap' b' off' kf nf sf (by omega) w1 HA'.out V1.out).mono ?_
  rintro x w2 ⟨g2, c2, rfl, i2, b2⟩
  have A2 := Lib.hid (A1.out.below b2)
  have V2 := Lib.hid (V1.out.below b2)
  have C2 := Lib.hid (C1.out.below b2)
  have R2 := Lib.hid i2
  have W2 := Lib.hid (stepB W1.out b2)
  have hE := enc_r (some ⟨g1, 0, none⟩) (some ⟨g2, 0, none⟩) g1 0 m c1 g2 0 n c2 mf tf qf kf nf sf (by omega) (by omega) w2 (.inr rfl) (.inr rfl) C2.out R2.out HJ.out
  have hE2 := fun w' (h : Below w2.heap.size w2 w') => rowenc_any a a' b off m cap b' off' n cap' mf tf qf kf nf sf hm2 (by omega) w' HA.out HA'.out (A2.out.below h) (V2.out.below h) HJM.out
  have hF := fun w' (h : Below w2.heap.size w2 w') => fit_r (some ⟨g1, 0, none⟩) (some ⟨g2, 0, none⟩) g1 0 m c1 g2 0 n c2 mf tf qf kf nf sf (by omega) (by omega) w' (.inr rfl) (.inr rfl) (C2.out.below h) (R2.out.below h) HJ.out
  have hF2 := fun w' (h : Below w2.heap.size w2 w') => reffit_any a a' b off m cap b' off' n cap' mf tf qf kf nf sf hm2 hn2 w' HA.out HA'.out (A2.out.below h) (V2.out.below h) HJM.out
  generalize fitV m n tf qf kf nf sf = F at *
  generalize rowB kf nf sf n = L at *
  have HE := Lib.hid hE
  have HE2 := Lib.hid hE2
  have HF := Lib.hid hF
  have HF2 := Lib.hid hF2
  have HSC := Lib.hid (fun w' (h : Below w2.heap.size w2 w') => samecols_all (some ⟨g1, 0, none⟩) a g1 0 b off m c1 cap mf tf qf hm2 w' (.inr rfl) HA.out (C2.out.below h) (A2.out.below h))
  have HSR := Lib.hid (fun w' (h : Below w2.heap.size w2 w') => samerow_all (some ⟨g2, 0, none⟩) a' g2 0 b' off' n c2 cap' kf nf sf hn2 w' (.inr rfl) HA'.out (R2.out.below h) (V2.out.below h))
  clear b2 i2 hE hE2 hF hF2 A1 V1 C1
  go_wp2_with fail
  refine HE.out.mono ?_
  rintro x w3 ⟨v3, rfl, o3, o3', b3⟩
  have B3 := Lib.hid b3
  have S3 : Hid (∀ w', Below w3.heap.size w3 w' → (convert 27 9 v3).run Try.prog w' = .ok (.string (strB (if F = 0 then L else []))) w') := Lib.hid (fun w' h => by
    by_cases hz : F = 0
    · rw [if_pos hz]
      exact ((o3 hz).below h).str
    · obtain ⟨a3, k3, rfl⟩ := o3' hz
      rw [if_neg hz]
      exact str_arg (r := []) (.inl rfl) (fun _ => rfl) ((⟨fun h => absurd h (by simp), fun i x hx => absurd hx (by simp), fun x hx => absurd hx (by simp)⟩ : IsB w' 0 0 [])))
  clear b3 o3 o3' HE
  go_wp2_with fail
  refine (HE2.out _ B3.out).mono ?_
  rintro x w4 ⟨v4, rfl, o4, b4⟩
  have s3 := S3.out w4 b4
  have s4 := str_own o4
  have B4 := Lib.hid (stepB B3.out b4)
  generalize strB (if F = 0 then L else []) = st at *
  have hff : (F == F) = true := by simp
  clear b4 o4 HE2 S3
  go_wp2_with (first
    | (go_at_call 13; refine (HF.out _ B4.out).mono ?_; rintro x w5 ⟨rfl, b5⟩; have B5 := Lib.hid (stepB B4.out b5); clear b5)
    | (go_at_call 14; refine (HF2.out _ B5.out).mono ?_; rintro x w6 ⟨rfl, b6⟩; have B6 := Lib.hid (stepB B5.out b6); clear b6)
    | (go_at_call 15; refine (HSC.out _ B6.out).mono ?_; rintro x w7 ⟨rfl, b7⟩; have B7 := Lib.hid (stepB B6.out b7); clear b7)
    | (go_at_call 16; refine (HSR.out _ B7.out).mono ?_; rintro x w8 ⟨rfl, b8⟩; have B8 := Lib.hid (stepB B7.out b8); clear b8))
  go_ret
  exact ⟨rfl, stepB W2.out B8.out⟩

set_option maxRecDepth 100000 in
theorem lifted (os : Os) (started : os.Started) (H : Type) (enc : TypeId × Value → H) (F : Stop.Interp) :
    ReturnsInHanded {} Try.checked os 3 .any ((Rows.OpenSpec.upto Rows.rowsEncodesSpec).pre6 enc Try.prog Try.f3 Rows.rowsEncodesUptoRow.domain false) (((Rows.OpenSpec.upto Rows.rowsEncodesSpec).at F).post enc Try.prog Try.f3 false true false false) := by
  refine returnsInHanded_of_cond (C := Try.checked) (s := Rows.OpenSpec.upto Rows.rowsEncodesSpec) (k := Rows.uptoSmall) rfl own started (by kernel_rfl) Try.func3
    (OpenSpec.witness (enc := enc) (C := Try.checked) (s := Rows.OpenSpec.upto Rows.rowsEncodesSpec) (k := Rows.uptoSmall) rfl false ⟨#[], #[.slice none 0 0, .slice none 0 0], []⟩ 8 (by kernel_rfl) (by kernel_rfl) (by kernel_rfl)
      (x := ([.nil, .nil], [], [])) (by kernel_rfl) rfl (by kernel_rfl)) ?_
  intro W base args ds gs before hval0 hW _ hk0 _
  have hval : ∀ (j : Nat) t v, Try.f3.params[j]? = some t → args[j]? = some v → Value.okWide Try.prog W .any base t v := hval0
  have hW' := hW
  obtain ⟨p, q, hA0, hV, rfl, hfz, hnd⟩ := hW
  have hA : DataW.TrodAll enc Try.prog W 0 (fun _ => true) true Try.f3.params.toList args.toList ds p := hA0
  rw [Try.params3] at hA hval
  obtain ⟨v0, vs0, d0, ds0, p0, q0, hargs, rfl, rfl, h0, r0⟩ := trodAll_cons hA
  obtain ⟨v1, vs1, d1, ds1, p1, q1, rfl, rfl, rfl, h1, r1⟩ := trodAll_cons r0
  obtain ⟨rfl, rfl, rfl⟩ := trodAll_nil r1
  obtain rfl : args = #[v0, v1] := by cases args; simp_all
  obtain ⟨rfl, rfl⟩ := trodVars_none hV
  have hk : Rows.uptoSmall H [d0, d1] = true := hk0
  have lt0 : ∀ x ∈ p0, x.block < W.heap.size := by obtain ⟨m, hm⟩ := h0; exact DataW.trod_lt m _ _ _ hm
  have lt1 : ∀ x ∈ p1, x.block < W.heap.size := by obtain ⟨m, hm⟩ := h1; exact DataW.trod_lt m _ _ _ hm
  refine (walk (enc := enc) base v0 d0 p0 v1 d1 p1 W (hval 0 22 v0 rfl rfl) h0 (hval 1 23 v1 rfl rfl) h1 hk).mono fun e W' ⟨he, bel⟩ => ?_
  subst he
  exact ⟨_, rfl, _, _, _, [], _, [], hW', trodAll_mk1 (shut_bool Try.underlying4 _), (trodAll_cons_mk (Below.trod laidOut (by kernel_rfl) (of_decide_eq_true (by kernel_rfl)) h0 bel lt0) (trodAll_cons_mk (Below.trod laidOut (by kernel_rfl) (of_decide_eq_true (by kernel_rfl)) h1 bel lt1) trodAll_mk0)), rfl, bel.frame _, fun h => by cases h⟩

theorem over : Rows.rowsEncodesUptoRow.holds Try.pinned (Rows.OpenSpec.upto Rows.rowsEncodesSpec) :=
  OpenClaim.holds_of_cond 3 Try.f3 rfl rfl rfl rfl rfl rfl rfl ⟨rfl, rfl, rfl, rfl, rfl⟩ rfl rfl rfl rfl rfl (by kernel_rfl) Try.func3 (by kernel_rfl)
    (of_decide_eq_true (by kernel_rfl)) (by unfold Func.isWrapper; first | (rw [if_pos (by decide +kernel)]; kernel_rfl) | (rw [if_neg (by decide +kernel)]; exact ⟨rfl, rfl⟩))
    (fun os started H enc _ F => lifted os started H enc F)

theorem proved : Rows.RowsEncodesUptoSaid :=
  over
end Go.Proofs.Ytpknoclnmhomiab.rowsEncodes
