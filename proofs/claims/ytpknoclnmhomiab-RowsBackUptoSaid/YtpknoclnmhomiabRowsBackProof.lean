/-
  RowsBack answers true at any columns and any bytes of a bulk of at most 1048576: what is read as a row fits, and makes these bytes again.
  Conditions: none but the row's own.
-/
import Derived.Test.YtpknoclnmhomiabRl3
import Derived.Test.YtpknoclnmhomiabRows
import Derived.WalkKit
import Derived.ProofKit
import Derived.OpenShut
import Derived.ShutString
import Derived.ChangeOld
import Derived.Below
import Derived.Carry
import Derived.JoinedCond
namespace Go.Proofs.Ytpknoclnmhomiab.rowsBack
open Go.ChangeShapes Go.WideShapes Go.ChangeAt Go.RowKit
open Go.Joins
set_option linter.unusedVariables false

theorem own : ownKnob Try.prog.godebug = none := by kernel_rfl
theorem laidOut : laidOutB Try.prog = true := by kernel_rfl

theorem rdecF_len (tf : Nat → Int) (qf : Nat → Bool) (l : List Nat) : ∀ r i p, (rdecF tf qf l r i p).1.length ≤ r
  | 0, i, p => by unfold rdecF; split <;> simp
  | r + 1, i, p => by
    have h1 := rdecF_len tf qf l r (i + 1) p
    have h2 := rdecF_len tf qf l r (i + 1) (rone (tf i) l p).2.2
    unfold rdecF rcons
    repeat' split
    all_goals first | (simp; done) | (simp only [List.length_cons]; omega)
theorem rdec_len (m : Nat) (tf : Nat → Int) (qf : Nat → Bool) (l : List Nat) : (rdec m tf qf l).1.length ≤ m := by
  unfold rdec
  repeat' split
  · simp
  · simp
  · exact rdecF_len tf qf l m 0 _
theorem rdec_err (m : Nat) (tf : Nat → Int) (qf : Nat → Bool) (l : List Nat) : (rdec m tf qf l).2 ≠ 0 → (rdec m tf qf l).1 = [] := by
  unfold rdec
  repeat' split
  · simp
  · simp
  · exact rdecF_err tf qf l m 0 _

set_option maxHeartbeats 4000000 in
theorem walk {H : Type} {enc : TypeId × Value → H} (base : Nat) (v0 : Value) (d0 : DataW H) (p0 : List MemPlace) (v1 : Value) (d1 : DataW H) (p1 : List MemPlace) (W : World)
    (o0 : Value.okWide Try.prog W .any base 22 v0) (h0 : DataW.Trod enc Try.prog W 0 (fun _ => true) true 22 v0 d0 p0)
    (o1 : Value.okWide Try.prog W .any base 27 v1) (h1 : DataW.Trod enc Try.prog W 0 (fun _ => true) true 27 v1 d1 p1)
    (hk : Rows.uptoSmall H [d0, d1] = true) :
    Calls Try.prog 6 #[v0, v1] W fun e w' => e = .returned (.bool true) ∧ Below W.heap.size W w' := by
  obtain ⟨ac, m, capc, bc, offc, mf, tf, qf, rfl, hlc, hmc, hac, hC, -, -⟩ := open_cols o0 h0 (up_arg hk (by simp))
  obtain ⟨a, l, cap, b, off, rfl, hl, hm, ha, hA, hN⟩ := open_bytes o1 h1 (up_arg hk (by simp))
  have hmc2 : m ≤ 1048576 := by omega
  have HAC := Lib.hid hac
  have HC := Lib.hid (fun w' (h : Below W.heap.size W w') => hC.below h)
  have hm2 : l.length ≤ 1048576 := by omega
  have HS := Lib.hid speaks6_any
  have HA := Lib.hid ha
  have HN := Lib.hid hN
  have HLT := Lib.hid hA.lt
  have HAN := Lib.hid (show a = none → l.length = 0 by rintro rfl; rcases hN with ⟨_, h, _⟩ | ⟨_, h, _⟩; exact h; cases h)
  clear o0 o1 h0 h1 hk ha hN hac hC hmc hlc
  obtain ⟨X, hX⟩ : ∃ X, rdec m tf qf l = X := ⟨_, rfl⟩
  go_enter Try.func6, Try.ntmps6
  go_wp2_with fail
  refine (HS.out _).mono ?_
  rintro x w0 ⟨rfl, b0⟩
  have A0 := Lib.hid (hA.below b0)
  have M0 := Lib.hid (bytes_made w0)
  have hsz0 : w0.heap.size ≤ (w0.alloc (.cells #[] 5)).heap.size := by simp
  go_wp2_with (first | (at_builtin; refine wp_copyA rfl _ _ rfl w0.heap.size _ [] rfl M0.out a _ l rfl b off HN.out (A0.out.below ((Below.refl _ _).alloc (Nat.le_refl _) _)) (by simp; omega) hsz0 ?_; intro v1 w1 hown1 hgrow1; have B1 := Lib.hid (((Below.refl w0.heap.size w0).alloc (Nat.le_refl _) (.cells #[] 5)).grown hgrow1 hsz0 (fun k hk => (M0.out.lt k hk).1)); have O1 := Lib.hid hown1; clear hgrow1 hown1) | fail)
  obtain ⟨g1, c1, e1, i1, -⟩ := O1.out.isB HLT.out
  have e1' : v1 = .slice (some ⟨g1, 0, none⟩) l.length c1 := e1
  subst e1'
  have I1 := Lib.hid (show IsB w1 g1 0 l from i1)
  have A1 := Lib.hid (A0.out.below B1.out)
  have W1 := Lib.hid (stepB b0 B1.out)
  have hcc : l.length ≤ c1 ∧ c1 ≤ maxLen := OwB.caps (l := l) O1.out
  clear e1 i1 M0 A0 HS
  have hn : X.1.length ≤ m := by rw [← hX]; exact rdec_len m tf qf l
  have hd1 := (dec_r ac (some ⟨g1, 0, none⟩) bc offc m capc g1 0 c1 l mf tf qf (by omega) (by omega) hcc.1 hcc.2 w1 HAC.out (.inr rfl) (HC.out _ W1.out) I1.out).mono (fun e w' h => DecR.form h (rdec_err m tf qf l))
  rw [hX] at hd1
  have HD1 := Lib.hid hd1
  have HX := Lib.hid hX
  clear hX hd1
  go_wp2_with fail
  refine HD1.out.mono ?_
  rintro x w2 ⟨aL, gL, cL, rfl, fL, vL, oL, b2⟩
  have A2 := Lib.hid (A1.out.below b2)
  have W2 := Lib.hid (stepB W1.out b2)
  have VL := Lib.hid vL
  have FL := Lib.hid fL
  clear fL vL oL b2 HD1 I1 A1 O1 B1
  obtain ⟨vals, err⟩ := X
  simp only at *
  by_cases hz : err = 0
  · subst hz
    obtain ⟨k0, k1, k2, k3⟩ := rdec_back m tf qf l vals HLT.out HX.out
    have HE := Lib.hid (fun w' (h : Below w2.heap.size w2 w') => enc_r ac aL bc offc m capc gL 0 vals.length cL mf tf qf (kF vals) (nF vals) (sF vals) (by omega) (by omega) w' HAC.out FL.out (HC.out _ (stepB W2.out h)) (VL.out.below h) (fun i hi => ⟨(k1 i (by omega)).2, by have := (vckE (k1 i (by omega)).1).2.2; omega⟩))
    rw [k0, k2, k3] at HE
    clear k1 k2 k3
    go_wp2_with fail
    refine (HE.out _ (Below.refl _ _)).mono ?_
    rintro x w3 ⟨v3, rfl, o3, -, b3⟩
    have c3 := OutB.str (o3 rfl)
    have s3 := str_arg (c := cap) HA.out HAN.out (A2.out.below b3)
    have W3 := Lib.hid (stepB W2.out b3)
    clear o3 b3 HE
    go_wp2
    go_ret
    exact ⟨rfl, W3.out⟩
  · have hz1 : (err != 0) = true := by simpa using hz
    have hz2 : (err == 0) = false := by simpa using hz
    have hz3 : decide (err = 0) = false := by simpa using hz
    have hv : vals = [] := by
      have := rdec_err m tf qf l (by rw [HX.out]; exact hz)
      rw [HX.out] at this
      exact this
    subst hv
    go_wp2
    go_ret
    exact ⟨rfl, W2.out⟩

set_option maxRecDepth 100000 in
theorem lifted (os : Os) (started : os.Started) (H : Type) (enc : TypeId × Value → H) (F : Stop.Interp) :
    ReturnsInHanded {} Try.checked os 6 .any ((Rows.OpenSpec.upto Rows.rowsBackSpec).pre6 enc Try.prog Try.f6 Rows.rowsBackUptoRow.domain false) (((Rows.OpenSpec.upto Rows.rowsBackSpec).at F).post enc Try.prog Try.f6 false true false false) := by
  refine returnsInHanded_of_cond (C := Try.checked) (s := Rows.OpenSpec.upto Rows.rowsBackSpec) (k := Rows.uptoSmall) rfl own started (by kernel_rfl) Try.func6
    (OpenSpec.witness (enc := enc) (C := Try.checked) (s := Rows.OpenSpec.upto Rows.rowsBackSpec) (k := Rows.uptoSmall) rfl false ⟨#[], #[.slice none 0 0, .slice none 0 0], []⟩ 8 (by kernel_rfl) (by kernel_rfl) (by kernel_rfl)
      (x := ([.nil, .nil], [], [])) (by kernel_rfl) rfl (by kernel_rfl)) ?_
  intro W base args ds gs before hval0 hW _ hk0 _
  have hval : ∀ (j : Nat) t v, Try.f6.params[j]? = some t → args[j]? = some v → Value.okWide Try.prog W .any base t v := hval0
  have hW' := hW
  obtain ⟨p, q, hA0, hV, rfl, hfz, hnd⟩ := hW
  have hA : DataW.TrodAll enc Try.prog W 0 (fun _ => true) true Try.f6.params.toList args.toList ds p := hA0
  rw [Try.params6] at hA hval
  obtain ⟨v0, vs0, d0, ds0, p0, q0, hargs, rfl, rfl, h0, r0⟩ := trodAll_cons hA
  obtain ⟨v1, vs1, d1, ds1, p1, q1, rfl, rfl, rfl, h1, r1⟩ := trodAll_cons r0
  obtain ⟨rfl, rfl, rfl⟩ := trodAll_nil r1
  obtain rfl : args = #[v0, v1] := by cases args; simp_all
  obtain ⟨rfl, rfl⟩ := trodVars_none hV
  have hk : Rows.uptoSmall H [d0, d1] = true := hk0
  have lt0 : ∀ x ∈ p0, x.block < W.heap.size := by obtain ⟨m, hm⟩ := h0; exact DataW.trod_lt m _ _ _ hm
  have lt1 : ∀ x ∈ p1, x.block < W.heap.size := by obtain ⟨m, hm⟩ := h1; exact DataW.trod_lt m _ _ _ hm
  refine (walk (enc := enc) base v0 d0 p0 v1 d1 p1 W (hval 0 22 v0 rfl rfl) h0 (hval 1 27 v1 rfl rfl) h1 hk).mono fun e W' ⟨he, bel⟩ => ?_
  subst he
  exact ⟨_, rfl, _, _, _, [], _, [], hW', trodAll_mk1 (shut_bool Try.underlying4 _), (trodAll_cons_mk (Below.trod laidOut (by kernel_rfl) (of_decide_eq_true (by kernel_rfl)) h0 bel lt0) (trodAll_cons_mk (Below.trod laidOut (by kernel_rfl) (of_decide_eq_true (by kernel_rfl)) h1 bel lt1) trodAll_mk0)), rfl, bel.frame _, fun h => by cases h⟩

theorem over : Rows.rowsBackUptoRow.holds Try.pinned (Rows.OpenSpec.upto Rows.rowsBackSpec) :=
  OpenClaim.holds_of_cond 6 Try.f6 rfl rfl rfl rfl rfl rfl rfl ⟨rfl, rfl, rfl, rfl, rfl⟩ rfl rfl rfl rfl rfl (by kernel_rfl) Try.func6 (by kernel_rfl)
    (of_decide_eq_true (by kernel_rfl)) (by unfold Func.isWrapper; first | (rw [if_pos (by decide +kernel)]; kernel_rfl) | (rw [if_neg (by decide +kernel)]; exact ⟨rfl, rfl⟩))
    (fun os started H enc _ F => lifted os started H enc F)

theorem proved : Rows.RowsBackUptoSaid :=
  over
end Go.Proofs.Ytpknoclnmhomiab.rowsBack
