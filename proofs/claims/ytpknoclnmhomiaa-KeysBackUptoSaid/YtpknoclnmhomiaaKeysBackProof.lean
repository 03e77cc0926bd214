/-
  KeysBack answers true at any bytes of a bulk of at most 1048576: what is read as values makes these bytes again.
  Conditions: none but the row's own.
-/
import Derived.Test.YtpknoclnmhomiaaKl1
import Derived.Test.YtpknoclnmhomiaaRows
import Derived.WalkKit
import Derived.ProofKit
import Derived.OpenShut
import Derived.ShutString
import Derived.ChangeOld
import Derived.Below
import Derived.Carry
import Derived.JoinedCond
namespace Go.Proofs.Ytpknoclnmhomiaa.keysBack
open Go.ChangeShapes Go.WideShapes Go.ChangeAt Go.RowKit
open Go.Joins
set_option linter.unusedVariables false

theorem own : ownKnob Try.prog.godebug = none := by kernel_rfl
theorem laidOut : laidOutB Try.prog = true := by kernel_rfl


set_option maxHeartbeats 4000000 in
theorem walk {H : Type} {enc : TypeId × Value → H} (base : Nat) (v0 : Value) (d0 : DataW H) (p0 : List MemPlace) (W : World)
    (o0 : Value.okWide Try.prog W .any base 25 v0) (h0 : DataW.Trod enc Try.prog W 0 (fun _ => true) true 25 v0 d0 p0)
    (hk : Rows.uptoSmall H [d0] = true) :
    Calls Try.prog 6 #[v0] W fun e w' => e = .returned (.bool true) ∧ Below W.heap.size W w' := by
  obtain ⟨a, l, cap, b, off, rfl, hl, hm, ha, hA, hN⟩ := open_bytes o0 h0 (up_arg hk (by simp))
  have hm2 : l.length ≤ 1048576 := by omega
  have HS := Lib.hid speaks5_any
  have HA := Lib.hid ha
  have HN := Lib.hid hN
  have HLT := Lib.hid hA.lt
  have HAN := Lib.hid (show a = none → l.length = 0 by rintro rfl; rcases hN with ⟨_, h, _⟩ | ⟨_, h, _⟩; exact h; cases h)
  clear o0 h0 hk ha hN
  obtain ⟨X, hX⟩ : ∃ X, decK l = X := ⟨_, rfl⟩
  go_enter Try.func6, Try.ntmps6
  go_wp2_with fail
  refine (HS.out _).mono ?_
  rintro x w0 ⟨rfl, b0⟩
  have A0 := Lib.hid (hA.below b0)
  have M0 := Lib.hid (bytes_made w0)
  have hsz0 : w0.heap.size ≤ (w0.alloc (.cells #[] 5)).heap.size := by simp
  go_wp2_with (first | (at_builtin; refine wp_copyA rfl _ _ rfl w0.heap.size _ [] rfl M0.out a _ l rfl b off HN.out (A0.out.below ((Below.refl _ _).alloc (Nat.le_refl _) _)) (by simp; omega) hsz0 ?_; intro v1 w1 hown1 hgrow1; have B1 := Lib.hid (((Below.refl w0.heap.size w0).alloc (Nat.le_refl _) (.cells #[] 5)).grown hgrow1 hsz0 (fun k hk => (M0.out.lt k hk).1)); have O1 := Lib.hid hown1; clear hgrow1 hown1) | fail)
  obtain ⟨g1, c1, e1, i1, -⟩ := O1.out.isB HLT.out
  have e1' : v1 = .slice (some ⟨g1, 0, none⟩) l.length c1 := e1
  subst e1'
  have I1 := Lib.hid (show IsB w1 g1 0 l from i1)
  have A1 := Lib.hid (A0.out.below B1.out)
  have W1 := Lib.hid (stepB b0 B1.out)
  have hcc : l.length ≤ c1 ∧ c1 ≤ maxLen := OwB.caps (l := l) O1.out
  clear e1 i1 M0 A0 HS
  have hn : X.1.length ≤ l.length := by rw [← hX]; exact decK_len l
  have hd1 := (dec_any (some ⟨g1, 0, none⟩) g1 0 c1 l hcc.1 hcc.2 (by omega) w1 (.inr rfl) I1.out).mono (fun e w' h => DecR.form h (decK_err l))
  rw [hX] at hd1
  have HD1 := Lib.hid hd1
  have HX := Lib.hid hX
  clear hX hd1
  refine HD1.out.mono ?_
  rintro x w2 ⟨aL, gL, cL, rfl, fL, vL, oL, b2⟩
  have A2 := Lib.hid (A1.out.below b2)
  have W2 := Lib.hid (stepB W1.out b2)
  have VL := Lib.hid vL
  have FL := Lib.hid fL
  clear fL vL oL b2 HD1 I1 A1 O1 B1
  obtain ⟨vals, err⟩ := X
  simp only at *
  have hs := Below.refl w2.heap.size w2
  by_cases hz : err = 0
  · have hbk := dec_back l.length l (Nat.le_refl _) HLT.out (by rw [HX.out]; exact hz)
    rw [HX.out] at hbk
    obtain ⟨k1, k2⟩ := hbk
    have hrv : ∀ i, i < vals.length → VCheck (kF vals i) (nF vals i) (sF vals i) = 0 ∧ InI (nF vals i) := by
      intro i hi
      have hx := k2 (vals[i]'hi) (List.getElem_mem _)
      have e : vals.getD i (0, 0, Em) = vals[i]'hi := by simp [List.getD_eq_getElem?_getD, List.getElem?_eq_getElem hi]
      unfold kF nF sF
      rw [e]
      exact hx
    have HE := Lib.hid (fun w' (h : Below w2.heap.size w2 w') => enc_any aL gL 0 vals.length cL (kF vals) (nF vals) (sF vals) (by omega) w' FL.out (VL.out.below h) hrv)
    rw [keyB_L, k1] at HE
    have HC := Lib.hid (fun w' (h : Below w2.heap.size w2 w') => str_arg (c := cap) HA.out HAN.out (A2.out.below h))
    have s0 := HC.out w2.drew (Below.refl _ _).drew
    subst hz
    clear k1 k2 hrv
    go_wp2_with fail
    have hs1 := hs.drew
    go_region_with (first
        | (go_at_call 12; refine (HE.out _ ?_).mono ?_; assumption; rintro x w12 ⟨vE, rfl, oE, hbx⟩; have hsn := stepB (show Below w2.heap.size w2 _ by assumption) hbx; have cE := OutB.str oE; have sA := HC.out w12 (stepB (by assumption) hbx)))
    all_goals
      go_wp2
      go_ret
      exact ⟨rfl, W2.out.trans (Below.mono (B := w2.heap.size) (by assumption) W2.out.size)⟩
  · have hz1 : (err != 0) = true := by simpa using hz
    have hz2 : (err == 0) = false := by simpa using hz
    have hz3 : decide (err = 0) = false := by simpa using hz
    go_wp2_with fail
    go_quiet (fail)
    go_wp2
    go_ret
    exact ⟨rfl, W2.out.trans ⟨rfl, rfl, rfl, Nat.le_refl _, fun _ _ => rfl⟩⟩

set_option maxRecDepth 100000 in
theorem lifted (os : Os) (started : os.Started) (H : Type) (enc : TypeId × Value → H) (F : Stop.Interp) :
    ReturnsInHanded {} Try.checked os 6 .any ((Rows.OpenSpec.upto Rows.keysBackSpec).pre6 enc Try.prog Try.f6 Rows.keysBackUptoRow.domain false) (((Rows.OpenSpec.upto Rows.keysBackSpec).at F).post enc Try.prog Try.f6 false true false false) := by
  refine returnsInHanded_of_cond (C := Try.checked) (s := Rows.OpenSpec.upto Rows.keysBackSpec) (k := Rows.uptoSmall) rfl own started (by kernel_rfl) Try.func6
    (OpenSpec.witness (enc := enc) (C := Try.checked) (s := Rows.OpenSpec.upto Rows.keysBackSpec) (k := Rows.uptoSmall) rfl false ⟨#[], #[.slice none 0 0], []⟩ 8 (by kernel_rfl) (by kernel_rfl) (by kernel_rfl)
      (x := ([.nil], [], [])) (by kernel_rfl) rfl (by kernel_rfl)) ?_
  intro W base args ds gs before hval0 hW _ hk0 _
  have hval : ∀ (j : Nat) t v, Try.f6.params[j]? = some t → args[j]? = some v → Value.okWide Try.prog W .any base t v := hval0
  have hW' := hW
  obtain ⟨p, q, hA0, hV, rfl, hfz, hnd⟩ := hW
  have hA : DataW.TrodAll enc Try.prog W 0 (fun _ => true) true Try.f6.params.toList args.toList ds p := hA0
  rw [Try.params6] at hA hval
  obtain ⟨v0, vs0, d0, ds0, p0, q0, hargs, rfl, rfl, h0, r0⟩ := trodAll_cons hA
  obtain ⟨rfl, rfl, rfl⟩ := trodAll_nil r0
  obtain rfl : args = #[v0] := by cases args; simp_all
  obtain ⟨rfl, rfl⟩ := trodVars_none hV
  have hk : Rows.uptoSmall H [d0] = true := hk0
  have lt0 : ∀ x ∈ p0, x.block < W.heap.size := by obtain ⟨m, hm⟩ := h0; exact DataW.trod_lt m _ _ _ hm
  refine (walk (enc := enc) base v0 d0 p0 W (hval 0 25 v0 rfl rfl) h0 hk).mono fun e W' ⟨he, bel⟩ => ?_
  subst he
  exact ⟨_, rfl, _, _, _, [], _, [], hW', trodAll_mk1 (shut_bool Try.underlying4 _), (trodAll_cons_mk (Below.trod laidOut (by kernel_rfl) (of_decide_eq_true (by kernel_rfl)) h0 bel lt0) trodAll_mk0), rfl, bel.frame _, fun h => by cases h⟩

theorem over : Rows.keysBackUptoRow.holds Try.pinned (Rows.OpenSpec.upto Rows.keysBackSpec) :=
  OpenClaim.holds_of_cond 6 Try.f6 rfl rfl rfl rfl rfl rfl rfl ⟨rfl, rfl, rfl, rfl, rfl⟩ rfl rfl rfl rfl rfl (by kernel_rfl) Try.func6 (by kernel_rfl)
    (of_decide_eq_true (by kernel_rfl)) (by unfold Func.isWrapper; first | (rw [if_pos (by decide +kernel)]; kernel_rfl) | (rw [if_neg (by decide +kernel)]; exact ⟨rfl, rfl⟩))
    (fun os started H enc _ F => lifted os started H enc F)

theorem proved : Rows.KeysBackUptoSaid :=
  over
end Go.Proofs.Ytpknoclnmhomiaa.keysBack
