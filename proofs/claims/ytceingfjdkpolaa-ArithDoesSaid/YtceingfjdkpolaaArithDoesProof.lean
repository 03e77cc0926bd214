/-
  ArithDoes answers true at any operator and any list of values: what Do answers is the document's, the operands stay as they were, and the answer is a right value.
  Conditions: none but the row's own.
-/
import Derived.Test.YtceingfjdkpolaaAri17
import Derived.Test.YtceingfjdkpolaaRows
import Derived.WalkKit
import Derived.ProofKit
import Derived.OpenShut
import Derived.ShutString
import Derived.ChangeOld
import Derived.Below
import Derived.Carry
import Derived.SizedLaws
namespace Go.Proofs.Ytceingfjdkpolaa.arithDoes
open Go.ChangeShapes Go.WideShapes Go.ChangeAt Go.RowKit
open Go.Joins
set_option linter.unusedVariables false

theorem own : ownKnob Try.prog.godebug = none := by kernel_rfl
theorem laidOut : laidOutB Try.prog = true := by kernel_rfl

theorem bytesV : Try.prog.bytesOf 25 = 32 := by kernel_rfl
theorem reachV {H : Type} {ts : List TypeId} {ds : List (DataW H)} (hz : (DataW.weightsEach Try.prog ts ds).all (· ≤ reachBytes) = true) {j m cap : Nat} {d : DataW H} (ht : ts[j]? = some 23) (hj : ds[j]? = some d) (hl : m ≤ cap)
    (hd : (d = .nil ∧ m = 0) ∨ ∃ es sp, d = .slice es sp ∧ es.length + sp.length = cap) : m * 32 ≤ 140737488351232 := by
  rcases hd with ⟨-, rfl⟩ | ⟨es, sp, rfl, e⟩
  · omega
  · have := sized_slice hz ht hj Try.underlying23
    rw [bytesV, e] at this
    unfold reachBytes at this
    omega

theorem samerow_any (a : Option Addr) (g b off m cap cap' : Nat) (kf nf : Nat → Int) (sf : Nat → ByteArray) (hm : m ≤ maxLen) (w : World)
    (ha : m = 0 ∨ a = some ⟨b, off, none⟩) (hX : IsV w g 0 m kf nf sf) (hA : IsV w b off m kf nf sf) :
    Calls Try.prog 14 #[.slice (some ⟨g, 0, none⟩) m cap, .slice a m cap'] w fun e w' => e = .returned (.bool true) ∧ Below w.heap.size w w' := by
  by_cases hz : m = 0
  · subst hz
    exact samerow_zero _ _ _ _ w
  · obtain rfl : a = some ⟨b, off, none⟩ := by rcases ha with h | h; omega; exact h
    exact samerow_some g 0 m cap b off cap' kf nf sf hm w hX hA

set_option maxHeartbeats 8000000 in
theorem walk {H : Type} {enc : TypeId × Value → H} (base : Nat) (v0 : Value) (d0 : DataW H) (p0 : List MemPlace) (v1 : Value) (d1 : DataW H) (p1 : List MemPlace) (W : World)
    (o0 : Value.okWide Try.prog W .any base 3 v0) (h0 : DataW.Trod enc Try.prog W 0 (fun _ => true) true 3 v0 d0 p0)
    (o1 : Value.okWide Try.prog W .any base 23 v1) (h1 : DataW.Trod enc Try.prog W 0 (fun _ => true) true 23 v1 d1 p1)
    (hz : (DataW.weightsEach Try.prog [3, 23] [d0, d1]).all (· ≤ reachBytes) = true) :
    Calls Try.prog 4 #[v0, v1] W fun e w' => e = .returned (.bool true) ∧ Below W.heap.size W w' := by
  obtain ⟨op, rfl, -, -, -⟩ := open_int Try.underlying3 o0 h0
  obtain ⟨a, m, cap, b, off, kf, nf, sf, rfl, hl, hm, ha, hA, hB, hd⟩ := open_vals2 o1 h1
  have r0 := reachV hz (j := 1) rfl rfl hl hd
  have hm2 : m ≤ maxLen := Nat.le_trans hl hm
  have hm' : m ≤ 9223372036854775807 := by unfold maxLen at hm2; omega
  have HS := Lib.hid speaks3_any
  have HA := Lib.hid ha
  have HB := Lib.hid hB
  have HC := Lib.hid (fun k n s h g w => refcheck_any k n s h g w)
  clear hz hd o0 h0 o1 h1 hm ha hB
  unfold Vv at HC
  go_enter Try.func4, Try.ntmps4
  go_wp2_with fail
  refine (HS.out _).mono ?_
  rintro x w0 ⟨rfl, b0⟩
  go_wp2_with fail
  have hA0 := hA.below b0
  have hs0 := b0.size
  go_loopw [16] (fun i wr => ∃ k : Nat, k ≤ m ∧ i = .int .i64 k ∧ Below w0.heap.size w0 wr ∧ Hid (∀ j, j < k → VCheck (kf j) (nf j) (sf j) = 0)) (fun i _ => m - (intOf i).toNat)
  case atStart =>
    exact ⟨0, Nat.zero_le _, rfl, Below.refl _ _, fun j hj => absurd hj (by omega)⟩
  case round =>
    obtain ⟨k, hk, rfl, hb, HK⟩ := hrel
    by_cases hlt : k < m
    · obtain rfl : a = some ⟨b, off, none⟩ := by rcases HA.out with h | h; omega; exact h
      have hA' := hA0.below hb
      have a0 := hA'.c0 k hlt
      have a1 := hA'.c1 k hlt
      have a2 := hA'.c2 k hlt
      have hbl : b < wr.heap.size := hA'.hb (by omega)
      have hkm : (k : Int) < (m : Int) := by omega
      obtain ⟨i1, i2⟩ := HB.out k hlt
      obtain ⟨kk, ek⟩ : ∃ x, kf k = x := ⟨_, rfl⟩
      obtain ⟨nn, en⟩ : ∃ x, nf k = x := ⟨_, rfl⟩
      obtain ⟨ss, es⟩ : ∃ x, sf k = x := ⟨_, rfl⟩
      rw [ek] at a0
      rw [en] at a1 i1
      rw [es] at a2 i2
      have HN := Lib.hid (HC.out kk nn ss i1 i2)
      have EE := Lib.hid (show VCheck (kf k) (nf k) (sf k) = VCheck kk nn ss by rw [ek, en, es])
      have HBL := Lib.hid hb
      have hzr := hb.size
      clear hA' ek en es i1 i2 hb
      by_cases hv : VCheck kk nn ss = 0
      · have HV := Lib.hid hv
        rw [hv] at HN
        clear hv
        go_wp2_with fail
        refine (HN.out _).mono ?_
        rintro x w1 ⟨rfl, bc⟩
        have BW := Lib.hid (((Below.refl _ wr).alloc (Nat.le_refl _) (.cells #[.int .i64 kk, .int .i64 nn, .string ss] 25)).trans (bc.mono (by simp)))
        have HB1 := Lib.hid (HBL.out.trans (BW.out.mono hzr))
        have HK2 : Hid (∀ j, j < k + 1 → VCheck (kf j) (nf j) (sf j) = 0) := fun j hj => by
          by_cases c : j < k
          · exact HK.out j c
          · obtain rfl : j = k := by omega
            exact EE.out.trans HV.out
        clear a0 a1 a2 bc
        go_wp2_with fail
        go_roundw
        case rel => exact ⟨k + 1, by omega, by go_num, HB1.out, HK2⟩
        case measure => simp [intOf]; omega
      · have hv' : (VCheck kk nn ss != 0) = true := by simpa using hv
        generalize VCheck kk nn ss = c at *
        clear hv
        go_wp2_with fail
        refine (HN.out _).mono ?_
        rintro x w1 ⟨rfl, bc⟩
        have BW := Lib.hid (((Below.refl _ wr).alloc (Nat.le_refl _) (.cells #[.int .i64 kk, .int .i64 nn, .string ss] 25)).trans (bc.mono (by simp)))
        have HB1 := Lib.hid (b0.trans ((HBL.out.trans (BW.out.mono hzr)).mono hs0))
        clear a0 a1 a2 bc
        go_wp2
        go_ret
        exact ⟨rfl, HB1.out⟩
    · obtain rfl : k = m := by omega
      have hsz : ∀ i, i < k → InI (nf i) ∧ (sf i).size ≤ 200 := fun i hi => ⟨(HB.out i hi).1, (vcheck_0 (HK.out i hi)).2.2.2.2⟩
      have hA1 := hA0.below hb
      have b01 := b0.trans (hb.mono hs0)
      obtain ⟨R, hR⟩ : ∃ R, doV op k (kf 0) (nf 0) (sf 0) (kf (k - 1)) (nf (k - 1)) (sf (k - 1)) = R := ⟨_, rfl⟩
      have hrt := do_right hR (fun h => ⟨(HB.out 0 (by omega)).1, (vcheck_0 (HK.out 0 (by omega))).2.2.1⟩)
      have HR := Lib.hid hR
      have HZ := Lib.hid hsz
      have HA1 := Lib.hid hA1
      have B01 := Lib.hid b01
      have HRT := Lib.hid hrt
      clear hrt hR hsz hA1 b01 hb hA0 hA b0 HK
      go_wp2_with fail
      refine (copyrow_any a k cap b off kf nf sf r0 _ HA.out HA1.out).mono ?_
      rintro x w2 ⟨g2, gc, rfl, y2, b2⟩
      have B02 := Lib.hid (B01.out.trans (b2.mono B01.out.size))
      have HA2 := Lib.hid (HA1.out.below b2)
      have HD := Lib.hid (do_all op (some ⟨g2, 0, none⟩) g2 0 k gc kf nf sf hm2 (.inr rfl) HZ.out w2 y2 R HR.out)
      have Y2 := Lib.hid y2
      clear b2 y2 HA1 B01
      obtain ⟨rk, rn, rs, re⟩ := R
      go_wp2_with fail
      refine HD.out.mono ?_
      rintro x w3 ⟨rfl, b3⟩
      have HA3 := Lib.hid (HA2.out.below b3)
      have Y3 := Lib.hid (Y2.out.below b3)
      have B03 := Lib.hid (B02.out.trans (b3.mono B02.out.size))
      have r3 := rg_new (B := W.heap.size) (w := W) (w0 := w3) (l := []) ⟨B03.out, B03.out.size, fun x hx => absurd hx (by simp)⟩ rk rn rs
      have HA4 := Lib.hid (HA3.out.below ((Below.refl _ _).alloc (Nat.le_refl _) (Vx rk rn rs)))
      have Y4 := Lib.hid (Y3.out.below ((Below.refl _ _).alloc (Nat.le_refl _) (Vx rk rn rs)))
      have R3 := Lib.hid r3
      clear b3 HA2 Y2 B02 HD r3 HA3 Y3
      go_wp2_with fail
      have HD2 := Lib.hid (refdo_all op a b off k cap kf nf sf hm2 HA.out HZ.out (w3.alloc (Vx rk rn rs)) HA4.out (rk, rn, rs, re) HR.out)
      refine HD2.out.mono ?_
      rintro x w5 ⟨rfl, b5⟩
      have HA5 := Lib.hid (HA4.out.below b5)
      have Y5 := Lib.hid (Y4.out.below b5)
      have r5 := R3.out.step b5
      have r6 := rg_new r5 rk rn rs
      have HA6 := Lib.hid (HA5.out.below ((Below.refl _ _).alloc (Nat.le_refl _) (Vx rk rn rs)))
      have Y6 := Lib.hid (Y5.out.below ((Below.refl _ _).alloc (Nat.le_refl _) (Vx rk rn rs)))
      have R6 := Lib.hid r6
      clear r5 r6 b5 HD2 HA4 Y4 HA5 Y5 R3
      go_upto_region 12 with fail
      generalize hw6 : w5.alloc (Vx rk rn rs) = w6 at *
      clear hw6
      have c0 := R6.out.kp.hd.1
      have c1 := R6.out.kp.tl.hd.1
      have c2 := R6.out.kp.tl.tl.hd.1
      have d0 := R6.out.kp.tl.tl.tl.hd.1
      have d1 := R6.out.kp.tl.tl.tl.tl.hd.1
      have d2 := R6.out.kp.tl.tl.tl.tl.tl.hd.1
      have hv := veq_self rk rn rs
      go_wp2_with fail
      refine (samerow_any a g2 b off k gc cap kf nf sf hm2 w6 HA.out Y6.out HA6.out).mono ?_
      rintro x w7 ⟨rfl, b7⟩
      have r7 := R6.out.step b7
      have HC7 := Lib.hid (HC.out rk rn rs HRT.out.2.1 (Nat.le_trans HRT.out.2.2 (by unfold maxLen; omega)))
      rw [HRT.out.1] at HC7
      have R7 := Lib.hid r7
      clear c0 c1 c2 d0 d1 d2 b7 R6
      have c0 := r7.kp.hd.1
      have c1 := r7.kp.tl.hd.1
      have c2 := r7.kp.tl.tl.hd.1
      clear r7
      go_wp2_with fail
      refine (HC7.out _).mono ?_
      rintro x w8 ⟨rfl, b8⟩
      have B8 := Lib.hid (R7.out.step b8).bel
      clear b8
      go_wp2
      go_ret
      exact ⟨rfl, B8.out⟩

set_option maxRecDepth 100000 in
theorem lifted (os : Os) (started : os.Started) (H : Type) (enc : TypeId × Value → H) :
    ReturnsInHanded {} Try.checked os 4 .any (Rows.arithDoesSpec.pre6 enc Try.prog Try.f4 Rows.arithDoesRow.domain false) (Rows.arithDoesSpec.post enc Try.prog Try.f4 false true false false) := by
  refine returnsInHanded_of_change_sized (C := Try.checked) own started (by kernel_rfl) Try.func4
    (ChangeSpec.witness6 (enc := enc) (C := Try.checked) false ⟨#[], #[.int .i64 0, .slice none 0 0], []⟩ 8 (by kernel_rfl) (by kernel_rfl) (by kernel_rfl) (by kernel_rfl)) ?_
  intro W base args ds gs before hval0 hW hcnd hsz0 _
  have hval : ∀ (j : Nat) t v, Try.f4.params[j]? = some t → args[j]? = some v → Value.okWide Try.prog W .any base t v := hval0
  have hW' := hW
  obtain ⟨p, q, hA0, hV, rfl, hfz, hnd⟩ := hW
  have hA : DataW.TrodAll enc Try.prog W 0 (fun _ => true) true Try.f4.params.toList args.toList ds p := hA0
  rw [Try.params4] at hA hval
  obtain ⟨v0, vs0, d0, ds0, p0, q0, hargs, rfl, rfl, h0, r0⟩ := trodAll_cons hA
  obtain ⟨v1, vs1, d1, ds1, p1, q1, rfl, rfl, rfl, h1, r1⟩ := trodAll_cons r0
  obtain ⟨rfl, rfl, rfl⟩ := trodAll_nil r1
  obtain rfl : args = #[v0, v1] := by cases args; simp_all
  obtain ⟨rfl, rfl⟩ := trodVars_none hV
  have hsz : (DataW.weightsEach Try.prog [3, 23] [d0, d1]).all (· ≤ reachBytes) = true := hsz0
  have lt0 : ∀ x ∈ p0, x.block < W.heap.size := by obtain ⟨m, hm⟩ := h0; exact DataW.trod_lt m _ _ _ hm
  have lt1 : ∀ x ∈ p1, x.block < W.heap.size := by obtain ⟨m, hm⟩ := h1; exact DataW.trod_lt m _ _ _ hm
  refine (walk (enc := enc) base v0 d0 p0 v1 d1 p1 W (hval 0 3 v0 rfl rfl) h0 (hval 1 23 v1 rfl rfl) h1 hsz).mono fun e W' ⟨he, bel⟩ => ?_
  subst he
  exact ⟨_, rfl, _, _, _, [], _, [], hW', trodAll_mk1 (shut_bool Try.underlying4 _), (trodAll_cons_mk (Below.trod laidOut (by kernel_rfl) (of_decide_eq_true (by kernel_rfl)) h0 bel lt0) (trodAll_cons_mk (Below.trod laidOut (by kernel_rfl) (of_decide_eq_true (by kernel_rfl)) h1 bel lt1) trodAll_mk0)), rfl, bel.frame _, fun h => by cases h⟩

theorem over : Rows.arithDoesRow.holds Try.pinned (OpenSpec.ofChange Rows.arithDoesSpec) :=
  OpenClaim.holds_of_wide 4 Try.f4 rfl rfl rfl rfl rfl rfl rfl ⟨rfl, rfl, rfl, rfl, rfl⟩ rfl rfl rfl rfl rfl (by kernel_rfl) Try.func4 (by kernel_rfl)
    (of_decide_eq_true (by kernel_rfl)) (by unfold Func.isWrapper; first | (rw [if_pos (by decide +kernel)]; kernel_rfl) | (rw [if_neg (by decide +kernel)]; exact ⟨rfl, rfl⟩))
    (fun os started H enc _ => lifted os started H enc)

theorem proved : Rows.ArithDoesSaid :=
  over
end Go.Proofs.Ytceingfjdkpolaa.arithDoes
