/-
  KeysOrders answers true at any two lists of values of a bulk of at most 1048576: the keys of right lists stand in the order of the lists, and a list's key begins with those of its beginnings.
  Conditions: none but the row's own.
-/
import Derived.Test.YtpknoclnmhomiaaKl2
import Derived.Test.YtpknoclnmhomiaaRows
import Derived.WalkKit
import Derived.ProofKit
import Derived.OpenShut
import Derived.ShutString
import Derived.ChangeOld
import Derived.Below
import Derived.Carry
import Derived.JoinedCond
namespace Go.Proofs.Ytpknoclnmhomiaa.keysOrders
open Go.ChangeShapes Go.WideShapes Go.ChangeAt Go.RowKit
open Go.Joins
set_option linter.unusedVariables false

theorem own : ownKnob Try.prog.godebug = none := by kernel_rfl
theorem laidOut : laidOutB Try.prog = true := by kernel_rfl


set_option maxHeartbeats 4000000 in
theorem walk {H : Type} {enc : TypeId × Value → H} (base : Nat) (v0 : Value) (d0 : DataW H) (p0 : List MemPlace) (v1 : Value) (d1 : DataW H) (p1 : List MemPlace) (W : World)
    (o0 : Value.okWide Try.prog W .any base 22 v0) (h0 : DataW.Trod enc Try.prog W 0 (fun _ => true) true 22 v0 d0 p0)
    (o1 : Value.okWide Try.prog W .any base 22 v1) (h1 : DataW.Trod enc Try.prog W 0 (fun _ => true) true 22 v1 d1 p1)
    (hk : Rows.uptoSmall H [d0, d1] = true) :
    Calls Try.prog 7 #[v0, v1] W fun e w' => e = .returned (.bool true) ∧ Below W.heap.size W w' := by
  obtain ⟨a, m, cap, b, off, kf, nf, sf, rfl, hl, hm, ha, hA, hB, hN⟩ := open_vals3 o0 h0 (up_arg hk (by simp))
  obtain ⟨a', n, cap', b', off', kf', nf', sf', rfl, hl', hm', ha', hA', hB', hN'⟩ := open_vals3 o1 h1 (up_arg hk (by simp))
  have r0 : m * 32 ≤ 140737488351232 := by omega
  have r1 : n * 32 ≤ 140737488351232 := by omega
  have hmm : m ≤ 1048576 := by omega
  have hnn : n ≤ 1048576 := by omega
  have HS := Lib.hid speaks5_any
  have HA := Lib.hid ha
  have HA' := Lib.hid ha'
  have HB := Lib.hid hB
  have HB' := Lib.hid hB'
  clear o0 h0 o1 h1 hk ha hB hN ha' hB' hN' hl' hm'
  by_cases hr : ∀ i, i < m → VCheck (kf i) (nf i) (sf i) = 0
  · have HT := Lib.hid (fun w h => allright_any a b off m cap kf nf sf (by omega) w HA.out h HB.out true ⟨fun _ => hr, fun _ => rfl⟩)
    by_cases hr' : ∀ i, i < n → VCheck (kf' i) (nf' i) (sf' i) = 0
    · have HT' := Lib.hid (fun w h => allright_any a' b' off' n cap' kf' nf' sf' (by omega) w HA'.out h HB'.out true ⟨fun _ => hr', fun _ => rfl⟩)
      have hri := (fun i (hi : i < m) => And.intro (hr i hi) (HB.out i hi).1)
      have hri' := (fun i (hi : i < n) => And.intro (hr' i hi) (HB'.out i hi).1)
      have hko := keys_order kf nf sf kf' nf' sf' m n hri hri'
      have hkl := keyB_le kf nf sf m (fun i hi => (vck (hr i hi)).2.2.2.2)
      have hkl' := keyB_le kf' nf' sf' n (fun i hi => (vck (hr' i hi)).2.2.2.2)
      have HK8 := Lib.hid (keyB_lt kf nf sf m (fun i hi => ⟨(vck (hr i hi)).1, (vck (hr i hi)).2.1⟩))
      have HK8' := Lib.hid (keyB_lt kf' nf' sf' n (fun i hi => ⟨(vck (hr' i hi)).1, (vck (hr' i hi)).2.1⟩))
      have HR := Lib.hid hri
      have HR' := Lib.hid hri'
      have HV := Lib.hid (fun i hi => vck (hr i hi))
      clear hr hr' hri hri'
      have HRW := Lib.hid (fun w (h : IsV w b off m kf nf sf) (h' : IsV w b' off' n kf' nf' sf') => rrows_all a a' b off m cap b' off' n cap' kf nf sf kf' nf' sf' (by unfold maxLen; omega) (by unfold maxLen; omega) w HA.out HA'.out h h')
      generalize firstNZ (fun i => VCmp (kf i) (nf i) (sf i) (kf' i) (nf' i) (sf' i)) (cmpI m n) 0 (min m n) = T at *
      have HKO := Lib.hid hko
      clear hko
      go_enter Try.func7, Try.ntmps7
      go_wp2_with fail
      refine (HS.out _).mono ?_
      rintro x w0 ⟨rfl, b0⟩
      have A0 := Lib.hid (hA.below b0)
      have C0 := Lib.hid (hA'.below b0)
      go_wp2_with fail
      refine (HT.out _ A0.out).mono ?_
      rintro x w1 ⟨rfl, b1⟩
      have A1 := Lib.hid (A0.out.below b1)
      have C1 := Lib.hid (C0.out.below b1)
      have B1 := Lib.hid (stepB b0 b1)
      clear b0 b1 A0 C0
      go_wp2_with fail
      refine (HT'.out _ C1.out).mono ?_
      rintro x w2 ⟨rfl, b2⟩
      have A2 := Lib.hid (A1.out.below b2)
      have C2 := Lib.hid (C1.out.below b2)
      have B2 := Lib.hid (stepB B1.out b2)
      clear b2 A1 C1 B1 HT HT' HS
      go_wp2_with fail
      refine (copyrow_any a m cap b off kf nf sf r0 _ HA.out A2.out).mono ?_
      rintro x w3 ⟨g3, c3, rfl, y3, b3⟩
      have A3 := Lib.hid (A2.out.below b3)
      have C3 := Lib.hid (C2.out.below b3)
      have B3 := Lib.hid (stepB B2.out b3)
      go_wp2_with fail
      refine (enc_any (some ⟨g3, 0, none⟩) g3 0 m c3 kf nf sf (by omega) w3 (.inr rfl) y3 HR.out).mono ?_
      rintro x w4 ⟨v4, rfl, o4, b4⟩
      have A4 := Lib.hid (A3.out.below b4)
      have C4 := Lib.hid (C3.out.below b4)
      have B4 := Lib.hid (stepB B3.out b4)
      have O4 := Lib.hid (o4 : OutB w4 _ v4 _)
      clear b3 b4 y3 o4 A2 C2 B2 A3 C3 B3
      go_wp2_with fail
      refine (copyrow_any a' n cap' b' off' kf' nf' sf' r1 _ HA'.out C4.out).mono ?_
      rintro x w5 ⟨g5, c5, rfl, y5, b5⟩
      have A5 := Lib.hid (A4.out.below b5)
      have C5 := Lib.hid (C4.out.below b5)
      have B5 := Lib.hid (stepB B4.out b5)
      have O5 := Lib.hid (O4.out.below b5)
      go_wp2_with fail
      refine (enc_any (some ⟨g5, 0, none⟩) g5 0 n c5 kf' nf' sf' (by omega) w5 (.inr rfl) y5 HR'.out).mono ?_
      rintro x w6 ⟨v6, rfl, o6, b6⟩
      have A6 := Lib.hid (A5.out.below b6)
      have C6 := Lib.hid (C5.out.below b6)
      have B6 := Lib.hid (stepB B5.out b6)
      obtain ⟨a1, g1, c1, rfl, f1, i1, -, -⟩ := (O5.out.below b6).form HK8.out
      obtain ⟨a2, g2, c2, rfl, f2, i2, -, -⟩ := o6.form HK8'.out
      have ho := refOrder_any a1 a2 g1 0 c1 g2 0 c2 (keyB kf nf sf m) (keyB kf' nf' sf' n) (by unfold maxLen; omega) (by unfold maxLen; omega) w6 f1 f2 i1 i2
      rw [HKO.out] at ho
      have HO := Lib.hid ho
      have F1 := Lib.hid f1
      have I1 := Lib.hid i1
      clear b5 b6 y5 o6 ho f1 i1 f2 i2 A4 C4 B4 O4 A5 C5 B5 O5
      go_wp2_with fail
      refine HO.out.mono ?_
      rintro x w7 ⟨rfl, b7⟩
      have A7 := Lib.hid (A6.out.below b7)
      have C7 := Lib.hid (C6.out.below b7)
      have B7 := Lib.hid (stepB B6.out b7)
      have I7 := Lib.hid (I1.out.below b7)
      clear b7 A6 C6 B6 I1 HO
      go_wp2_with fail
      refine (HRW.out _ A7.out C7.out).mono ?_
      rintro x w8 ⟨rfl, b8⟩
      have A8 := Lib.hid (A7.out.below b8)
      have B8 := Lib.hid (stepB B7.out b8)
      have I8 := Lib.hid (I7.out.below b8)
      clear b8 A7 B7 I7 HRW
      by_cases hz : m = 0
      · subst hz
        go_wp2
        go_ret
        exact ⟨rfl, B8.out⟩
      · obtain ⟨p, rfl⟩ : ∃ p, m = p + 1 := ⟨m - 1, by omega⟩
        obtain rfl : a = some ⟨b, off, none⟩ := by rcases HA.out with h | h; omega; exact h
        have z1 : (((p + 1 : Nat) : Int) == 0) = false := by simp; omega
        have z2 : ((p : Int) + 1 == 0) = false := by simp; omega
        have z3 : ((p : Int) + 1 - 1) = (p : Int) := by omega
        have z4 : (p : Int) ≤ (cap : Int) := by omega
        have z5 : p ≤ cap := by omega
        go_wp2_with fail
        refine (copyrow_any (some ⟨b, off, none⟩) p cap b off kf nf sf (by omega) _ (.inr rfl) (A8.out.less (by omega))).mono ?_
        rintro x w9 ⟨g9, c9, rfl, y9, b9⟩
        have B9 := Lib.hid (stepB B8.out b9)
        have I9 := Lib.hid (I8.out.below b9)
        go_wp2_with fail
        refine (enc_any (some ⟨g9, 0, none⟩) g9 0 p c9 kf nf sf (by omega) w9 (.inr rfl) y9 (fun i hi => HR.out i (by omega))).mono ?_
        rintro x w10 ⟨v10, rfl, o10, b10⟩
        have B10 := Lib.hid (stepB B9.out b10)
        obtain ⟨a10, g10, c10, rfl, f10, i10, -, -⟩ := o10.form (fun x hx => HK8.out x (List.mem_append_left _ hx))
        have hlp : (keyB kf nf sf p).length ≤ (keyB kf nf sf (p + 1)).length := by
          show _ ≤ (keyB kf nf sf p ++ _).length
          rw [List.length_append]; omega
        have hbg := refBegins_any a1 a10 g1 0 c1 g10 0 c10 (keyB kf nf sf (p + 1)) (keyB kf nf sf p) (by unfold maxLen; omega) (by unfold maxLen; omega) w10 F1.out f10 (I9.out.below b10) i10
        rw [show decide ((keyB kf nf sf (p + 1)).take (keyB kf nf sf p).length = keyB kf nf sf p) = true from decide_eq_true (keys_begin kf nf sf p)] at hbg
        have HBG := Lib.hid hbg
        clear b9 y9 b10 o10 f10 i10 hbg hlp
        go_wp2_with (first | (go_at_call 20; refine HBG.out.mono ?_; rintro x w11 ⟨rfl, b11⟩; have W11 := Lib.hid (stepB B10.out b11); clear b11))
        go_ret
        exact ⟨rfl, W11.out⟩
    · have HT' := Lib.hid (fun w h => allright_any a' b' off' n cap' kf' nf' sf' (by omega) w HA'.out h HB'.out false ⟨fun h => absurd h (by decide), fun h => absurd h hr'⟩)
      clear hr hr'
      go_enter Try.func7, Try.ntmps7
      go_wp2_with fail
      refine (HS.out _).mono ?_
      rintro x w0 ⟨rfl, b0⟩
      have A0 := Lib.hid (hA.below b0)
      have C0 := Lib.hid (hA'.below b0)
      go_wp2_with fail
      refine (HT.out _ A0.out).mono ?_
      rintro x w1 ⟨rfl, b1⟩
      have C1 := Lib.hid (C0.out.below b1)
      have B1 := Lib.hid (stepB b0 b1)
      clear b0 b1
      go_wp2_with fail
      refine (HT'.out _ C1.out).mono ?_
      rintro x w2 ⟨rfl, b2⟩
      have B2 := Lib.hid (stepB B1.out b2)
      clear b2
      go_wp2
      go_ret
      exact ⟨rfl, B2.out⟩
  · have HT := Lib.hid (fun w h => allright_any a b off m cap kf nf sf (by omega) w HA.out h HB.out false ⟨fun h => absurd h (by decide), fun h => absurd h hr⟩)
    clear hr
    go_enter Try.func7, Try.ntmps7
    go_wp2_with fail
    refine (HS.out _).mono ?_
    rintro x w0 ⟨rfl, b0⟩
    have A0 := Lib.hid (hA.below b0)
    go_wp2_with fail
    refine (HT.out _ A0.out).mono ?_
    rintro x w1 ⟨rfl, b1⟩
    have B1 := Lib.hid (stepB b0 b1)
    clear b0 b1
    go_wp2
    go_ret
    exact ⟨rfl, B1.out⟩

set_option maxRecDepth 100000 in
theorem lifted (os : Os) (started : os.Started) (H : Type) (enc : TypeId × Value → H) (F : Stop.Interp) :
    ReturnsInHanded {} Try.checked os 7 .any ((Rows.OpenSpec.upto Rows.keysOrdersSpec).pre6 enc Try.prog Try.f7 Rows.keysOrdersUptoRow.domain false) (((Rows.OpenSpec.upto Rows.keysOrdersSpec).at F).post enc Try.prog Try.f7 false true false false) := by
  refine returnsInHanded_of_cond (C := Try.checked) (s := Rows.OpenSpec.upto Rows.keysOrdersSpec) (k := Rows.uptoSmall) rfl own started (by kernel_rfl) Try.func7
    (OpenSpec.witness (enc := enc) (C := Try.checked) (s := Rows.OpenSpec.upto Rows.keysOrdersSpec) (k := Rows.uptoSmall) rfl false ⟨#[], #[.slice none 0 0, .slice none 0 0], []⟩ 8 (by kernel_rfl) (by kernel_rfl) (by kernel_rfl)
      (x := ([.nil, .nil], [], [])) (by kernel_rfl) rfl (by kernel_rfl)) ?_
  intro W base args ds gs before hval0 hW _ hk0 _
  have hval : ∀ (j : Nat) t v, Try.f7.params[j]? = some t → args[j]? = some v → Value.okWide Try.prog W .any base t v := hval0
  have hW' := hW
  obtain ⟨p, q, hA0, hV, rfl, hfz, hnd⟩ := hW
  have hA : DataW.TrodAll enc Try.prog W 0 (fun _ => true) true Try.f7.params.toList args.toList ds p := hA0
  rw [Try.params7] at hA hval
  obtain ⟨v0, vs0, d0, ds0, p0, q0, hargs, rfl, rfl, h0, r0⟩ := trodAll_cons hA
  obtain ⟨v1, vs1, d1, ds1, p1, q1, rfl, rfl, rfl, h1, r1⟩ := trodAll_cons r0
  obtain ⟨rfl, rfl, rfl⟩ := trodAll_nil r1
  obtain rfl : args = #[v0, v1] := by cases args; simp_all
  obtain ⟨rfl, rfl⟩ := trodVars_none hV
  have hk : Rows.uptoSmall H [d0, d1] = true := hk0
  have lt0 : ∀ x ∈ p0, x.block < W.heap.size := by obtain ⟨m, hm⟩ := h0; exact DataW.trod_lt m _ _ _ hm
  have lt1 : ∀ x ∈ p1, x.block < W.heap.size := by obtain ⟨m, hm⟩ := h1; exact DataW.trod_lt m _ _ _ hm
  refine (walk (enc := enc) base v0 d0 p0 v1 d1 p1 W (hval 0 22 v0 rfl rfl) h0 (hval 1 22 v1 rfl rfl) h1 hk).mono fun e W' ⟨he, bel⟩ => ?_
  subst he
  exact ⟨_, rfl, _, _, _, [], _, [], hW', trodAll_mk1 (shut_bool Try.underlying4 _), (trodAll_cons_mk (Below.trod laidOut (by kernel_rfl) (of_decide_eq_true (by kernel_rfl)) h0 bel lt0) (trodAll_cons_mk (Below.trod laidOut (by kernel_rfl) (of_decide_eq_true (by kernel_rfl)) h1 bel lt1) trodAll_mk0)), rfl, bel.frame _, fun h => by cases h⟩

theorem over : Rows.keysOrdersUptoRow.holds Try.pinned (Rows.OpenSpec.upto Rows.keysOrdersSpec) :=
  OpenClaim.holds_of_cond 7 Try.f7 rfl rfl rfl rfl rfl rfl rfl ⟨rfl, rfl, rfl, rfl, rfl⟩ rfl rfl rfl rfl rfl (by kernel_rfl) Try.func7 (by kernel_rfl)
    (of_decide_eq_true (by kernel_rfl)) (by unfold Func.isWrapper; first | (rw [if_pos (by decide +kernel)]; kernel_rfl) | (rw [if_neg (by decide +kernel)]; exact ⟨rfl, rfl⟩))
    (fun os started H enc _ F => lifted os started H enc F)

theorem proved : Rows.KeysOrdersUptoSaid :=
  over
end Go.Proofs.Ytpknoclnmhomiaa.keysOrders
