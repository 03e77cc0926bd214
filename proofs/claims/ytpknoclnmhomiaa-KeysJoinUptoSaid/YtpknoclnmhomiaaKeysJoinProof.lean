/-
  KeysJoin answers true at any two lists of values of a bulk of at most 1048576: the key of two right lists one behind the other is their keys one behind the other.
  Conditions: none but the row's own.
-/
import Derived.Test.YtpknoclnmhomiaaKl2
import Derived.Test.YtpknoclnmhomiaaRows
import Derived.WalkKit
import Derived.ProofKit
import Derived.OpenShut
import Derived.ShutString
import Derived.ChangeOld
import Derived.Below
import Derived.Carry
import Derived.JoinedCond
namespace Go.Proofs.Ytpknoclnmhomiaa.keysJoin
open Go.ChangeShapes Go.WideShapes Go.ChangeAt Go.RowKit
open Go.Joins
set_option linter.unusedVariables false

theorem own : ownKnob Try.prog.godebug = none := by kernel_rfl
theorem laidOut : laidOutB Try.prog = true := by kernel_rfl

theorem strB_app (l r : List Nat) : strB (l ++ r) = strB l ++ strB r := by
  have h : (strB (l ++ r)).data = (strB l ++ strB r).data := by
    apply Array.toList_inj.1
    rw [strB_data, ByteArray.data_append, Array.toList_append, strB_data, strB_data, List.map_append]
  cases hs : strB (l ++ r) with
  | mk d =>
    rw [hs] at h
    cases ht : (strB l ++ strB r) with
    | mk e => rw [ht] at h; simp at h; rw [h]
theorem strB_app_size (l : List Nat) : (strB l).size = l.length := strB_size l

set_option maxHeartbeats 8000000 in
theorem walk {H : Type} {enc : TypeId × Value → H} (base : Nat) (v0 : Value) (d0 : DataW H) (p0 : List MemPlace) (v1 : Value) (d1 : DataW H) (p1 : List MemPlace) (W : World)
    (o0 : Value.okWide Try.prog W .any base 22 v0) (h0 : DataW.Trod enc Try.prog W 0 (fun _ => true) true 22 v0 d0 p0)
    (o1 : Value.okWide Try.prog W .any base 22 v1) (h1 : DataW.Trod enc Try.prog W 0 (fun _ => true) true 22 v1 d1 p1)
    (hk : Rows.uptoSmall H [d0, d1] = true) :
    Calls Try.prog 9 #[v0, v1] W fun e w' => e = .returned (.bool true) ∧ Below W.heap.size W w' := by
  obtain ⟨a, m, cap, b, off, kf, nf, sf, rfl, hl, hm, ha, hA, hB, hN⟩ := open_vals3 o0 h0 (up_arg hk (by simp))
  obtain ⟨a', n, cap', b', off', kf', nf', sf', rfl, hl', hm', ha', hA', hB', hN'⟩ := open_vals3 o1 h1 (up_arg hk (by simp))
  have r0 : m * 32 ≤ 140737488351232 := by omega
  have r1 : n * 32 ≤ 140737488351232 := by omega
  have hmm : m ≤ 1048576 := by omega
  have hnn : n ≤ 1048576 := by omega
  have HS := Lib.hid speaks5_any
  have HA := Lib.hid ha
  have HA' := Lib.hid ha'
  have HB := Lib.hid hB
  have HB' := Lib.hid hB'
  have HN' := Lib.hid hN'
  clear o0 h0 o1 h1 hk ha hB hN ha' hB' hN' hl' hm'
  by_cases hr : ∀ i, i < m → VCheck (kf i) (nf i) (sf i) = 0
  · have HT := Lib.hid (fun w h => allright_any a b off m cap kf nf sf (by omega) w HA.out h HB.out true ⟨fun _ => hr, fun _ => rfl⟩)
    by_cases hr' : ∀ i, i < n → VCheck (kf' i) (nf' i) (sf' i) = 0
    · have HT' := Lib.hid (fun w h => allright_any a' b' off' n cap' kf' nf' sf' (by omega) w HA'.out h HB'.out true ⟨fun _ => hr', fun _ => rfl⟩)
      have hri := (fun i (hi : i < m) => And.intro (hr i hi) (HB.out i hi).1)
      have hri' := (fun i (hi : i < n) => And.intro (hr' i hi) (HB'.out i hi).1)
      obtain ⟨L, hL⟩ : ∃ L, vlist kf nf sf m ++ vlist kf' nf' sf' n = L := ⟨_, rfl⟩
      have hLl : L.length = m + n := by rw [← hL, List.length_append, vlist_length, vlist_length]
      have hLr : ∀ i, i < L.length → VCheck (kF L i) (nF L i) (sF L i) = 0 ∧ InI (nF L i) := by
        intro i hi
        have hx : L[i]'hi ∈ L := List.getElem_mem _
        have hrv : RV (L[i]'hi) := by
          have h2 : ∀ v ∈ L, RV v := by
            intro v hv
            rw [← hL] at hv
            rcases List.mem_append.1 hv with h | h
            · exact vlist_mem _ _ _ _ hri v h
            · exact vlist_mem _ _ _ _ hri' v h
          exact h2 _ hx
        have e : L.getD i (0, 0, Em) = L[i]'hi := by simp [List.getD_eq_getElem?_getD, List.getElem?_eq_getElem hi]
        unfold kF nF sF
        rw [e]
        exact hrv
      have hLk : keyB (kF L) (nF L) (sF L) L.length = keyB kf nf sf m ++ keyB kf' nf' sf' n := by rw [keyB_L, ← hL, keyL_app, ← keyB_list, ← keyB_list]
      have hkl := keyB_le kf nf sf m (fun i hi => (vck (hr i hi)).2.2.2.2)
      have hkl' := keyB_le kf' nf' sf' n (fun i hi => (vck (hr' i hi)).2.2.2.2)
      have HR := Lib.hid hri
      have HR' := Lib.hid hri'
      have HLR := Lib.hid hLr
      have HLK := Lib.hid hLk
      have HL := Lib.hid hL
      clear hr hr' hri hri' hLr hLk hL
      go_enter Try.func9, Try.ntmps9
      go_wp2_with fail
      refine (HS.out _).mono ?_
      rintro x w0 ⟨rfl, b0⟩
      have A0 := Lib.hid (hA.below b0)
      have C0 := Lib.hid (hA'.below b0)
      go_wp2_with fail
      refine (HT.out _ A0.out).mono ?_
      rintro x w1 ⟨rfl, b1⟩
      have A1 := Lib.hid (A0.out.below b1)
      have C1 := Lib.hid (C0.out.below b1)
      have B1 := Lib.hid (stepB b0 b1)
      clear b0 b1 A0 C0
      go_wp2_with fail
      refine (HT'.out _ C1.out).mono ?_
      rintro x w2 ⟨rfl, b2⟩
      have A2 := Lib.hid (A1.out.below b2)
      have C2 := Lib.hid (C1.out.below b2)
      have B2 := Lib.hid (stepB B1.out b2)
      clear b2 A1 C1 B1 HT HT' HS
      go_wp2_with fail
      refine (copyrow_own a m cap b off kf nf sf r0 _ HA.out A2.out).mono ?_
      rintro x w3 ⟨v3, rfl, o3, b3⟩
      have E3 := Lib.hid (show EnV w2 w3 w2.heap.size v3 (vlist kf nf sf m) from ⟨o3, b3, b3.size⟩)
      have C3 := Lib.hid (C2.out.below b3)
      clear o3 b3
      go_wp2_with (first | (at_builtin; refine wp_copyAV rfl _ _ rfl w2.heap.size _ _ rfl E3.out.own a' n _ rfl b' off' kf' nf' sf' HN'.out C3.out (by rw [vlist_length]; omega) E3.out.sz ?_; intro v4 w4 hown4 hgrow4; have E4 := Lib.hid (E3.out.push hown4 hgrow4); clear hgrow4 hown4) | fail)
      have hown := E4.out.own
      rw [HL.out] at hown
      obtain ⟨gJ, cJ, rfl, hgJ, iJ⟩ := hown.isV
      have IJ := Lib.hid iJ
      have A4 := Lib.hid (A2.out.below E4.out.bel)
      have C4 := Lib.hid (C2.out.below E4.out.bel)
      have W4 := Lib.hid (stepB B2.out E4.out.bel)
      have hsA : (strB (keyB kf nf sf m)).size ≤ 536870912 := by rw [strB_size]; omega
      have hsB : (strB (keyB kf' nf' sf' n)).size ≤ 536870912 := by rw [strB_size]; omega
      have hst := strB_app (keyB kf nf sf m) (keyB kf' nf' sf' n)
      have he := (fun w' (h : Below w4.heap.size w4 w') => (enc_any (some ⟨gJ, 0, none⟩) gJ 0 L.length cJ (kF L) (nF L) (sF L) (by omega) w' (.inr rfl) (IJ.out.below h) HLR.out).mono (fun e w'' (h : ∃ v, e = .returned v ∧ OutB w'' w'.heap.size v (keyB (kF L) (nF L) (sF L) L.length) ∧ Below w'.heap.size w' w'') => by
        obtain ⟨v, h1, h2, h3⟩ := h
        rw [HLK.out] at h2
        have h4 := h2.cvs
        rw [hst] at h4
        exact (⟨v, h1, h4, h3⟩ : ∃ v, e = .returned v ∧ CvS w'' v (strB (keyB kf nf sf m) ++ strB (keyB kf' nf' sf' n)) ∧ Below w'.heap.size w' w'')))
      simp only [hLl] at he
      have HE := Lib.hid he
      clear he
      have HCa := Lib.hid (fun w' (h : Below w4.heap.size w4 w') => copyrow_any a m cap b off kf nf sf r0 w' HA.out (A4.out.below h))
      have HCb := Lib.hid (fun w' (h : Below w4.heap.size w4 w') => copyrow_any a' n cap' b' off' kf' nf' sf' r1 w' HA'.out (C4.out.below h))
      have HEa := Lib.hid (fun w' g c (y : IsV w' g 0 m kf nf sf) => (enc_any (some ⟨g, 0, none⟩) g 0 m c kf nf sf (by omega) w' (.inr rfl) y HR.out).mono (fun e w'' (h : ∃ v, e = .returned v ∧ OutB w'' w'.heap.size v (keyB kf nf sf m) ∧ Below w'.heap.size w' w'') => (⟨h.choose, h.choose_spec.1, h.choose_spec.2.1.cvs, h.choose_spec.2.2⟩ : ∃ v, e = .returned v ∧ CvS w'' v (strB (keyB kf nf sf m)) ∧ Below w'.heap.size w' w'')))
      have HEb := Lib.hid (fun w' g c (y : IsV w' g 0 n kf' nf' sf') => (enc_any (some ⟨g, 0, none⟩) g 0 n c kf' nf' sf' (by omega) w' (.inr rfl) y HR'.out).mono (fun e w'' (h : ∃ v, e = .returned v ∧ OutB w'' w'.heap.size v (keyB kf' nf' sf' n) ∧ Below w'.heap.size w' w'') => (⟨h.choose, h.choose_spec.1, h.choose_spec.2.1.cvs, h.choose_spec.2.2⟩ : ∃ v, e = .returned v ∧ CvS w'' v (strB (keyB kf' nf' sf' n)) ∧ Below w'.heap.size w' w'')))
      generalize strB (keyB kf nf sf m) = sA at *
      generalize strB (keyB kf' nf' sf' n) = sB at *
      have hsz : sA.size + sB.size ≤ 9223372036854775807 := by omega
      have hs := Below.refl w4.heap.size w4
      clear hown hgJ iJ E3 E4 C3 A2 C2 B2 hst hsA hsB HLK HL HLR
      have hs1 := hs.drew
      go_region_with (first
          | (go_at_call_of 13 cap'; refine (HCb.out _ ?_).mono ?_; assumption; rintro x wCb ⟨gB, cB, rfl, yB, hbx⟩; have hsn := stepB (show Below w4.heap.size w4 _ by assumption) hbx; have qA1 := CvS.step qA hbx; have cA1 := CvS.now qA1; have qE3 := CvS.step qE2 hbx; have cE3 := CvS.now qE3)
          | (go_at_call_of 13 cap; refine (HCa.out _ ?_).mono ?_; assumption; rintro x wCa ⟨gA, cA, rfl, yA, hbx⟩; have hsn := stepB (show Below w4.heap.size w4 _ by assumption) hbx; have qE1 := CvS.step qE hbx; have cE1 := CvS.now qE1)
          | (go_at_call_of 12 gB; refine (HEb.out _ gB cB yB).mono ?_; rintro x wEb ⟨vB, rfl, qB, hbx⟩; have hsn := stepB (show Below w4.heap.size w4 _ by assumption) hbx; have cB0 := CvS.now qB; have qA2 := CvS.step qA1 hbx; have cA2 := CvS.now qA2; have qE4 := CvS.step qE3 hbx; have cE4 := CvS.now qE4)
          | (go_at_call_of 12 gA; refine (HEa.out _ gA cA yA).mono ?_; rintro x wEa ⟨vA, rfl, qA, hbx⟩; have hsn := stepB (show Below w4.heap.size w4 _ by assumption) hbx; have cA0 := CvS.now qA; have qE2 := CvS.step qE1 hbx; have cE2 := CvS.now qE2)
          | (go_at_call_of 12 gJ; refine (HE.out _ ?_).mono ?_; assumption; rintro x wE ⟨vE, rfl, qE, hbx⟩; have hsn := stepB (show Below w4.heap.size w4 _ by assumption) hbx; have cE := CvS.now qE))
      all_goals
        go_wp2
        go_ret
        exact ⟨rfl, W4.out.trans (Below.mono (B := w4.heap.size) (by assumption) W4.out.size)⟩
    · have HT' := Lib.hid (fun w h => allright_any a' b' off' n cap' kf' nf' sf' (by omega) w HA'.out h HB'.out false ⟨fun h => absurd h (by decide), fun h => absurd h hr'⟩)
      clear hr hr'
      go_enter Try.func9, Try.ntmps9
      go_wp2_with fail
      refine (HS.out _).mono ?_
      rintro x w0 ⟨rfl, b0⟩
      have A0 := Lib.hid (hA.below b0)
      have C0 := Lib.hid (hA'.below b0)
      go_wp2_with fail
      refine (HT.out _ A0.out).mono ?_
      rintro x w1 ⟨rfl, b1⟩
      have C1 := Lib.hid (C0.out.below b1)
      have B1 := Lib.hid (stepB b0 b1)
      clear b0 b1
      go_wp2_with fail
      refine (HT'.out _ C1.out).mono ?_
      rintro x w2 ⟨rfl, b2⟩
      have B2 := Lib.hid (stepB B1.out b2)
      clear b2
      go_wp2
      go_ret
      exact ⟨rfl, B2.out⟩
  · have HT := Lib.hid (fun w h => allright_any a b off m cap kf nf sf (by omega) w HA.out h HB.out false ⟨fun h => absurd h (by decide), fun h => absurd h hr⟩)
    clear hr
    go_enter Try.func9, Try.ntmps9
    go_wp2_with fail
    refine (HS.out _).mono ?_
    rintro x w0 ⟨rfl, b0⟩
    have A0 := Lib.hid (hA.below b0)
    go_wp2_with fail
    refine (HT.out _ A0.out).mono ?_
    rintro x w1 ⟨rfl, b1⟩
    have B1 := Lib.hid (stepB b0 b1)
    clear b0 b1
    go_wp2
    go_ret
    exact ⟨rfl, B1.out⟩

set_option maxRecDepth 100000 in
theorem lifted (os : Os) (started : os.Started) (H : Type) (enc : TypeId × Value → H) (F : Stop.Interp) :
    ReturnsInHanded {} Try.checked os 9 .any ((Rows.OpenSpec.upto Rows.keysJoinSpec).pre6 enc Try.prog Try.f9 Rows.keysJoinUptoRow.domain false) (((Rows.OpenSpec.upto Rows.keysJoinSpec).at F).post enc Try.prog Try.f9 false true false false) := by
  refine returnsInHanded_of_cond (C := Try.checked) (s := Rows.OpenSpec.upto Rows.keysJoinSpec) (k := Rows.uptoSmall) rfl own started (by kernel_rfl) Try.func9
    (OpenSpec.witness (enc := enc) (C := Try.checked) (s := Rows.OpenSpec.upto Rows.keysJoinSpec) (k := Rows.uptoSmall) rfl false ⟨#[], #[.slice none 0 0, .slice none 0 0], []⟩ 8 (by kernel_rfl) (by kernel_rfl) (by kernel_rfl)
      (x := ([.nil, .nil], [], [])) (by kernel_rfl) rfl (by kernel_rfl)) ?_
  intro W base args ds gs before hval0 hW _ hk0 _
  have hval : ∀ (j : Nat) t v, Try.f9.params[j]? = some t → args[j]? = some v → Value.okWide Try.prog W .any base t v := hval0
  have hW' := hW
  obtain ⟨p, q, hA0, hV, rfl, hfz, hnd⟩ := hW
  have hA : DataW.TrodAll enc Try.prog W 0 (fun _ => true) true Try.f9.params.toList args.toList ds p := hA0
  rw [Try.params9] at hA hval
  obtain ⟨v0, vs0, d0, ds0, p0, q0, hargs, rfl, rfl, h0, r0⟩ := trodAll_cons hA
  obtain ⟨v1, vs1, d1, ds1, p1, q1, rfl, rfl, rfl, h1, r1⟩ := trodAll_cons r0
  obtain ⟨rfl, rfl, rfl⟩ := trodAll_nil r1
  obtain rfl : args = #[v0, v1] := by cases args; simp_all
  obtain ⟨rfl, rfl⟩ := trodVars_none hV
  have hk : Rows.uptoSmall H [d0, d1] = true := hk0
  have lt0 : ∀ x ∈ p0, x.block < W.heap.size := by obtain ⟨m, hm⟩ := h0; exact DataW.trod_lt m _ _ _ hm
  have lt1 : ∀ x ∈ p1, x.block < W.heap.size := by obtain ⟨m, hm⟩ := h1; exact DataW.trod_lt m _ _ _ hm
  refine (walk (enc := enc) base v0 d0 p0 v1 d1 p1 W (hval 0 22 v0 rfl rfl) h0 (hval 1 22 v1 rfl rfl) h1 hk).mono fun e W' ⟨he, bel⟩ => ?_
  subst he
  exact ⟨_, rfl, _, _, _, [], _, [], hW', trodAll_mk1 (shut_bool Try.underlying4 _), (trodAll_cons_mk (Below.trod laidOut (by kernel_rfl) (of_decide_eq_true (by kernel_rfl)) h0 bel lt0) (trodAll_cons_mk (Below.trod laidOut (by kernel_rfl) (of_decide_eq_true (by kernel_rfl)) h1 bel lt1) trodAll_mk0)), rfl, bel.frame _, fun h => by cases h⟩

theorem over : Rows.keysJoinUptoRow.holds Try.pinned (Rows.OpenSpec.upto Rows.keysJoinSpec) :=
  OpenClaim.holds_of_cond 9 Try.f9 rfl rfl rfl rfl rfl rfl rfl ⟨rfl, rfl, rfl, rfl, rfl⟩ rfl rfl rfl rfl rfl (by kernel_rfl) Try.func9 (by kernel_rfl)
    (of_decide_eq_true (by kernel_rfl)) (by unfold Func.isWrapper; first | (rw [if_pos (by decide +kernel)]; kernel_rfl) | (rw [if_neg (by decide +kernel)]; exact ⟨rfl, rfl⟩))
    (fun os started H enc _ F => lifted os started H enc F)

theorem proved : Rows.KeysJoinUptoSaid :=
  over
end Go.Proofs.Ytpknoclnmhomiaa.keysJoin
