/-
  ArithSound answers true at any operator and any list of values: what Type says holds of Do.
  Conditions: none but the row's own.
-/
import Derived.Test.YtoghiebgffkhcaaAri14
import Derived.Test.YtoghiebgffkhcaaRows
import Derived.WalkKit
import Derived.ProofKit
import Derived.OpenShut
import Derived.ShutString
import Derived.ChangeOld
import Derived.Below
import Derived.Carry
import Derived.SizedLaws
namespace Go.Proofs.Ytoghiebgffkhcaa.arithSound
open Go.ChangeShapes Go.WideShapes Go.ChangeAt Go.RowKit
open Go.Joins
set_option linter.unusedVariables false

theorem own : ownKnob Try.prog.godebug = none := by kernel_rfl
theorem laidOut : laidOutB Try.prog = true := by kernel_rfl

theorem bytesV : Try.prog.bytesOf 25 = 32 := by kernel_rfl
theorem reachV {H : Type} {ts : List TypeId} {ds : List (DataW H)} (hz : (DataW.weightsEach Try.prog ts ds).all (· ≤ reachBytes) = true) {j m cap : Nat} {d : DataW H} (ht : ts[j]? = some 23) (hj : ds[j]? = some d) (hl : m ≤ cap)
    (hd : (d = .nil ∧ m = 0) ∨ ∃ es sp, d = .slice es sp ∧ es.length + sp.length = cap) : m * 32 ≤ 140737488351232 := by
  rcases hd with ⟨-, rfl⟩ | ⟨es, sp, rfl, e⟩
  · omega
  · have := sized_slice hz ht hj Try.underlying23
    rw [bytesV, e] at this
    unfold reachBytes at this
    omega

theorem own_below {w w' : World} {base : Nat} {e : TypeId} {size : Nat} {v : Value} {n : Nat} {xs : List Value} (h : w.ownsRow base e size v n xs) (hb : Below w.heap.size w w') : w'.ownsRow base e size v n xs :=
  h.kept (row := none) ⟨hb.os, hb.tape, hb.output, hb.size, fun i hi _ => hb.block i hi⟩ (by cases v.ownBlock <;> simp)

theorem sound_fin {op : Int} {m : Nat} {ka na : Int} {sa : ByteArray} {kb nb : Int} {sb : ByteArray} {T : Int} {R : Int × Int × ByteArray × Int} (hT : tyV op m ka kb = T) (hR : doV op m ka na sa kb nb sb = R) :
    T = 0 ∨ ((T != 0) = true ∧ (R.2.2.2 != 30) = true ∧ ((R.2.2.2 != 0) = true ∨ R.2.2.2 = 0 ∧ (R.1 = 0 ∨ (R.1 == 0) = false ∧ R.1 = T))) := by
  by_cases h : T = 0
  · exact .inl h
  · right
    obtain ⟨h1, h2⟩ := do_sound op m ka na sa kb nb sb (by rw [hT]; exact h) R hR
    rw [hT] at h2
    refine ⟨by simpa using h, by simpa using h1, ?_⟩
    by_cases e : R.2.2.2 = 0
    · right
      refine ⟨e, ?_⟩
      by_cases q : R.1 = 0
      · exact .inl q
      · right
        exact ⟨by simpa using q, by omega⟩
    · left; simpa using e

set_option maxHeartbeats 8000000 in
theorem walk {H : Type} {enc : TypeId × Value → H} (base : Nat) (v0 : Value) (d0 : DataW H) (p0 : List MemPlace) (v1 : Value) (d1 : DataW H) (p1 : List MemPlace) (W : World)
    (o0 : Value.okWide Try.prog W .any base 3 v0) (h0 : DataW.Trod enc Try.prog W 0 (fun _ => true) true 3 v0 d0 p0)
    (o1 : Value.okWide Try.prog W .any base 23 v1) (h1 : DataW.Trod enc Try.prog W 0 (fun _ => true) true 23 v1 d1 p1)
    (hz : (DataW.weightsEach Try.prog [3, 23] [d0, d1]).all (· ≤ reachBytes) = true) :
    Calls Try.prog 6 #[v0, v1] W fun e w' => e = .returned (.bool true) ∧ Below W.heap.size W w' := by
  obtain ⟨op, rfl, -, -, -⟩ := open_int Try.underlying3 o0 h0
  obtain ⟨a, m, cap, b, off, kf, nf, sf, rfl, hl, hm, ha, hA, hB, hd⟩ := open_vals2 o1 h1
  have r0 := reachV hz (j := 1) rfl rfl hl hd
  have hm2 : m ≤ maxLen := Nat.le_trans hl hm
  have hm' : m ≤ 9223372036854775807 := by unfold maxLen at hm2; omega
  obtain ⟨i0, hi, hz0, hz1, hz2⟩ := info_parts infoI
  have HS := Lib.hid speaks3_any
  have HA := Lib.hid ha
  have HB := Lib.hid hB
  have HC := Lib.hid (fun k n s h g w => refcheck_any k n s h g w)
  clear hz hd o0 h0 o1 h1 hm ha hB
  unfold Vv at HC
  go_enter Try.func6, Try.ntmps6
  go_wp2_with fail
  refine (HS.out _).mono ?_
  rintro x w0 ⟨rfl, b0⟩
  go_wp2_with fail
  have hA0 := hA.below b0
  have hs0 := b0.size
  go_loopw [17, 5, 7] (fun i v q wr => ∃ k : Nat, k ≤ m ∧ i = .int .i64 k ∧ wr.ownsRow w0.heap.size 3 1 v k (icells kf k) ∧ Below w0.heap.size w0 wr ∧ v ≠ .slice none 0 0 ∧ Hid (∀ j, j < k → VCheck (kf j) (nf j) (sf j) = 0)) (fun i _ _ _ => m - (intOf i).toNat)
  case atStart =>
    exact ⟨0, Nat.zero_le _, rfl, World.ownsRow_made w0 #[] 0 (Nat.le_refl _) (by decide) rfl, (Below.refl _ _).alloc (Nat.le_refl _) _, by simp, fun j hj => absurd hj (by omega)⟩
  case round =>
    obtain ⟨k, hk, rfl, hown, hb, hne, HK⟩ := hrel
    by_cases hlt : k < m
    · obtain rfl : a = some ⟨b, off, none⟩ := by rcases HA.out with h | h; omega; exact h
      have hA' := hA0.below hb
      have a0 := hA'.c0 k hlt
      have a1 := hA'.c1 k hlt
      have a2 := hA'.c2 k hlt
      have hbl : b < wr.heap.size := hA'.hb (by omega)
      have hkm : (k : Int) < (m : Int) := by omega
      obtain ⟨i1, i2⟩ := HB.out k hlt
      obtain ⟨kk, ek⟩ : ∃ x, kf k = x := ⟨_, rfl⟩
      obtain ⟨nn, en⟩ : ∃ x, nf k = x := ⟨_, rfl⟩
      obtain ⟨ss, es⟩ : ∃ x, sf k = x := ⟨_, rfl⟩
      rw [ek] at a0
      rw [en] at a1 i1
      rw [es] at a2 i2
      have HN := Lib.hid (HC.out kk nn ss i1 i2)
      have EK := Lib.hid ek
      have EE := Lib.hid (show VCheck (kf k) (nf k) (sf k) = VCheck kk nn ss by rw [ek, en, es])
      have HO := Lib.hid hown
      have HBL := Lib.hid hb
      have hzr := hb.size
      clear hA' ek en es i1 i2 hown hb
      by_cases hv : VCheck kk nn ss = 0
      · have HV := Lib.hid hv
        rw [hv] at HN
        clear hv
        go_wp2_with fail
        refine (HN.out _).mono ?_
        rintro x w1 ⟨rfl, bc⟩
        obtain ⟨hc1, hf1⟩ := bcell bc
        have hz1' := bc.size
        have l1 : wr.heap.size < w1.heap.size := by simp at hz1'; omega
        have BW := Lib.hid (((Below.refl _ wr).alloc (Nat.le_refl _) (.cells #[.int .i64 kk, .int .i64 nn, .string ss] 25)).trans (bc.mono (by simp)))
        have c0 : w1.cell? ⟨wr.heap.size, 0, none⟩ = some (.int .i64 kk) := by rw [hc1 _ _ (by simp)]; go_simp
        have HB1 := Lib.hid (HBL.out.trans (BW.out.mono hzr))
        have q1 : ∀ j u, ([.int .i64 kk] : List Value)[j]? = some u → (w1.alloc (.cells #[.int .i64 kk] 3)).cell? ((⟨w1.heap.size, 0, none⟩ : Addr).add j) = some u := World.news_of_block (cs := #[.int .i64 kk]) (heap_alloc_new w1 _)
        have q2 : ∀ u ∈ ([.int .i64 kk] : List Value), u.oneCell' = true := by simp [Value.oneCell']
        have q3 : k + 1 ≤ maxLen := by unfold maxLen; omega
        have q4 : (k + 1) * 8 ≤ 140737488355328 := by omega
        have q5 : w0.heap.size ≤ (w1.alloc (.cells #[.int .i64 kk] 3)).heap.size := by simp; omega
        have HOW := Lib.hid ((own_below HO.out BW.out).alloc (.cells #[.int .i64 kk] 3))
        have Q1 := Lib.hid q1
        have Q2 := Lib.hid q2
        have Q5 := Lib.hid q5
        clear q1 q2 q5 hc1 hf1 a0 a1 a2 bc hz1' HO
        go_wp2_with (at_builtin; refine wpList_append_own _ rfl _ _ 35 rfl w0.heap.size 3 i0 _ 1 8 Try.underlying35 hi hz0 hz1 hz2 rfl (by decide) _ _ _ rfl HOW.out ⟨w1.heap.size, 0, none⟩ 1 1 [.int .i64 kk] rfl rfl Q1.out Q2.out q3 q4 Q5.out ?_; intro v' w2 hown1 hgrow hnil)
        have hb1 : Below w0.heap.size w0 w2 := (HB1.out.alloc HB1.out.size _).grown hgrow Q5.out (fun k' hk' => (HOW.out.lt k' hk').1)
        have hn : v' ≠ .slice none 0 0 := fun e => hne (hnil.1 e).1
        rw [← EK.out, icells_succ] at hown1
        have HK2 : Hid (∀ j, j < k + 1 → VCheck (kf j) (nf j) (sf j) = 0) := fun j hj => by
          by_cases c : j < k
          · exact HK.out j c
          · obtain rfl : j = k := by omega
            exact EE.out.trans HV.out
        clear hgrow hnil
        go_wp2_with fail
        go_roundw
        case rel => exact ⟨k + 1, by omega, by go_num, hown1, hb1, hn, HK2⟩
        case measure => simp [intOf]; omega
      · have hv' : (VCheck kk nn ss != 0) = true := by simpa using hv
        generalize VCheck kk nn ss = c at *
        clear hv
        go_wp2_with fail
        refine (HN.out _).mono ?_
        rintro x w1 ⟨rfl, bc⟩
        have BW := Lib.hid (((Below.refl _ wr).alloc (Nat.le_refl _) (.cells #[.int .i64 kk, .int .i64 nn, .string ss] 25)).trans (bc.mono (by simp)))
        have HB1 := Lib.hid (b0.trans ((HBL.out.trans (BW.out.mono hzr)).mono hs0))
        clear a0 a1 a2 bc
        go_wp2
        go_ret
        exact ⟨rfl, HB1.out⟩
    · obtain rfl : k = m := by omega
      obtain ⟨g, cap1, hv, x1⟩ := isI_of_owns hown hne
      subst hv
      have hsz : ∀ i, i < k → InI (nf i) ∧ (sf i).size ≤ 200 := fun i hi => ⟨(HB.out i hi).1, (vcheck_0 (HK.out i hi)).2.2.2.2⟩
      have hA1 := hA0.below hb
      have b01 := b0.trans (hb.mono hs0)
      obtain ⟨T, hT⟩ : ∃ T, tyV op k (kf 0) (kf (k - 1)) = T := ⟨_, rfl⟩
      obtain ⟨R, hR⟩ : ∃ R, doV op k (kf 0) (nf 0) (sf 0) (kf (k - 1)) (nf (k - 1)) (sf (k - 1)) = R := ⟨_, rfl⟩
      have hf := sound_fin hT hR
      have ht := type_all op (some ⟨g, 0, none⟩) g 0 k cap1 kf hm2 (.inr rfl) wr x1
      rw [hT] at ht
      have HF := Lib.hid hf
      have HT := Lib.hid ht
      have HR := Lib.hid hR
      have HZ := Lib.hid hsz
      have HA1 := Lib.hid hA1
      have B01 := Lib.hid b01
      clear hf ht hR hT hsz hA1 b01 hown hne x1 hb hA0 hA b0 HK
      go_wp2_with fail
      refine HT.out.mono ?_
      rintro x w1 ⟨rfl, rfl⟩
      go_wp2_with fail
      refine (copyrow_any a k cap b off kf nf sf r0 _ HA.out HA1.out).mono ?_
      rintro x w2 ⟨g2, gc, rfl, y2, b2⟩
      have hd2 := do_all op (some ⟨g2, 0, none⟩) g2 0 k gc kf nf sf hm2 (.inr rfl) HZ.out w2 y2 R HR.out
      have B02 := Lib.hid (B01.out.trans (b2.mono B01.out.size))
      obtain ⟨rk, rn, rs, re⟩ := R
      have HD := Lib.hid hd2
      have HF2 := Lib.hid HF.out
      clear hd2 b2 y2 HF
      go_wp2_with fail
      refine HD.out.mono ?_
      rintro x w3 ⟨rfl, b3⟩
      have B03 := Lib.hid (B02.out.trans (b3.mono B02.out.size))
      have BF := Lib.hid (B03.out.alloc B03.out.size (.cells #[.int .i64 rk, .int .i64 rn, .string rs] 25))
      clear b3 HT HR HZ HA1 B01 B02 HD
      have hfin : T = 0 ∨ ((T != 0) = true ∧ (re != 30) = true ∧ ((re != 0) = true ∨ re = 0 ∧ (rk = 0 ∨ (rk == 0) = false ∧ rk = T))) := HF2.out
      rcases hfin with rfl | ⟨t1, t2, t3 | ⟨rfl, rfl | ⟨t4, rfl⟩⟩⟩
      all_goals
        go_wp2
        go_ret
        exact ⟨rfl, BF.out⟩

set_option maxRecDepth 100000 in
theorem lifted (os : Os) (started : os.Started) (H : Type) (enc : TypeId × Value → H) :
    ReturnsInHanded {} Try.checked os 6 .any (Rows.arithSoundSpec.pre6 enc Try.prog Try.f6 Rows.arithSoundRow.domain false) (Rows.arithSoundSpec.post enc Try.prog Try.f6 false true false false) := by
  refine returnsInHanded_of_change_sized (C := Try.checked) own started (by kernel_rfl) Try.func6
    (ChangeSpec.witness6 (enc := enc) (C := Try.checked) false ⟨#[], #[.int .i64 0, .slice none 0 0], []⟩ 8 (by kernel_rfl) (by kernel_rfl) (by kernel_rfl) (by kernel_rfl)) ?_
  intro W base args ds gs before hval0 hW hcnd hsz0 _
  have hval : ∀ (j : Nat) t v, Try.f6.params[j]? = some t → args[j]? = some v → Value.okWide Try.prog W .any base t v := hval0
  have hW' := hW
  obtain ⟨p, q, hA0, hV, rfl, hfz, hnd⟩ := hW
  have hA : DataW.TrodAll enc Try.prog W 0 (fun _ => true) true Try.f6.params.toList args.toList ds p := hA0
  rw [Try.params6] at hA hval
  obtain ⟨v0, vs0, d0, ds0, p0, q0, hargs, rfl, rfl, h0, r0⟩ := trodAll_cons hA
  obtain ⟨v1, vs1, d1, ds1, p1, q1, rfl, rfl, rfl, h1, r1⟩ := trodAll_cons r0
  obtain ⟨rfl, rfl, rfl⟩ := trodAll_nil r1
  obtain rfl : args = #[v0, v1] := by cases args; simp_all
  obtain ⟨rfl, rfl⟩ := trodVars_none hV
  have hsz : (DataW.weightsEach Try.prog [3, 23] [d0, d1]).all (· ≤ reachBytes) = true := hsz0
  have lt0 : ∀ x ∈ p0, x.block < W.heap.size := by obtain ⟨m, hm⟩ := h0; exact DataW.trod_lt m _ _ _ hm
  have lt1 : ∀ x ∈ p1, x.block < W.heap.size := by obtain ⟨m, hm⟩ := h1; exact DataW.trod_lt m _ _ _ hm
  refine (walk (enc := enc) base v0 d0 p0 v1 d1 p1 W (hval 0 3 v0 rfl rfl) h0 (hval 1 23 v1 rfl rfl) h1 hsz).mono fun e W' ⟨he, bel⟩ => ?_
  subst he
  exact ⟨_, rfl, _, _, _, [], _, [], hW', trodAll_mk1 (shut_bool Try.underlying4 _), (trodAll_cons_mk (Below.trod laidOut (by kernel_rfl) (of_decide_eq_true (by kernel_rfl)) h0 bel lt0) (trodAll_cons_mk (Below.trod laidOut (by kernel_rfl) (of_decide_eq_true (by kernel_rfl)) h1 bel lt1) trodAll_mk0)), rfl, bel.frame _, fun h => by cases h⟩

theorem over : Rows.arithSoundRow.holds Try.pinned (OpenSpec.ofChange Rows.arithSoundSpec) :=
  OpenClaim.holds_of_wide 6 Try.f6 rfl rfl rfl rfl rfl rfl rfl ⟨rfl, rfl, rfl, rfl, rfl⟩ rfl rfl rfl rfl rfl (by kernel_rfl) Try.func6 (by kernel_rfl)
    (of_decide_eq_true (by kernel_rfl)) (by unfold Func.isWrapper; first | (rw [if_pos (by decide +kernel)]; kernel_rfl) | (rw [if_neg (by decide +kernel)]; exact ⟨rfl, rfl⟩))
    (fun os started H enc _ => lifted os started H enc)

theorem proved : Rows.ArithSoundSaid :=
  over
end Go.Proofs.Ytoghiebgffkhcaa.arithSound
