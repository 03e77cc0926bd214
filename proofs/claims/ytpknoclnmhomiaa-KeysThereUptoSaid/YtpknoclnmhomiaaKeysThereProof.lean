/-
  KeysThere answers true at any list of values of a bulk of at most 1048576: a right list's key is read as that list, but 0 for a real -0.
  Conditions: none but the row's own.
-/
import Derived.Test.YtpknoclnmhomiaaKl1
import Derived.Test.YtpknoclnmhomiaaRows
import Derived.WalkKit
import Derived.ProofKit
import Derived.OpenShut
import Derived.ShutString
import Derived.ChangeOld
import Derived.Below
import Derived.Carry
import Derived.JoinedCond
namespace Go.Proofs.Ytpknoclnmhomiaa.keysThere
open Go.ChangeShapes Go.WideShapes Go.ChangeAt Go.RowKit
open Go.Joins
set_option linter.unusedVariables false

theorem own : ownKnob Try.prog.godebug = none := by kernel_rfl
theorem laidOut : laidOutB Try.prog = true := by kernel_rfl

theorem veq_self' (k n : Int) (s : ByteArray) : veq k n s k n s = true := by unfold veq; simp

set_option maxHeartbeats 4000000 in
theorem walk {H : Type} {enc : TypeId × Value → H} (base : Nat) (v0 : Value) (d0 : DataW H) (p0 : List MemPlace) (W : World)
    (o0 : Value.okWide Try.prog W .any base 22 v0) (h0 : DataW.Trod enc Try.prog W 0 (fun _ => true) true 22 v0 d0 p0)
    (hk : Rows.uptoSmall H [d0] = true) :
    Calls Try.prog 5 #[v0] W fun e w' => e = .returned (.bool true) ∧ Below W.heap.size W w' := by
  obtain ⟨a, m, cap, b, off, kf, nf, sf, rfl, hl, hm, ha, hA, hB, hN⟩ := open_vals3 o0 h0 (up_arg hk (by simp))
  have r0 : m * 32 ≤ 140737488351232 := by omega
  have HS := Lib.hid speaks5_any
  have HA := Lib.hid ha
  have HB := Lib.hid hB
  clear o0 h0 hk ha hB hN
  by_cases hr : ∀ i, i < m → VCheck (kf i) (nf i) (sf i) = 0
  · have hri := (fun i (hi : i < m) => And.intro (hr i hi) (HB.out i hi).1)
    have hdk : decK (keyB kf nf sf m) = ((vlist kf nf sf m).map canV, 0) := by
      rw [keyB_list]
      exact dec_key _ (vlist_mem _ _ _ _ hri)
    have hkl := keyB_le kf nf sf m (fun i hi => (vck (hr i hi)).2.2.2.2)
    have hk8 := keyB_lt kf nf sf m (fun i hi => ⟨(vck (hr i hi)).1, (vck (hr i hi)).2.1⟩)
    have HR := Lib.hid hri
    have HT := Lib.hid (fun w h => allright_any a b off m cap kf nf sf (by omega) w HA.out h HB.out true ⟨fun _ => hr, fun _ => rfl⟩)
    have HDK := Lib.hid hdk
    have HK8 := Lib.hid hk8
    clear hr hri hdk hk8
    go_enter Try.func5, Try.ntmps5
    go_wp2_with fail
    refine (HS.out _).mono ?_
    rintro x w0 ⟨rfl, b0⟩
    have A0 := Lib.hid (hA.below b0)
    go_wp2_with fail
    refine (HT.out _ A0.out).mono ?_
    rintro x w1 ⟨rfl, b1⟩
    have A1 := Lib.hid (A0.out.below b1)
    have B1 := Lib.hid (stepB b0 b1)
    clear b0 b1 A0
    go_wp2_with fail
    refine (copyrow_any a m cap b off kf nf sf r0 _ HA.out A1.out).mono ?_
    rintro x w2 ⟨g, gc, rfl, y2, b2⟩
    have A2 := Lib.hid (A1.out.below b2)
    have B2 := Lib.hid (stepB B1.out b2)
    go_wp2_with fail
    refine (enc_any (some ⟨g, 0, none⟩) g 0 m gc kf nf sf (by omega) w2 (.inr rfl) y2 HR.out).mono ?_
    rintro x w3 ⟨v3, rfl, o3, b3⟩
    have A3 := Lib.hid (A2.out.below b3)
    have B3 := Lib.hid (stepB B2.out b3)
    obtain ⟨a3, g3, c3, rfl, f3, i3, k3, k4⟩ := o3.form HK8.out
    have hd := (dec_any a3 g3 0 c3 (keyB kf nf sf m) k3 k4 (by omega) w3 f3 i3).mono (fun e w' h => DecR.form h (decK_err _))
    rw [HDK.out] at hd
    have HD := Lib.hid hd
    clear b2 b3 y2 o3 f3 i3 hd A1 A2 B1 B2
    go_wp2_with fail
    refine HD.out.mono ?_
    rintro x w4 ⟨a4, g4, c4, rfl, f4, i4, -, b4⟩
    have hlen : ((vlist kf nf sf m).map canV).length = m := by rw [List.length_map, vlist_length]
    have A4 := Lib.hid (A3.out.below b4)
    have B4 := Lib.hid (stepB B3.out b4)
    have hat : ∀ i, i < m → kF ((vlist kf nf sf m).map canV) i = kf i ∧ nF ((vlist kf nf sf m).map canV) i = (if kf i = 3 ∧ nf i = -9223372036854775808 then 0 else nf i) ∧ sF ((vlist kf nf sf m).map canV) i = sf i := by
      intro i hi
      have e : ((vlist kf nf sf m).map canV).getD i (0, 0, Em) = canV (kf i, nf i, sf i) := by
        unfold vlist
        simp [List.getD_eq_getElem?_getD, List.getElem?_map, List.getElem?_range hi]
      unfold kF nF sF
      rw [e]
      exact ⟨rfl, rfl, rfl⟩
    rw [hlen] at i4 f4 ⊢
    have HI4 := Lib.hid (i4 : IsV w4 g4 0 m _ _ _)
    have HAT := Lib.hid hat
    have F4 := Lib.hid f4
    clear i4 hat f4 b4 A3 B3 HD HT HS
    generalize kF ((vlist kf nf sf m).map canV) = kq at *
    generalize nF ((vlist kf nf sf m).map canV) = nq at *
    generalize sF ((vlist kf nf sf m).map canV) = sq at *
    go_wp2
    go_loopw [30] (fun i wr => ∃ k : Nat, k ≤ m ∧ i = .int .i64 k ∧ Below w4.heap.size w4 wr) (fun i _ => m - (intOf i).toNat)
    case atStart => exact ⟨0, Nat.zero_le _, rfl, Below.refl _ _⟩
    case round =>
      obtain ⟨k, hk, rfl, hb⟩ := hrel
      by_cases hlt : k < m
      · obtain rfl : a = some ⟨b, off, none⟩ := by rcases HA.out with h | h; omega; exact h
        obtain rfl : a4 = some ⟨g4, 0, none⟩ := by rcases F4.out with h | h; omega; exact h
        have hkm : (k : Int) < (m : Int) := by omega
        have hA' := A4.out.below hb
        have hI' := HI4.out.below hb
        have a0 := hA'.c0 k hlt
        have a1 := hA'.c1 k hlt
        have a2 := hA'.c2 k hlt
        have d0 := hI'.c0 k hlt
        have d1 := hI'.c1 k hlt
        have d2 := hI'.c2 k hlt
        have l1 : g4 < wr.heap.size := hI'.hb (by omega)
        have l2 : b < wr.heap.size := hA'.hb (by omega)
        obtain ⟨e0, e1, e2⟩ := HAT.out k hlt
        rw [Nat.zero_add] at d0 d1 d2
        rw [e0] at d0
        rw [e1] at d1
        rw [e2] at d2
        generalize kf k = kk at *
        generalize nf k = nn at *
        generalize sf k = ss at *
        have HBL := Lib.hid hb
        have hv1 := veq_self' kk nn ss
        have hv2 := veq_self' 3 0 ss
        clear hA' hI' e0 e1 e2 hb
        by_cases q : kk = 3
        · subst q
          by_cases z : nn = -9223372036854775808
          · subst z
            rw [if_pos ⟨rfl, rfl⟩] at d1
            go_wp2
            go_quiet (fail)
            go_wp2
            go_roundw
            case rel => exact ⟨k + 1, by omega, by go_num, (HBL.out.alloc HBL.out.size _).trans ⟨rfl, rfl, rfl, Nat.le_refl _, fun _ _ => rfl⟩⟩
            case measure => first | (simp [intOf]; done) | (simp [intOf]; omega)
          · have z1 : (nn == -9223372036854775808) = false := by simpa using z
            rw [if_neg (fun h => z h.2)] at d1
            go_wp2
            go_quiet (fail)
            go_wp2
            go_roundw
            case rel => exact ⟨k + 1, by omega, by go_num, (HBL.out.alloc HBL.out.size _).trans ⟨rfl, rfl, rfl, Nat.le_refl _, fun _ _ => rfl⟩⟩
            case measure => first | (simp [intOf]; done) | (simp [intOf]; omega)
        · have q1 : (kk == 3) = false := by simpa using q
          rw [if_neg (fun h => q h.1)] at d1
          go_wp2
          go_quiet (fail)
          go_wp2
          go_roundw
          case rel => exact ⟨k + 1, by omega, by go_num, (HBL.out.alloc HBL.out.size _).trans ⟨rfl, rfl, rfl, Nat.le_refl _, fun _ _ => rfl⟩⟩
          case measure => first | (simp [intOf]; done) | (simp [intOf]; omega)
      · obtain rfl : k = m := by omega
        have W5 := Lib.hid (stepB B4.out hb)
        clear hb
        go_wp2
        go_ret
        exact ⟨rfl, W5.out⟩
  · have HT := Lib.hid (fun w h => allright_any a b off m cap kf nf sf (by omega) w HA.out h HB.out false ⟨fun h => absurd h (by decide), fun h => absurd h hr⟩)
    clear hr
    go_enter Try.func5, Try.ntmps5
    go_wp2_with fail
    refine (HS.out _).mono ?_
    rintro x w0 ⟨rfl, b0⟩
    have A0 := Lib.hid (hA.below b0)
    go_wp2_with fail
    refine (HT.out _ A0.out).mono ?_
    rintro x w1 ⟨rfl, b1⟩
    have B1 := Lib.hid (stepB b0 b1)
    clear b0 b1
    go_wp2
    go_ret
    exact ⟨rfl, B1.out⟩

set_option maxRecDepth 100000 in
theorem lifted (os : Os) (started : os.Started) (H : Type) (enc : TypeId × Value → H) (F : Stop.Interp) :
    ReturnsInHanded {} Try.checked os 5 .any ((Rows.OpenSpec.upto Rows.keysThereSpec).pre6 enc Try.prog Try.f5 Rows.keysThereUptoRow.domain false) (((Rows.OpenSpec.upto Rows.keysThereSpec).at F).post enc Try.prog Try.f5 false true false false) := by
  refine returnsInHanded_of_cond (C := Try.checked) (s := Rows.OpenSpec.upto Rows.keysThereSpec) (k := Rows.uptoSmall) rfl own started (by kernel_rfl) Try.func5
    (OpenSpec.witness (enc := enc) (C := Try.checked) (s := Rows.OpenSpec.upto Rows.keysThereSpec) (k := Rows.uptoSmall) rfl false ⟨#[], #[.slice none 0 0], []⟩ 8 (by kernel_rfl) (by kernel_rfl) (by kernel_rfl)
      (x := ([.nil], [], [])) (by kernel_rfl) rfl (by kernel_rfl)) ?_
  intro W base args ds gs before hval0 hW _ hk0 _
  have hval : ∀ (j : Nat) t v, Try.f5.params[j]? = some t → args[j]? = some v → Value.okWide Try.prog W .any base t v := hval0
  have hW' := hW
  obtain ⟨p, q, hA0, hV, rfl, hfz, hnd⟩ := hW
  have hA : DataW.TrodAll enc Try.prog W 0 (fun _ => true) true Try.f5.params.toList args.toList ds p := hA0
  rw [Try.params5] at hA hval
  obtain ⟨v0, vs0, d0, ds0, p0, q0, hargs, rfl, rfl, h0, r0⟩ := trodAll_cons hA
  obtain ⟨rfl, rfl, rfl⟩ := trodAll_nil r0
  obtain rfl : args = #[v0] := by cases args; simp_all
  obtain ⟨rfl, rfl⟩ := trodVars_none hV
  have hk : Rows.uptoSmall H [d0] = true := hk0
  have lt0 : ∀ x ∈ p0, x.block < W.heap.size := by obtain ⟨m, hm⟩ := h0; exact DataW.trod_lt m _ _ _ hm
  refine (walk (enc := enc) base v0 d0 p0 W (hval 0 22 v0 rfl rfl) h0 hk).mono fun e W' ⟨he, bel⟩ => ?_
  subst he
  exact ⟨_, rfl, _, _, _, [], _, [], hW', trodAll_mk1 (shut_bool Try.underlying4 _), (trodAll_cons_mk (Below.trod laidOut (by kernel_rfl) (of_decide_eq_true (by kernel_rfl)) h0 bel lt0) trodAll_mk0), rfl, bel.frame _, fun h => by cases h⟩

theorem over : Rows.keysThereUptoRow.holds Try.pinned (Rows.OpenSpec.upto Rows.keysThereSpec) :=
  OpenClaim.holds_of_cond 5 Try.f5 rfl rfl rfl rfl rfl rfl rfl ⟨rfl, rfl, rfl, rfl, rfl⟩ rfl rfl rfl rfl rfl (by kernel_rfl) Try.func5 (by kernel_rfl)
    (of_decide_eq_true (by kernel_rfl)) (by unfold Func.isWrapper; first | (rw [if_pos (by decide +kernel)]; kernel_rfl) | (rw [if_neg (by decide +kernel)]; exact ⟨rfl, rfl⟩))
    (fun os started H enc _ F => lifted os started H enc F)

theorem proved : Rows.KeysThereUptoSaid :=
  over
end Go.Proofs.Ytpknoclnmhomiaa.keysThere
