/-
  The statements of layer 5: whether a list is right; the examples of the document.
  Conditions: none.
-/
import Derived.Test.YtpknoclnmhomiaaKst
import Derived.Test.YtpknoclnmhomiaaLay
import Derived.Test.YtpknoclnmhomiaaVal3
import Derived.Test.YtpknoclnmhomiaaBulk
import Derived.Test.YtpknoclnmhomiaaKp
import Derived.Deep.RegionHeld3
namespace Go.Proofs.Ytpknoclnmhomiaa
open Go.RowKit Go.Joins Go.ChangeShapes Go.WideShapes
set_option linter.unusedVariables false

set_option maxHeartbeats 1000000 in
theorem allright_any (a : Option Addr) (b off m cap : Nat) (kf nf : Nat → Int) (sf : Nat → ByteArray) (hm : m ≤ 4194304) (w : World) (ha : m = 0 ∨ a = some ⟨b, off, none⟩) (hA : IsV w b off m kf nf sf)
    (hr : ∀ i, i < m → InI (nf i) ∧ (sf i).size ≤ 1048576) (R : Bool) (hR : R = true ↔ ∀ i, i < m → VCheck (kf i) (nf i) (sf i) = 0) :
    Calls Try.prog 11 #[.slice a m cap] w fun e w' => e = .returned (.bool R) ∧ Below w.heap.size w w' := by
  have HA := Lib.hid ha
  have HB := Lib.hid hr
  have HR := Lib.hid hR
  have HC := Lib.hid (fun k n s h g w => refcheck_any k n s h g w)
  unfold Vv at HC
  clear ha hr hR
  go_enter Try.func11, Try.ntmps11
  go_wp2
  go_loopw [7] (fun i wr => ∃ k : Nat, k ≤ m ∧ i = .int .i64 k ∧ Below w.heap.size w wr ∧ Hid (∀ j, j < k → VCheck (kf j) (nf j) (sf j) = 0)) (fun i _ => m - (intOf i).toNat)
  case atStart => exact ⟨0, Nat.zero_le _, rfl, Below.refl _ _, fun j hj => absurd hj (by omega)⟩
  case round =>
    obtain ⟨k, hk, rfl, hb, HK⟩ := hrel
    by_cases hlt : k < m
    · obtain rfl : a = some ⟨b, off, none⟩ := by rcases HA.out with h | h; omega; exact h
      have hA' := hA.below hb
      have a0 := hA'.c0 k hlt
      have a1 := hA'.c1 k hlt
      have a2 := hA'.c2 k hlt
      have hbl : b < wr.heap.size := hA'.hb (by omega)
      have hkm : (k : Int) < (m : Int) := by omega
      obtain ⟨i1, i2⟩ := HB.out k hlt
      obtain ⟨kk, ek⟩ : ∃ x, kf k = x := ⟨_, rfl⟩
      obtain ⟨nn, en⟩ : ∃ x, nf k = x := ⟨_, rfl⟩
      obtain ⟨ss, es⟩ : ∃ x, sf k = x := ⟨_, rfl⟩
      rw [ek] at a0
      rw [en] at a1 i1
      rw [es] at a2 i2
      have HN := Lib.hid (HC.out kk nn ss i1 (by unfold maxLen; omega))
      have EE := Lib.hid (show VCheck (kf k) (nf k) (sf k) = VCheck kk nn ss by rw [ek, en, es])
      have HBL := Lib.hid hb
      have hzr := hb.size
      clear hA' ek en es i1 i2 hb
      by_cases hv : VCheck kk nn ss = 0
      · have HV := Lib.hid hv
        rw [hv] at HN
        clear hv
        go_wp2_with fail
        refine (HN.out _).mono ?_
        rintro x w1 ⟨rfl, bc⟩
        have BW := Lib.hid (((Below.refl _ wr).alloc (Nat.le_refl _) (.cells #[.int .i64 kk, .int .i64 nn, .string ss] 35)).trans (bc.mono (by simp)))
        have HB1 := Lib.hid (HBL.out.trans (BW.out.mono hzr))
        have HK2 : Hid (∀ j, j < k + 1 → VCheck (kf j) (nf j) (sf j) = 0) := fun j hj => by
          by_cases c : j < k
          · exact HK.out j c
          · obtain rfl : j = k := by omega
            exact EE.out.trans HV.out
        clear a0 a1 a2 bc
        go_wp2_with fail
        go_roundw
        case rel => exact ⟨k + 1, by omega, by go_num, HB1.out, HK2⟩
        case measure => simp [intOf]; omega
      · have hv' : (VCheck kk nn ss != 0) = true := by simpa using hv
        have hRf : R = false := by
          rcases R with _ | _
          · rfl
          · exact absurd (EE.out.symm.trans (HR.out.1 rfl k hlt)) hv
        subst hRf
        generalize VCheck kk nn ss = c at *
        clear hv
        go_wp2_with fail
        refine (HN.out _).mono ?_
        rintro x w1 ⟨rfl, bc⟩
        have BW := Lib.hid (((Below.refl _ wr).alloc (Nat.le_refl _) (.cells #[.int .i64 kk, .int .i64 nn, .string ss] 35)).trans (bc.mono (by simp)))
        have HB1 := Lib.hid (HBL.out.trans (BW.out.mono hzr))
        clear a0 a1 a2 bc
        go_wp2
        go_ret
        exact ⟨rfl, HB1.out⟩
    · obtain rfl : k = m := by omega
      have hRt : R = true := HR.out.2 HK.out
      subst hRt
      have HBL := Lib.hid hb
      go_wp2
      go_ret
      exact ⟨rfl, HBL.out⟩

abbrev Ex1 : List Vt := [(2, -1, Em), (4, 0, ⟨#[97]⟩)]
theorem ex1_key : strB (keyB (kF Ex1) (nF Ex1) (sF Ex1) 2) = ⟨#[3, 127, 255, 255, 255, 255, 255, 255, 255, 5, 97, 0, 1]⟩ := by decide +kernel
theorem ex0_key : strB (keyB (kF [(0, 0, Em)]) (nF [(0, 0, Em)]) (sF [(0, 0, Em)]) 1) = ⟨#[1]⟩ := by decide +kernel
theorem ex_dec : decK [1] = ([(0, 0, Em)], 0) := rfl
theorem ex_beh : strB (behB [1, 255]) = ⟨#[2]⟩ := by decide +kernel
theorem ex1_right : ∀ i, i < 2 → VCheck (kF Ex1 i) (nF Ex1 i) (sF Ex1 i) = 0 ∧ InI (nF Ex1 i) := by
  intro i hi
  match i, hi with
  | 0, _ => exact ⟨vck_num (k := 2) (n := -1) (by decide) (by decide) rfl, by unfold InI; decide⟩
  | 1, _ => exact ⟨vck_text (s := ⟨#[97]⟩) (by decide), by unfold InI; decide⟩
theorem ex0_right : ∀ i, i < 1 → VCheck (kF [(0, 0, Em)] i) (nF [(0, 0, Em)] i) (sF [(0, 0, Em)] i) = 0 ∧ InI (nF [(0, 0, Em)] i) := by
  intro i hi
  match i, hi with
  | 0, _ => exact ⟨vck_num (k := 0) (n := 0) (by decide) (by decide) rfl, by unfold InI; decide⟩

set_option maxHeartbeats 2000000 in
theorem speaks5_any (w : World) :
    Calls Try.prog 10 #[] w fun e w' => e = .returned (.bool true) ∧ Below w.heap.size w w' := by
  have EA := Lib.hid (fun (w' : World) (g : Nat) (h : IsV w' g 0 2 (kF Ex1) (nF Ex1) (sF Ex1)) => enc_any (some ⟨g, 0, none⟩) g 0 2 2 (kF Ex1) (nF Ex1) (sF Ex1) (by omega) w' (.inr rfl) h ex1_right)
  have EB := Lib.hid (fun (w' : World) (g : Nat) (h : IsV w' g 0 1 (kF [(0, 0, Em)]) (nF [(0, 0, Em)]) (sF [(0, 0, Em)])) => enc_any (some ⟨g, 0, none⟩) g 0 1 1 (kF [(0, 0, Em)]) (nF [(0, 0, Em)]) (sF [(0, 0, Em)]) (by omega) w' (.inr rfl) h ex0_right)
  have ED := Lib.hid (fun (w' : World) (g : Nat) (h : IsB w' g 0 [1]) => dec_any (some ⟨g, 0, none⟩) g 0 1 [1] (by decide) (by decide) (by decide) w' (.inr rfl) h)
  have EH := Lib.hid (fun (w' : World) (g : Nat) (h : IsB w' g 0 [1, 255]) => beh_any (some ⟨g, 0, none⟩) g 0 2 [1, 255] (by decide) (by decide) w' (.inr rfl) h)
  go_enter Try.func10, Try.ntmps10
  go_wp2_with fail
  refine (EA.out _ w.heap.size (isV_l w Ex1 _ rfl)).mono ?_
  rintro x w1 ⟨v1, rfl, o1, b1⟩
  have B1 := Lib.hid (((Below.refl _ w).alloc (Nat.le_refl _) (.cells #[.int .i64 2, .int .i64 (-1), .string ⟨#[]⟩, .int .i64 4, .int .i64 0, .string ⟨#[97]⟩] 35)).trans (b1.mono (by simp)))
  have O1 := Lib.hid (o1 : OutB w1 _ v1 _)
  clear b1 o1
  go_wp2_with fail
  refine (EB.out _ w1.heap.size (isV_l w1 [(0, 0, Em)] _ rfl)).mono ?_
  rintro x w2 ⟨v2, rfl, o2, b2⟩
  have B2' := Lib.hid (((Below.refl _ w1).alloc (Nat.le_refl _) (.cells #[.int .i64 0, .int .i64 0, .string ⟨#[]⟩] 35)).trans (b2.mono (by simp)))
  have B2 := Lib.hid (B1.out.trans (B2'.out.mono B1.out.size))
  have O12 := Lib.hid (O1.out.below B2'.out)
  have O2 := Lib.hid (o2 : OutB w2 _ v2 _)
  clear b2 o2
  go_wp2_with fail
  refine (ED.out _ w2.heap.size (isB_l w2 [1] _ rfl (by decide))).mono ?_
  rintro x w3 ⟨v3, rfl, o3, o3', b3⟩
  have B3' := Lib.hid (((Below.refl _ w2).alloc (Nat.le_refl _) (.cells #[.int .u8 1] 5)).trans (b3.mono (by simp)))
  have B3 := Lib.hid (B2.out.trans (B3'.out.mono B2.out.size))
  have O13 := Lib.hid (O12.out.below B3'.out)
  have O23 := Lib.hid (O2.out.below B3'.out)
  obtain ⟨a3, g3, c3, e3, -⟩ := (o3 rfl).form
  have e3' : v3 = .slice a3 1 c3 := e3
  subst e3'
  rw [ex_dec]
  clear b3 o3 o3' e3
  go_wp2_with fail
  refine (EH.out _ w3.heap.size (isB_l w3 [1, 255] _ rfl (by decide))).mono ?_
  rintro x w4 ⟨v4, rfl, o4, b4⟩
  have B4' := Lib.hid (((Below.refl _ w3).alloc (Nat.le_refl _) (.cells #[.int .u8 1, .int .u8 255] 5)).trans (b4.mono (by simp)))
  have B4 := Lib.hid (B3.out.trans (B4'.out.mono B3.out.size))
  have s1 := (O13.out.below B4'.out).str
  have s2 := (O23.out.below B4'.out).str
  have s4 := o4.str
  rw [ex1_key] at s1
  rw [ex0_key] at s2
  rw [ex_beh] at s4
  rw [show decide (stripN [1, 255] [1, 255].length ≠ 0) = true by decide]
  clear b4 o4
  go_wp2
  go_ret
  exact ⟨rfl, B4.out⟩

end Go.Proofs.Ytpknoclnmhomiaa
