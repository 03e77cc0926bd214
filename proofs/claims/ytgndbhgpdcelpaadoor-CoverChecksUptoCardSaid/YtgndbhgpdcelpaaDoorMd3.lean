/-
  Together, Covers, Join: contracts over the translation.
  Conditions: the variable holds what the program's text lays.
-/
import Derived.Test.YtgndbhgpdcelpaaDoorMd2
namespace Go.Proofs.YtgndbhgpdcelpaaDoor
set_option maxRecDepth 100000
open Go.RowKit Go.Joins Go.ChangeShapes Go.WideShapes
set_option linter.unusedVariables false
set_option linter.unusedSimpArgs false

set_option maxHeartbeats 1000000 in
theorem cov_any (a b : Int) (w : World) (h : TabB w 0 cvL) : Calls Tryd.prog 32 #[.int .i64 a, .int .i64 b] w fun e w' => e = .returned (.bool (cvI a b)) ∧ w = w' := by
  have HA := Lib.hid (known_any a w)
  have HB := Lib.hid (known_any b w)
  obtain ⟨r, hr⟩ : ∃ r, cvI a b = r := ⟨_, rfl⟩
  rw [hr]
  unfold cvI at hr
  cases ca : kn a with
  | false =>
    rw [ca] at HA hr
    obtain rfl : r = false := by rw [← hr]; rfl
    clear hr
    go_enter Tryd.func32, Tryd.ntmps32
    go_wp2_with fail
    refine HA.out.mono ?_
    rintro e w' ⟨rfl, rfl⟩
    go_wp2
    go_ret
    exact ⟨rfl, rfl⟩
  | true =>
    rw [ca] at HA hr
    obtain ⟨na, rfl, la⟩ := kn_cases ca
    cases cb : kn b with
    | false =>
      rw [cb] at HB hr
      obtain rfl : r = false := by rw [← hr]; rfl
      clear hr ca
      go_enter Tryd.func32, Tryd.ntmps32
      go_wp2_with fail
      refine HA.out.mono ?_
      rintro e w' ⟨rfl, rfl⟩
      go_wp2_with fail
      refine HB.out.mono ?_
      rintro e w' ⟨rfl, rfl⟩
      go_wp2
      go_ret
      exact ⟨rfl, rfl⟩
    | true =>
      rw [cb] at HB hr
      obtain ⟨nb, rfl, lb⟩ := kn_cases cb
      have d0 := h.2 na nb la lb
      have e0 : tb cvL na nb = r := by rw [← hr]; simp
      rw [e0] at d0
      have la9 : (na : Int) < 7 := by omega
      have lb9 : (nb : Int) < 7 := by omega
      clear hr e0 ca cb h
      go_enter Tryd.func32, Tryd.ntmps32
      go_wp2_with fail
      refine HA.out.mono ?_
      rintro e w' ⟨rfl, rfl⟩
      go_wp2_with fail
      refine HB.out.mono ?_
      rintro e w' ⟨rfl, rfl⟩
      go_wp2
      go_ret
      exact ⟨rfl, rfl⟩

set_option maxHeartbeats 2000000 in
theorem join_any (a b : Int) (w : World) (h : TabB w 0 cvL) : Calls Tryd.prog 47 #[.int .i64 a, .int .i64 b] w fun e w' => e = .returned (.int .i64 (jnI a b)) ∧ w = w' := by
  obtain ⟨r, hr⟩ : ∃ r, jnI a b = r := ⟨_, rfl⟩
  rw [hr]
  have HR := Lib.hid hr
  have HA := Lib.hid (fun m => cov_any m a w h)
  have HB := Lib.hid (fun m => cov_any m b w h)
  clear h hr
  go_enter Tryd.func47, Tryd.ntmps47
  go_wp2
  go_loopw [6] (fun i wx => ∃ m : Nat, m ≤ 7 ∧ i = .int .i64 m ∧ w = wx ∧ Hid (jnN a b m (7 - m) = r)) (fun i _ => 7 - (intOf i).toNat)
  case atStart => exact ⟨0, Nat.zero_le _, rfl, rfl, HR⟩
  case round =>
    obtain ⟨m, hm, rfl, rfl, hj⟩ := hrel
    by_cases c : m < 7
    · have c1 : (m : Int) < 7 := by omega
      have hj' := hj.out
      rw [show 7 - m = (7 - (m + 1)) + 1 by omega] at hj'
      unfold jnN at hj'
      have ha := HA.out m
      have hb := HB.out m
      cases ca : cvI m a with
      | false =>
        rw [ca] at ha hj'
        simp only [Bool.false_and, Bool.false_eq_true, if_false] at hj'
        have HA2 := Lib.hid ha
        have HJ := Lib.hid hj'
        clear ha hb hj hj' ca
        go_wp2_with fail
        refine HA2.out.mono ?_
        rintro e w' ⟨rfl, rfl⟩
        go_wp2
        go_roundw
        case rel => exact ⟨m + 1, by omega, by go_num, (by first | rfl | trivial), HJ⟩
        case measure => simp [intOf]; omega
      | true =>
        cases cb : cvI m b with
        | false =>
          rw [ca] at ha hj'
          rw [cb] at hb hj'
          simp only [Bool.and_false, Bool.false_eq_true, if_false] at hj'
          have HA2 := Lib.hid ha
          have HB2 := Lib.hid hb
          have HJ := Lib.hid hj'
          clear ha hb hj hj' ca cb
          go_wp2_with fail
          refine HA2.out.mono ?_
          rintro e w' ⟨rfl, rfl⟩
          go_wp2_with fail
          refine HB2.out.mono ?_
          rintro e w' ⟨rfl, rfl⟩
          go_wp2
          go_roundw
          case rel => exact ⟨m + 1, by omega, by go_num, (by first | rfl | trivial), HJ⟩
          case measure => simp [intOf]; omega
        | true =>
          rw [ca] at ha hj'
          rw [cb] at hb hj'
          simp only [Bool.and_true, if_true] at hj'
          subst hj'
          have HA2 := Lib.hid ha
          have HB2 := Lib.hid hb
          clear ha hb hj ca cb
          go_wp2_with fail
          refine HA2.out.mono ?_
          rintro e w' ⟨rfl, rfl⟩
          go_wp2_with fail
          refine HB2.out.mono ?_
          rintro e w' ⟨rfl, rfl⟩
          go_wp2
          go_ret
          exact ⟨rfl, rfl⟩
    · have c1 : ¬ (m : Int) < 7 := by omega
      obtain rfl : m = 7 := by omega
      have hj' := hj.out
      simp only [Nat.sub_self, jnN] at hj'
      subst hj'
      clear hj
      go_wp2
      go_ret
      exact ⟨rfl, rfl⟩

end Go.Proofs.YtgndbhgpdcelpaaDoor
