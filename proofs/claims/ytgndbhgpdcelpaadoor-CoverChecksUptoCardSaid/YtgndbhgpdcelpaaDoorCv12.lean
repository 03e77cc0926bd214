/-
  Whether a cursor's reading is covered, walked: a contract over the translation.
  Conditions: the row lies in memory.
-/
import Derived.Test.YtgndbhgpdcelpaaDoorCv11
import Derived.Deep.Cut
namespace Go.Proofs.YtgndbhgpdcelpaaDoor
set_option maxRecDepth 100000
open Go.RowKit Go.Joins Go.ChangeShapes Go.WideShapes
set_option linter.unusedVariables false
set_option linter.unusedSimpArgs false

theorem two_new (w : World) (c1 c2 : Array Value) (T1 T2 : TypeId) : Bx ((w.alloc (.cells c1 T1)).alloc (.cells c2 T2)).drew w.heap.size c1 T1 ∧ Bx ((w.alloc (.cells c1 T1)).alloc (.cells c2 T2)).drew (w.heap.size + 1) c2 T2 ∧ Below w.heap.size w ((w.alloc (.cells c1 T1)).alloc (.cells c2 T2)).drew := by
  have b1 : Below w.heap.size w (w.alloc (.cells c1 T1)) := (Below.refl _ _).alloc (Nat.le_refl _) _
  have b2 : Below (w.alloc (.cells c1 T1)).heap.size (w.alloc (.cells c1 T1)) ((w.alloc (.cells c1 T1)).alloc (.cells c2 T2)) := (Below.refl _ _).alloc (Nat.le_refl _) _
  have h2 := Bx.new (w.alloc (.cells c1 T1)) c2 T2
  rw [show (w.alloc (.cells c1 T1)).heap.size = w.heap.size + 1 by simp] at h2
  exact ⟨(Bx.new w c1 T1).below b2.drew, h2, (btr b1 b2 b1.size).drew⟩
set_option maxHeartbeats 16000000 in
set_option maxRecDepth 100000 in
theorem cursor_any (w : World) (hT : TabB w 0 cvL) (tb : ByteArray) (a : Option Addr) (cap : Nat) (q : List Ins) (h : RowA w a q) (hm : q.length ≤ 1048576) (c : Int) :
    Calls Tryd.prog 30 #[.agg #[.string tb, .slice a q.length cap], .int .i64 c] w fun e w' => e = .returned (.bool (ccB q c)) ∧ Below w.heap.size w w' := by
  obtain ⟨W1, hW1⟩ : ∃ W1, w.alloc (.cells #[.string tb, .slice a q.length cap] 37) = W1 := ⟨_, rfl⟩
  obtain ⟨HB1, z0, z1, hz, hbx⟩ := ck_box hW1
  have h1 := h.below HB1.out
  have HO := Lib.hid (fun (V : World) (hV : Below W1.heap.size W1 V) (op : Int) => ofc_any V tb a cap q (h1.below hV) hm op c)
  have HMD := Lib.hid (fun (V : World) (hV : Below W1.heap.size W1 V) (t : ByteArray) => mode_any V (hT.below (HB1.out.trans (hV.mono HB1.out.size))) tb a cap q (h1.below hV) hm t)
  have HTB := Lib.hid (fun (V : World) (hV : Below W1.heap.size W1 V) => hT.below (HB1.out.trans (hV.mono HB1.out.size)))
  obtain ⟨Q2, hQ2⟩ : ∃ Q2, q.filter (ocB 2 c) = Q2 := ⟨_, rfl⟩
  obtain ⟨Q3, hQ3⟩ : ∃ Q3, q.filter (ocB 3 c) = Q3 := ⟨_, rfl⟩
  have hl2 : Q2.length ≤ 1048576 := by rw [← hQ2]; exact Nat.le_trans (List.length_filter_le _ _) hm
  have hl3 : Q3.length ≤ 1048576 := by rw [← hQ3]; exact Nat.le_trans (List.length_filter_le _ _) hm
  obtain ⟨R, hR⟩ : ∃ R, ccB q c = R := ⟨_, rfl⟩
  rw [hR]
  unfold ccB at hR
  rw [hQ2, hQ3] at hR
  have HQ2 := Lib.hid hQ2
  have HQ3 := Lib.hid hQ3
  have HMQ := Lib.hid (fun t => (rfl : mdL t q 0 = mdL t q 0))
  obtain ⟨M, hM⟩ : ∃ M : ByteArray → Int, (fun t => mdL t q 0) = M := ⟨_, rfl⟩
  have hM' : ∀ t, mdL t q 0 = M t := fun t => by rw [← hM]
  simp only [hM'] at HMD hR
  generalize q.length = n at *
  have HS := Lib.hid (show ∀ V, Below W1.heap.size W1 V → Below W1.heap.size W1 V ∧ V.cell? ⟨w.heap.size, 0, none⟩ = some (.string tb) ∧ V.cell? ⟨w.heap.size, 1, none⟩ = some (.slice a n cap) from fun V hV => ⟨hV, (hbx.below hV).cell rfl, (hbx.below hV).cell rfl⟩)
  have HR := Lib.hid hR
  have HL2 := Lib.hid hl2
  have HL3 := Lib.hid hl3
  clear hR hM hM' HMQ hz hbx h1 h hT hQ2 hQ3 hl2 hl3
  go_enter Tryd.func30, Tryd.ntmps30
  go_upto_region 1 with fail
  try rw [hW1]
  clear hW1
  go_cut [5, 6] (fun o p wr => Hid (EnR KI w wr o Q2) ∧ Hid (EnR KI w wr p Q3) ∧ Hid (Below W1.heap.size W1 wr))
  case first =>
    have hS0 := HS.out _ (Below.refl W1.heap.size W1).drew
    go_region_held3 (fun w' => Below W1.heap.size W1 w' ∧ w'.cell? ⟨w.heap.size, 0, none⟩ = some (.string tb) ∧ w'.cell? ⟨w.heap.size, 1, none⟩ = some (.slice a n cap))
      (first | with_reducible exact hS0 | with_reducible exact hSA | with_reducible exact hSB)
      (first | (go_at_call 40; refine (HO.out W1.drew hS0.1 _).mono ?_; rintro e wA ⟨vA, rfl, hoA, hbA⟩; have hSA := HS.out wA (btr hS0.1 hbA hS0.1.size); have HoA := Lib.hid hoA; have HbA := Lib.hid hbA; clear hoA hbA) | (go_at_call 40; refine (HO.out wA hSA.1 _).mono ?_; rintro e wB ⟨vB, rfl, hoB, hbB⟩; have hSB := HS.out wB (btr hSA.1 hbB hSA.1.size); have HoB := Lib.hid hoB; have HbB := Lib.hid hbB; clear hoB hbB))
    have HE2 := Lib.hid (show EnR KI w wB vA Q2 from ⟨by rw [← HQ2.out]; exact (HoA.out.below HbB.out).le HB1.out.size, HB1.out.trans (hSB.1.mono HB1.out.size)⟩)
    have HE3 := Lib.hid (show EnR KI w wB vB Q3 from ⟨by rw [← HQ3.out]; exact HoB.out.le (Nat.le_trans HB1.out.size hSA.1.size), HB1.out.trans (hSB.1.mono HB1.out.size)⟩)
    have HW := Lib.hid hSB.1
    go_wp2_with fail
    go_meet
    exact ⟨HE2, HE3, HW⟩
  case rest =>
    obtain ⟨HE2, HE3, HW⟩ := hcut
    obtain ⟨wq, rfl⟩ : ∃ x, x = wc := ⟨_, rfl⟩
    obtain ⟨a2, c2, rfl, hr2⟩ := RowA.own HE2.out.own
    obtain ⟨a3, c3, rfl, hr3⟩ := RowA.own HE3.out.own
    have HR2 := Lib.hid hr2
    have HR3 := Lib.hid hr3
    obtain ⟨n3, hn3⟩ : ∃ n3, Q3.length = n3 := ⟨_, rfl⟩
    rw [hn3]
    have HN3 := Lib.hid hn3
    have hl3 := HL3.out
    rw [hn3] at hl3
    clear hr2 hr3 hn3 HO HB1 z0 z1 HL3
    have HBW := Lib.hid HE2.out.bel
    cases Q2 with
    | nil =>
      have HR' := HR.out
      simp only at HR'
      by_cases h0 : n3 = 0
      · have HF := Lib.hid (show R = true by rw [← HR']; rw [List.isEmpty_iff]; exact List.eq_nil_of_length_eq_zero (by rw [HN3.out, h0]))
        clear HR' HR
        have e0 : ((n3 : Int) == 0) = true := by rw [h0]; rfl
        go_wp2_with fail
        go_ret
        exact ⟨by rw [HF.out]; rfl, HBW.out⟩
      · have HF := Lib.hid (show R = false by
          rw [← HR']
          cases Q3 with
          | nil => exact absurd HN3.out.symm h0
          | cons x r => rfl)
        clear HR' HR
        have e0 : ((n3 : Int) == 0) = false := by simp; omega
        go_wp2_with fail
        go_ret
        exact ⟨by rw [HF.out]; rfl, HBW.out⟩
    | cons o2 r2 =>
      have HR' := HR.out
      simp only at HR'
      obtain ⟨g2, off2, rfl, hlt2, hra⟩ := HR2.out.at (i := 0) (x := o2) rfl
      rw [Nat.zero_mul, Nat.add_zero] at hra
      have f5 : wq.cell? ⟨g2, off2 + 5, none⟩ = some (.string o2.tab) := hra 5 _ rfl
      have f6 : wq.cell? ⟨g2, off2 + 6, none⟩ = some (.int .i64 o2.idx) := hra 6 _ rfl
      obtain ⟨n2, hn2⟩ : ∃ n2, (o2 :: r2).length = n2 := ⟨_, rfl⟩
      have hn2p : 0 < n2 := by rw [← hn2]; simp
      have hl2 : n2 ≤ 1048576 := by rw [← hn2]; exact HL2.out
      have hc2 : n2 ≠ 0 := by omega
      have HRR := Lib.hid HR'
      rw [hn2]
      have HN2 := Lib.hid hn2
      have e0 : ((n2 : Int) == 0) = false := by simp; omega
      have hp2 : (0 : Int) < n2 := by omega
      clear HR' HR hn2 hra HL2
      go_upto_region 4 with fail
      go_cut [7, 8] (fun u v wr => ∃ p p', u = .pointer (some ⟨p, 0, none⟩) ∧ v = .pointer (some ⟨p', 0, none⟩) ∧ Hid (Bx wr p #[.string o2.tab] 9 ∧ Bx wr p' #[.int .i64 o2.idx] 3 ∧ Below wq.heap.size wq wr))
      case first =>
        go_region
        all_goals
          go_wp2_with fail
          go_meet
          first
          | exact ⟨_, _, rfl, rfl, Lib.hid (two_new wq _ _ _ _)⟩
          | exact ⟨_, _, rfl, rfl, Lib.hid (have h := two_new wq _ _ _ _; ⟨h.2.1, h.1, h.2.2⟩)⟩
      case rest =>
        obtain ⟨p, p', rfl, rfl, HP⟩ := hcut
        obtain ⟨hp, hp', hbp⟩ := HP.out
        have y7 : wc.cell? ⟨p, 0, none⟩ = some (.string o2.tab) := hp.cell rfl
        have y8 : wc.cell? ⟨p', 0, none⟩ = some (.int .i64 o2.idx) := hp'.cell rfl
        have HBC := Lib.hid (btr HBW.out hbp HBW.out.size)
        have HWC := Lib.hid (btr HW.out hbp HW.out.size)
        have HOT := Lib.hid (contf_any wc (some ⟨g2, off2, none⟩) c2 (o2 :: r2) (HR2.out.below hbp) (by rw [HN2.out]; omega) _ _ _ (othp wc p p' o2.tab o2.idx hp hp') (enters_of Tryd.func41 (by kernel_rfl) rfl))
        rw [HN2.out, show ((o2 :: r2).any fun x => !(x.tab.toList == o2.tab.toList && x.idx == o2.idx)) = !((o2 :: r2).all fun x => x.tab.toList == o2.tab.toList && x.idx == o2.idx) by rw [List.not_all_eq_any_not]] at HOT
        have HRR' := HRR.out
        obtain ⟨A, hA⟩ : ∃ A, ((o2 :: r2).all fun x => x.tab.toList == o2.tab.toList && x.idx == o2.idx) = A := ⟨_, rfl⟩
        rw [hA] at HOT HRR'
        have HR3C := Lib.hid (HR3.out.below hbp)
        have HPP := HP
        clear hA hp hp' hbp HRR HE2 HE3 f5 f6 hlt2 HP
        go_wp2_with fail
        refine HOT.out.mono ?_
        rintro e w5 ⟨rfl, hb5⟩
        have HB5 := Lib.hid (btr HBC.out hb5 HBC.out.size)
        have HW5 := Lib.hid (btr HWC.out hb5 HWC.out.size)
        have z7 : w5.cell? ⟨p, 0, none⟩ = some (.string o2.tab) := (HPP.out.1.below hb5).cell rfl
        have z8 : w5.cell? ⟨p', 0, none⟩ = some (.int .i64 o2.idx) := (HPP.out.2.1.below hb5).cell rfl
        have HX7 := Lib.hid (HPP.out.1.below hb5)
        have HX8 := Lib.hid (HPP.out.2.1.below hb5)
        have HR35 := Lib.hid (HR3C.out.below hb5)
        obtain ⟨-, x0, x1⟩ := HS.out w5 HW5.out
        clear hb5 HOT HPP HR3C y7 y8
        cases A with
        | false =>
          simp only [Bool.false_and] at HRR'
          subst HRR'
          go_wp2_with fail
          go_ret
          exact ⟨rfl, HB5.out⟩
        | true =>
          simp only [Bool.true_and] at HRR'
          have HM5 := Lib.hid (HMD.out w5 HW5.out o2.tab)
          cases ci : o2.idx == -1 with
          | true =>
            rw [ci] at HRR'
            simp only [if_true] at HRR'
            have HRQ := Lib.hid HRR'
            clear HRR'
            go_wp2_with fail
            refine HM5.out.mono ?_
            rintro e w6 ⟨rfl, hb6⟩
            have HB6 := Lib.hid (btr HB5.out hb6 HB5.out.size)
            have HCV := Lib.hid (cov_any (M o2.tab) 3 w6 (HTB.out w6 (btr HW5.out hb6 HW5.out.size)))
            clear hb6
            go_wp2_with fail
            refine HCV.out.mono ?_
            rintro e w7 ⟨rfl, rfl⟩
            go_wp2_with fail
            go_ret
            exact ⟨by rw [← HRQ.out]; rfl, HB6.out⟩
          | false =>
            rw [ci] at HRR'
            simp only [Bool.false_eq_true, if_false] at HRR'
            have hni : (o2.idx == (-1 : Int)) = false := ci
            by_cases cp : 0 ≤ o2.idx
            · simp only [cp, decide_true, Bool.true_and] at HRR'
              cases cm : cvI (M o2.tab) 1 with
              | false =>
                rw [cm] at HRR'
                simp only [Bool.false_and] at HRR'
                subst HRR'
                go_wp2_with fail
                refine HM5.out.mono ?_
                rintro e w6 ⟨rfl, hb6⟩
                have HB6 := Lib.hid (btr HB5.out hb6 HB5.out.size)
                have HCV := Lib.hid (cov_any (M o2.tab) 1 w6 (HTB.out w6 (btr HW5.out hb6 HW5.out.size)))
                rw [cm] at HCV
                clear hb6
                go_wp2_with fail
                refine HCV.out.mono ?_
                rintro e w7 ⟨rfl, rfl⟩
                go_wp2_with fail
                go_ret
                exact ⟨rfl, HB6.out⟩
              | true =>
                rw [cm] at HRR'
                simp only [Bool.true_and] at HRR'
                have HRQ := Lib.hid HRR'
                clear HRR'
                go_wp2_with fail
                refine HM5.out.mono ?_
                rintro e w6 ⟨rfl, hb6⟩
                have HB6 := Lib.hid (btr HB5.out hb6 HB5.out.size)
                have HW6 := Lib.hid (btr HW5.out hb6 HW5.out.size)
                have HR6 := Lib.hid (HR35.out.below hb6)
                have HCV := Lib.hid (cov_any (M o2.tab) 1 w6 (HTB.out w6 HW6.out))
                rw [cm] at HCV
                clear hb6
                go_wp2_with fail
                refine HCV.out.mono ?_
                rintro e w7 ⟨rfl, rfl⟩
                have HK := Lib.hid (allc_any w6 (HTB.out w6 HW6.out) a3 c3 Q3 HR6.out (by rw [HN3.out]; omega) 43 (fun x => x.mode) 3 (enters_of Tryd.func43 (by kernel_rfl) rfl) keym_any)
                rw [HN3.out] at HK
                have HRQ' := HRQ.out
                obtain ⟨K, hK⟩ : ∃ K, (Q3.all fun x => cvI x.mode 3) = K := ⟨_, rfl⟩
                rw [hK] at HK HRQ'
                clear hK HRQ
                go_wp2_with fail
                refine HK.out.mono ?_
                rintro e w8 ⟨rfl, hb8⟩
                have HB8 := Lib.hid (btr HB6.out hb8 HB6.out.size)
                have HP8 := Lib.hid (allc_any w8 (HTB.out w8 (btr HW6.out hb8 HW6.out.size)) a3 c3 Q3 (HR6.out.below hb8) (by rw [HN3.out]; omega) 44 (fun x => x.part) 3 (enters_of Tryd.func44 (by kernel_rfl) rfl) rowm_any)
                rw [HN3.out] at HP8
                clear hb8 HK
                cases K with
                | false =>
                  simp only [Bool.false_and] at HRQ'
                  subst HRQ'
                  go_wp2_with fail
                  go_ret
                  exact ⟨rfl, HB8.out⟩
                | true =>
                  simp only [Bool.true_and] at HRQ'
                  rw [HRQ'] at HP8
                  clear HRQ'
                  go_wp2_with fail
                  refine HP8.out.mono ?_
                  rintro e w9 ⟨rfl, hb9⟩
                  have HB9 := Lib.hid (btr HB8.out hb9 HB8.out.size)
                  clear hb9
                  go_wp2_with fail
                  go_ret
                  exact ⟨rfl, HB9.out⟩
            · obtain rfl : R = false := by rw [← HRR']; simp [cp]
              clear HRR'
              go_wp2_with fail
              go_ret
              exact ⟨rfl, HB5.out⟩

end Go.Proofs.YtgndbhgpdcelpaaDoor
