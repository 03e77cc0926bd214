/-
  Whether all changing is covered: contracts over the translation.
  Conditions: the row lies in memory.
-/
import Derived.Test.YtgndbhgpdcelpaaDoorCv14
import Derived.Deep.QuietTactic
import Derived.BigQuiet
namespace Go.Proofs.YtgndbhgpdcelpaaDoor
set_option maxRecDepth 100000
open Go.RowKit Go.Joins Go.ChangeShapes Go.WideShapes
set_option linter.unusedVariables false
set_option linter.unusedSimpArgs false

theorem bdrew (w : World) (n : Nat) : Below w.heap.size w (w.drewN n) := ⟨rfl, rfl, rfl, Nat.le_refl _, fun _ _ => rfl⟩
/-- are the rows that are picked kept from others? -/
def pkB (tb : ByteArray) (q : List Ins) : Bool :=
  cnL [6] q == 0 || (match q.filter (ocB 2 0) with | [] => false | o :: _ => o.tab.toList == tb.toList && (q.filter (ocB 3 0)).all fun x => cvI x.part 5)
set_option maxHeartbeats 16000000 in
set_option maxRecDepth 100000 in
theorem picking_any (w : World) (hT : TabB w 0 cvL) (tb : ByteArray) (a : Option Addr) (cap : Nat) (q : List Ins) (h : RowA w a q) (hm : q.length ≤ 1048576) :
    Calls Tryd.prog 35 #[.agg #[.string tb, .slice a q.length cap]] w fun e w' => e = .returned (.bool (pkB tb q)) ∧ Below w.heap.size w w' := by
  obtain ⟨W1, hW1⟩ : ∃ W1, w.alloc (.cells #[.string tb, .slice a q.length cap] 37) = W1 := ⟨_, rfl⟩
  obtain ⟨HB1, z0, z1, hz, hbx⟩ := ck_box hW1
  have HH := Lib.hid (fun (V : World) (hV : Below W1.heap.size W1 V) => (h.below HB1.out).below hV)
  have HBX := Lib.hid (fun (V : World) (hV : Below W1.heap.size W1 V) => hbx.below hV)
  have HTB := Lib.hid (fun (V : World) (hV : Below W1.heap.size W1 V) => hT.below (HB1.out.trans (hV.mono HB1.out.size)))
  obtain ⟨W2, hW2⟩ : ∃ W2, W1.alloc (.cells #[.int .i64 6] 3) = W2 := ⟨_, rfl⟩
  have hb2 : Below W1.heap.size W1 W2 := by rw [← hW2]; exact (Below.refl _ _).alloc (Nat.le_refl _) _
  have HC1 := Lib.hid (count_any W2 a cap q (HH.out W2 hb2) hm (some ⟨W1.heap.size, 0, none⟩) 1 [6] (by rw [← hW2]; exact ints_1 W1 6) (by decide))
  have HOF := Lib.hid (fun (V : World) (hV : Below W1.heap.size W1 V) (op : Int) => ofc_any V tb a cap q (HH.out V hV) hm op 0)
  have HB2 := Lib.hid hb2
  have HL3 := Lib.hid (Nat.le_trans (List.length_filter_le (ocB 3 0) q) hm)
  have HL2 := Lib.hid (Nat.le_trans (List.length_filter_le (ocB 2 0) q) hm)
  obtain ⟨R, hR⟩ : ∃ R, pkB tb q = R := ⟨_, rfl⟩
  rw [hR]
  unfold pkB at hR
  obtain ⟨G1, hG1⟩ : ∃ G1, cnL [6] q = G1 := ⟨_, rfl⟩
  rw [hG1] at hR HC1
  have HR := Lib.hid hR
  generalize q.length = n at *
  clear hR hz hbx h hb2 hG1 hT
  go_enter Tryd.func35, Tryd.ntmps35
  go_wp2_with fail
  refine HC1.out.mono ?_
  rintro e w3 ⟨rfl, hb3⟩
  have hb13 := btr HB2.out hb3 HB2.out.size
  have HB3 := Lib.hid hb13
  have y0 : w3.cell? ⟨w.heap.size, 0, none⟩ = some (.string tb) := (HBX.out w3 hb13).cell rfl
  have y1 : w3.cell? ⟨w.heap.size, 1, none⟩ = some (.slice a n cap) := (HBX.out w3 hb13).cell rfl
  have HO2 := Lib.hid (HOF.out w3 hb13 2)
  clear hb3 HC1 hb13
  by_cases g1 : G1 = 0
  case pos =>
    obtain rfl : R = true := by rw [← HR.out, g1]; rfl
    have e1 : ((G1 : Int) == 0) = true := by rw [g1]; rfl
    have HBF := Lib.hid (btr HB1.out HB3.out HB1.out.size)
    go_wp2_with fail
    go_ret
    exact ⟨rfl, HBF.out⟩
  case neg =>
    have e1 : ((G1 : Int) == 0) = false := by simp; omega
    have HR1 := Lib.hid (show (match q.filter (ocB 2 0) with | [] => false | o :: _ => o.tab.toList == tb.toList && (q.filter (ocB 3 0)).all fun x => cvI x.part 5) = R by rw [← HR.out]; simp [g1])
    clear HR
    go_wp2_with fail
    refine HO2.out.mono ?_
    rintro e w4 ⟨v2, rfl, ho2, hb4⟩
    obtain ⟨a2, c2, rfl, hr2⟩ := RowA.own ho2
    have hb14 := btr HB3.out hb4 HB3.out.size
    have HB4 := Lib.hid hb14
    have x0 : w4.cell? ⟨w.heap.size, 0, none⟩ = some (.string tb) := (HBX.out w4 hb14).cell rfl
    have x1 : w4.cell? ⟨w.heap.size, 1, none⟩ = some (.slice a n cap) := (HBX.out w4 hb14).cell rfl
    have HR2 := Lib.hid hr2
    clear ho2 hb4 hb14 hr2 HO2
    obtain ⟨Q2, hQ2⟩ : ∃ Q2, q.filter (ocB 2 0) = Q2 := ⟨_, rfl⟩
    rw [hQ2] at HR1 HR2 HL2 ⊢
    clear hQ2
    cases Q2 with
    | nil =>
      have hr := HR1.out
      simp only at hr
      subst hr
      have HBF := Lib.hid (btr HB1.out HB4.out HB1.out.size)
      go_wp2_with fail
      go_quiet (fail)
      all_goals go_wp2_with fail
      go_ret
      exact ⟨rfl, btr HBF.out (bdrew _ _) HBF.out.size⟩
    | cons o2 r2 =>
      have HR' : (o2.tab.toList == tb.toList && (q.filter (ocB 3 0)).all fun x => cvI x.part 5) = R := HR1.out
      obtain ⟨g2, off2, rfl, hlt2, hra⟩ := HR2.out.at (i := 0) (x := o2) rfl
      rw [Nat.zero_mul, Nat.add_zero] at hra
      have f5 : w4.cell? ⟨g2, off2 + 5, none⟩ = some (.string o2.tab) := hra 5 _ rfl
      have HRA := Lib.hid hra
      obtain ⟨n2, hn2⟩ : ∃ n2, (o2 :: r2).length = n2 := ⟨_, rfl⟩
      have hn2p : 0 < n2 := by rw [← hn2]; simp
      have hl2 : n2 ≤ 1048576 := by rw [← hn2]; exact HL2.out
      have hc2 : n2 ≠ 0 := by omega
      have hp2 : (0 : Int) < n2 := by omega
      rw [hn2]
      clear hn2 hra HL2 HR1
      cases ct : o2.tab.toList == tb.toList with
      | false =>
        obtain rfl : R = false := by rw [← HR', ct]; rfl
        have HBF := Lib.hid (btr HB1.out HB4.out HB1.out.size)
        clear HR'
        go_wp2_with fail
        go_quiet (fail)
        all_goals go_wp2_with fail
        go_ret
        exact ⟨rfl, btr HBF.out (bdrew _ _) HBF.out.size⟩
      | true =>
        have HRR := Lib.hid (show ((q.filter (ocB 3 0)).all fun x => cvI x.part 5) = R by rw [← HR', ct]; rfl)
        clear HR'
        have HS := Lib.hid (show ∀ V, Below w4.heap.size w4 V → Below w4.heap.size w4 V ∧ V.cell? ⟨w.heap.size, 0, none⟩ = some (.string tb) ∧ V.cell? ⟨w.heap.size, 1, none⟩ = some (.slice a n cap) ∧ V.cell? ⟨g2, off2 + 5, none⟩ = some (.string o2.tab) from fun V hV => by
          have hV1 := btr HB4.out hV HB4.out.size
          exact ⟨hV, (HBX.out V hV1).cell rfl, (HBX.out V hV1).cell rfl, (hV.cell (p := ⟨g2, off2 + 5, none⟩) hlt2).trans (HRA.out 5 _ rfl)⟩)
        have hS0 := HS.out _ (Below.refl w4.heap.size w4).drew
        go_wp2_with fail
        go_region_held3 (fun w' => Below w4.heap.size w4 w' ∧ w'.cell? ⟨w.heap.size, 0, none⟩ = some (.string tb) ∧ w'.cell? ⟨w.heap.size, 1, none⟩ = some (.slice a n cap) ∧ w'.cell? ⟨g2, off2 + 5, none⟩ = some (.string o2.tab))
          (first | with_reducible exact hS0 | with_reducible exact hSA | with_reducible exact hSB)
          (first | (go_at_call 40; refine (HOF.out w4.drew (btr HB4.out hS0.1 HB4.out.size) 3).mono ?_; rintro e wA ⟨vA, rfl, hoA, hbA⟩; obtain ⟨a3, c3, rfl, hr3⟩ := RowA.own hoA; have hSA := HS.out wA (btr hS0.1 hbA hS0.1.size); have HAL := Lib.hid (allc_any wA (HTB.out wA (btr HB4.out hSA.1 HB4.out.size)) a3 c3 _ hr3 HL3.out 44 (fun x => x.part) 5 (enters_of Tryd.func44 (by kernel_rfl) rfl) rowm_any); rw [HRR.out] at HAL; clear hoA hbA hr3) | (go_at_call 42; refine HAL.out.mono ?_; rintro e wB ⟨rfl, hbB⟩; have hSB := HS.out wB (btr hSA.1 hbB hSA.1.size); have HBQ := Lib.hid (btr HB1.out (btr HB4.out hSB.1 HB4.out.size) HB1.out.size); clear hbB))
        go_wp2_with fail
        go_ret
        exact ⟨rfl, HBQ.out⟩

end Go.Proofs.YtgndbhgpdcelpaaDoor
