/-
  The document's comparison of whole numbers (SameInts): a contract over the translation.
  Conditions: the numbers lie in memory.
-/
import Derived.Test.YtccjeclncmogiaaNo22
import Derived.BigQuiet
namespace Go.Proofs.Ytccjeclncmogiaa
open Go.RowKit Go.Joins Go.ChangeShapes Go.WideShapes
open Go.MapKept
set_option linter.unusedVariables false
set_option linter.unnecessarySimpa false
set_option linter.unusedSimpArgs false

theorem take_eq_all {α : Type} {l r : List α} {n : Nat} (h : l.take n = r.take n) (h1 : l.length = n) (h2 : r.length = n) : l = r := by
  rw [List.take_of_length_le (Nat.le_of_eq h1), List.take_of_length_le (Nat.le_of_eq h2)] at h
  exact h
set_option maxHeartbeats 4000000 in
theorem sames_any (w : World) (B1 B2 : Nat) (v1 v2 : Value) (l1 l2 : List Int) (h1 : QI w B1 v1 l1) (h2 : QI w B2 v2 l2) :
    Calls Try.prog 11 #[v1, v2] w fun e w' => e = .returned (.bool (decide (l1 = l2))) ∧ Below w.heap.size w w' := by
  obtain ⟨a1, c1, e1, hc1, hm1, -⟩ := QR.form h1
  obtain ⟨a2, c2, e2, hc2, hm2, -⟩ := QR.form h2
  rw [icells_length] at e1 e2 hc1 hc2
  obtain ⟨n, hn⟩ : ∃ n, l1.length = n := ⟨_, rfl⟩
  obtain ⟨m, hm⟩ : ∃ m, l2.length = m := ⟨_, rfl⟩
  rw [hn] at e1 hc1
  rw [hm] at e2 hc2
  subst e1 e2
  have hn9 : n ≤ maxLen := Nat.le_trans hc1 hm1
  unfold maxLen at hn9
  have HH1 := Lib.hid h1
  have HH2 := Lib.hid h2
  have HN := Lib.hid hn
  have HM := Lib.hid hm
  by_cases c : n = m
  · subst c
    generalize hP : (fun (e : Ending) (w' : World) => e = .returned (.bool (decide (l1 = l2))) ∧ Below w.heap.size w w') = P
    have HP := Lib.hid hP
    clear hP h1 h2 hn hm hc1 hc2 hm1 hm2
    go_enter Try.func11, Try.ntmps11
    go_wp2_with fail
    go_loopw [5] (fun i wx => ∃ j : Nat, j ≤ n ∧ i = .int .i64 j ∧ Hid (Below w.heap.size w wx) ∧ Hid (l1.take j = l2.take j)) (fun i _ => n - (intOf i).toNat)
    case atStart => exact ⟨0, Nat.zero_le _, rfl, Lib.hid (Below.refl _ _), Lib.hid rfl⟩
    case round =>
      obtain ⟨j, hj, rfl, HB, HE⟩ := hrel
      by_cases cj : j < n
      · have cj1 : (j : Int) < (n : Int) := by omega
        obtain ⟨x, hx⟩ : ∃ x, l1[j]? = some x := ⟨_, List.getElem?_eq_getElem (by rw [HN.out]; exact cj)⟩
        obtain ⟨y, hy⟩ : ∃ y, l2[j]? = some y := ⟨_, List.getElem?_eq_getElem (by rw [HM.out]; exact cj)⟩
        have q1 : QI wr B1 (.slice a1 n c1) l1 := HH1.out.step (F := fun _ => False) (Frm.of_below HB.out) (fun _ _ e => e)
        have q2 : QI wr B2 (.slice a2 n c2) l2 := HH2.out.step (F := fun _ => False) (Frm.of_below HB.out) (fun _ _ e => e)
        obtain ⟨g1, o1, cap1, e1, -, -, -, -, -, d1⟩ := QR.at q1 (by rw [icells_length, HN.out]; omega)
        obtain ⟨g2, o2, cap2, e2, -, -, -, -, -, d2⟩ := QR.at q2 (by rw [icells_length, HM.out]; omega)
        injection e1 with e1 e1' e1''
        injection e2 with e2 e2' e2''
        subst e1 e2
        have x0 : wr.cell? ⟨g1, o1 + j, none⟩ = some (.int .i64 x) := d1 j _ (icells_at hx)
        have y0 : wr.cell? ⟨g2, o2 + j, none⟩ = some (.int .i64 y) := d2 j _ (icells_at hy)
        have HX := Lib.hid (And.intro hx hy)
        have hjw : IntKind.i64.wrap ((j : Int) + 1) = ((j + 1 : Nat) : Int) := by rw [IntWalk.i64_in _ (by omega)]; omega
        have HB2 := Lib.hid (fun (q : Nat) => show Below w.heap.size w (wr.drewN q) from HB.out.trans ⟨rfl, rfl, rfl, Nat.le_refl _, fun _ _ => rfl⟩)
        clear q1 q2 d1 d2 e1' e1'' e2' e2'' hx hy
        by_cases cxy : x = y
        · subst cxy
          have HE2 := Lib.hid (show l1.take (j + 1) = l2.take (j + 1) by rw [List.take_add_one, List.take_add_one, HX.out.1, HX.out.2, HE.out])
          go_upto_region 6 with fail
          go_quiet (fail)
          go_wp2_with fail
          go_roundw
          case rel => exact ⟨j + 1, by omega, by first | rfl | go_num, Lib.hid (HB2.out _), HE2⟩
          case measure => simp [intOf]; omega
        · have HF := Lib.hid (fun (q : Nat) => show P (.returned (.bool false)) (wr.drewN q) by
            rw [← HP.out]
            have : decide (l1 = l2) = false := by
              rw [decide_eq_false_iff_not]
              rintro rfl
              have h1 := HX.out.1
              rw [HX.out.2] at h1
              injection h1 with h1
              exact cxy h1.symm
            rw [this]
            exact ⟨rfl, HB2.out q⟩)
          have cxyd : (x == y) = false := by simp [cxy]
          go_upto_region 6 with fail
          go_quiet (fail)
          go_wp2_with fail
          exact HF.out _
      · obtain rfl : j = n := by omega
        have cf : decide ((j : Int) < (j : Int)) = false := by simp
        have HF := Lib.hid (show P (.returned (.bool true)) wr by
          rw [← HP.out, decide_eq_true (take_eq_all HE.out HN.out HM.out)]
          exact ⟨rfl, HB.out⟩)
        go_wp2_with fail
        exact HF.out
  · have hd : decide (l1 = l2) = false := by
      rw [decide_eq_false_iff_not]
      rintro rfl
      exact c (hn.symm.trans hm)
    rw [hd]
    have hmn : ¬ (n : Int) = (m : Int) := by omega
    clear h1 h2 hn hm hc1 hc2 hm1 hm2 hd
    go_enter Try.func11, Try.ntmps11
    go_wp2_with fail
    go_ret
    exact ⟨rfl, Below.refl _ _⟩

end Go.Proofs.Ytccjeclncmogiaa
