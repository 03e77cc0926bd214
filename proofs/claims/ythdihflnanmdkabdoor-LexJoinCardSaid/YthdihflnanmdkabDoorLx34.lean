/-
  The document's reserved words and names (haspref12): contracts over the translation.
  Conditions: none.
-/
import Derived.Test.YthdihflnanmdkabDoorLx33
import Derived.Test.YthdihflnanmdkabDoorLx27
import Derived.Deep.QuietTactic
import Derived.Deep.DeepCutAuto
import Derived.Deep.WholeRow
import Derived.Great.Walk
import Derived.Great.BuildSlice
namespace Go.Proofs.YthdihflnanmdkabDoor
set_option maxRecDepth 100000
open Go.RowKit Go.Joins Go.ChangeShapes Go.WideShapes Go.Great
set_option linter.unusedVariables false
set_option linter.unusedSimpArgs false

/-- the reserved words as the document's list has them -/
def resV : Array Value := (resW.map fun l => Value.string ⟨l.toArray⟩).toArray
theorem res_cell {W1 : World} {g : Nat} (hn : W1.heap[g]? = some (.cells resV 35 (0, 0))) (k : Nat) (hk : k < 37) : W1.cell? ⟨g, k, none⟩ = some (.string ⟨(resW.getD k []).toArray⟩) := by
  rw [cell_of_block hn]
  unfold resV
  have hl : k < resW.length := hk
  rw [List.getElem?_toArray, List.getElem?_map, List.getElem?_eq_getElem hl, List.getD_eq_getElem?_getD, List.getElem?_eq_getElem hl]
  rfl
theorem res_eq (s : ByteArray) (l : List UInt8) : (l == s.toList) = (s.toList == l) := by
  rw [Bool.eq_iff_iff]
  simp only [beq_iff_eq]
  exact ⟨fun h => h.symm, fun h => h.symm⟩
theorem res_yes (s : ByteArray) (k : Nat) (hk : k < 37) (h : (s.toList == resW.getD k []) = true) : resB s = true := by
  unfold resB
  refine List.any_eq_true.2 ⟨resW.getD k [], ?_, h⟩
  have hl : k < resW.length := hk
  rw [List.getD_eq_getElem?_getD, List.getElem?_eq_getElem hl]
  exact List.getElem_mem hl
theorem res_no (s : ByteArray) (h : ∀ j, j < 37 → (s.toList == resW.getD j []) = false) : resB s = false := by
  unfold resB
  refine List.any_eq_false.2 fun x hx => ?_
  obtain ⟨i, hi⟩ := List.getElem?_of_mem hx
  have hl : i < resW.length := (List.getElem?_eq_some_iff.1 hi).1
  have := h i hl
  rw [List.getD_eq_getElem?_getD, hi] at this
  simpa using this
set_option maxHeartbeats 1000000 in
theorem rres_any (s : ByteArray) (w : World) : Calls Tryd.prog 8 #[.string s] w fun e w' => e = .returned (.bool (resB s)) ∧ Below w.heap.size w w' := by
  go_enter Tryd.func8, Tryd.ntmps8
  go_upto_region 1 with fail
  refine wp_region_lit ?_
  refine wpList_buildTo rfl 35 _ rfl (some 5) rfl resV (by kernel_rfl) ?_
  refine wpList_allocTo rfl (some 3) rfl (.pointer (some ⟨w.heap.size, 0, none⟩)) (.cells (List.replicate 37 (Value.string ByteArray.empty)).toArray 35) (by kernel_rfl) ?_
  refine wpList_store_rowOf rfl 35 (.tmp 3) (.tmp 5) rfl w.heap.size rfl rfl 35 (List.replicate 37 (Value.string ByteArray.empty)).toArray (heap_alloc_new w _) (by kernel_rfl) (by kernel_rfl) (by kernel_rfl) ?_
  rw [show ∀ (x : Array Value), (w.alloc (.cells (List.replicate 37 (Value.string ByteArray.empty)).toArray 35)).setRow w.heap.size x = w.alloc (.cells x 35) from fun x => World.setRow_alloc_new w _ x _]
  refine wpList_frame (a' := ⟨#[.string s, undef, .bool false, .pointer (some ⟨w.heap.size, 0, none⟩), undef, .agg resV, undef, undef, undef, undef, undef, undef, undef, undef, undef], []⟩) (by kernel_rfl) ?_
  refine wpList_nil ?_
  show _
  generalize hW : w.alloc (.cells _ 35) = W1
  have hn := heap_alloc_new w (.cells resV 35)
  have hb := (Below.refl w.heap.size w).alloc (Nat.le_refl _) (.cells resV 35)
  change w.alloc (.cells resV 35) = W1 at hW
  rw [hW] at hn hb
  have HN := Lib.hid hn
  have HB := Lib.hid hb
  clear hW hn hb
  go_wp2_with fail
  go_loopw [4] (fun i wr => ∃ k : Nat, k ≤ 37 ∧ i = .int .i64 (k : Int) ∧ Hid (∀ j, j < k → (s.toList == resW.getD j []) = false) ∧ W1 = wr) (fun i _ => 37 - (intOf i).toNat)
  case atStart => exact ⟨0, by omega, rfl, Lib.hid (fun j h => absurd h (by omega)), by trivial⟩
  case round =>
    obtain ⟨k, hk, rfl, HJ, rfl⟩ := hrel
    by_cases hkn : k < 37
    · have hk2 : (k : Int) < 37 := by omega
      have hc := res_cell HN.out k hkn
      have he := res_eq s (resW.getD k [])
      have hyes := res_yes s k hkn
      obtain ⟨l, hl⟩ : ∃ l, resW.getD k [] = l := ⟨_, rfl⟩
      rw [hl] at hc he hyes
      have HY := Lib.hid (And.intro hyes hl)
      clear hyes hl
      have w5' : IntKind.i64.wrap ((k : Int) + 1) = (k : Int) + 1 := by rw [IntKind.wrap_i64]; omega
      obtain ⟨b, hb⟩ : ∃ b, (s.toList == l) = b := ⟨_, rfl⟩
      rw [hb] at he
      have HB2 := Lib.hid hb
      clear hb
      cases b with
      | true =>
        go_wp2_with fail
        go_ret
        exact ⟨by rw [HY.out.1 HB2.out]; rfl, HB.out⟩
      | false =>
        go_wp2_with fail
        refine ⟨⟨k + 1, by omega, by congr 1, Lib.hid (fun j hj => ?_), by trivial⟩, by simp [intOf]; omega⟩
        by_cases hjk : j < k
        · exact HJ.out j hjk
        · obtain rfl : j = k := by omega
          rw [HY.out.2]
          exact HB2.out
    · obtain rfl : k = 37 := by omega
      have hno := res_no s HJ.out
      have HNO := Lib.hid hno
      clear hno
      go_wp2_with fail
      go_ret
      exact ⟨by rw [HNO.out]; rfl, HB.out⟩

theorem in_iff (c : Nat) : inL c = ((lowL c == c) && (bwL c || dgL c)) := by
  unfold inL iwL lowL
  by_cases h : cpL c = true
  · rw [if_pos h, h]
    have : (c + 32 == c) = false := by simp
    rw [this]
    simp
  · have h2 : cpL c = false := by simpa using h
    rw [if_neg h, h2]
    simp
theorem runL_full {f : Nat → Bool} : ∀ (l : List Nat), (∀ j, j < l.length → f (l.getD j 0) = true) → runL f l = l.length
  | [], _ => rfl
  | c :: r, h => by
    rw [runL_cons, if_pos (show f c = true from h 0 (by simp)), runL_full r (fun j hj => h (j + 1) (by simp; omega))]
    rfl
theorem runL_short {f : Nat → Bool} : ∀ (l : List Nat) (j : Nat), j < l.length → f (l.getD j 0) = false → runL f l < l.length
  | [], j, h, _ => by simp at h
  | c :: r, j, h, hf => by
    rw [runL_cons]
    by_cases hc : f c = true
    · rw [if_pos hc]
      cases j with
      | zero =>
        rw [show (c :: r).getD 0 0 = c from rfl, hc] at hf
        cases hf
      | succ j =>
        have := runL_short r j (by simp at h; omega) hf
        simp
        omega
    · rw [if_neg hc]; simp
set_option maxHeartbeats 4000000 in
theorem rname_any (s : ByteArray) (w : World) : Calls Tryd.prog 10 #[.string s] w fun e w' => e = .returned (.bool (nameB s)) ∧ Below w.heap.size w w' := by
  obtain ⟨R, hR⟩ : ∃ R, nameB s = R := ⟨_, rfl⟩
  rw [hR]
  have HR := Lib.hid hR
  have HRR := Lib.hid (rres_any s w)
  clear hR
  go_enter Tryd.func10, Tryd.ntmps10
  by_cases c0 : s.size = 0
  · have hr : R = false := by rw [← HR.out]; unfold nameB; rw [c0]; rfl
    subst hr
    have k0 : decide ((s.size : Int) < 1) = true := by simp; omega
    go_wp2_with fail
    go_ret
    exact ⟨rfl, Below.refl _ _⟩
  have k0 : decide ((s.size : Int) < 1) = false := by simp; omega
  by_cases c1 : s.size ≤ 32
  · have k1 : decide ((32 : Int) < (s.size : Int)) = false := by simp; omega
    cases c3 : resB s with
    | true =>
      have hr : R = false := by rw [← HR.out]; unfold nameB; rw [c3]; simp
      subst hr
      rw [c3] at HRR
      go_wp2_with fail
      try go_at_call 8
      refine HRR.out.mono ?_
      rintro e w1 ⟨rfl, b1⟩
      have B1 := Lib.hid b1
      clear b1
      go_wp2_with fail
      go_ret
      exact ⟨rfl, B1.out⟩
    | false =>
      rw [c3] at HRR
      go_wp2_with fail
      try go_at_call 8
      refine HRR.out.mono ?_
      rintro e w1 ⟨rfl, b1⟩
      have B1 := Lib.hid b1
      have hp : 0 < s.size := by omega
      have hx0 : (s[0]'hp).toNat = (sl s).headD 0 := (sl_head hp).symm
      obtain ⟨c, hc⟩ : ∃ c, (sl s).headD 0 = c := ⟨_, rfl⟩
      rw [hc] at hx0
      have hc8 : c < 256 := by rw [← hx0]; exact (s[0]'hp).toNat_lt
      have HL := Lib.hid (rletter_any c w1 hc8)
      rw [ltL_eq] at HL
      have HC := Lib.hid hc
      clear b1 hc
      cases c4 : bwL c with
      | false =>
        have hr : R = false := by rw [← HR.out]; unfold nameB; rw [HC.out, c4]; simp
        subst hr
        rw [c4] at HL
        go_wp2_with fail
        try go_at_call 17
        refine HL.out.mono ?_
        rintro e w' ⟨rfl, rfl⟩
        go_wp2_with fail
        go_ret
        exact ⟨rfl, B1.out⟩
      | true =>
        have hr : R = (runL inL (sl s) == s.size) := by
          rw [← HR.out]
          unfold nameB
          rw [HC.out, c4, c3, decide_eq_true c1]
          simp [c0]
        have HRX := Lib.hid hr
        rw [c4] at HL
        go_wp2_with fail
        try go_at_call 17
        refine HL.out.mono ?_
        rintro e w' ⟨rfl, rfl⟩
        go_wp2_with fail
        clear HL hx0 hr
        go_loopw [3] (fun i wr => ∃ k : Nat, k ≤ s.size ∧ i = .int .i64 (k : Int) ∧ Hid (∀ j, j < k → inL ((sl s).getD j 0) = true) ∧ Below w.heap.size w wr) (fun i _ => s.size - (intOf i).toNat)
        case atStart => exact ⟨0, by omega, rfl, Lib.hid (fun j h => absurd h (by omega)), B1.out⟩
        case round =>
          obtain ⟨k, hk, rfl, HJ, hbw⟩ := hrel
          have HBW := Lib.hid hbw
          clear hbw
          by_cases hkn : k < s.size
          · have hk2 : (k : Int) < (s.size : Int) := by omega
            have hsx := (slx_get s k hkn).symm
            have hx8 := slx_lt s k
            have hii := in_iff ((sl s).getD k 0)
            have HNOT := Lib.hid (runL_short (f := inL) (sl s) k (by rw [sl_length]; exact hkn))
            obtain ⟨x, hx⟩ : ∃ x, (sl s).getD k 0 = x := ⟨_, rfl⟩
            rw [hx] at hsx hx8 hii HNOT
            have HX := Lib.hid hx
            clear hx
            have HM := Lib.hid (fun (m : Nat) => (rsmall_any x hx8 (wr.drewN m)).mono (R' := fun e w' => e = .returned (.int .u8 (smI x : Nat)) ∧ ∃ m', w' = wr.drewN m') (by rintro e w' ⟨rfl, rfl⟩; exact ⟨rfl, m, rfl⟩))
            have HLL := Lib.hid (fun (m : Nat) => (rletter_any x (wr.drewN m) hx8).mono (R' := fun e w' => e = .returned (.bool (ltL x)) ∧ ∃ m', w' = wr.drewN m') (by rintro e w' ⟨rfl, rfl⟩; exact ⟨rfl, m, rfl⟩))
            have HD := Lib.hid (fun (m : Nat) => (rdigit_any x (wr.drewN m) hx8).mono (R' := fun e w' => e = .returned (.bool (dgL x)) ∧ ∃ m', w' = wr.drewN m') (by rintro e w' ⟨rfl, rfl⟩; exact ⟨rfl, m, rfl⟩))
            rw [smI_low] at HM
            rw [ltL_eq] at HLL
            have w5' : IntKind.i64.wrap ((k : Int) + 1) = (k : Int) + 1 := by rw [IntKind.wrap_i64]; omega
            obtain ⟨y, hy⟩ : ∃ y, lowL x = y := ⟨_, rfl⟩
            rw [hy] at HM hii
            clear hy
            by_cases hyx : y = x
            · subst hyx
              have hq : ((y : Int) != (y : Int)) = false := by simp
              cases hb : bwL y with
              | true =>
                have hin : inL y = true := by rw [hii, hb]; simp
                rw [hb] at HLL
                go_wp2_with fail
                go_quiet (first | (go_at_call 18; exact HM.out _) | (go_at_call 17; exact HLL.out _) | (go_at_call 19; exact HD.out _))
                go_wp2_with fail
                refine ⟨⟨k + 1, by omega, by congr 1, Lib.hid (fun j hj => ?_), HBW.out.trans ⟨rfl, rfl, rfl, Nat.le_refl _, fun _ _ => rfl⟩⟩, by simp [intOf]; omega⟩
                by_cases hjk : j < k
                · exact HJ.out j hjk
                · obtain rfl : j = k := by omega
                  rw [HX.out]
                  exact hin
              | false =>
                cases hd : dgL y with
                | true =>
                  have hin : inL y = true := by rw [hii, hb, hd]; simp
                  rw [hb] at HLL
                  rw [hd] at HD
                  go_wp2_with fail
                  go_quiet (first | (go_at_call 18; exact HM.out _) | (go_at_call 17; exact HLL.out _) | (go_at_call 19; exact HD.out _))
                  go_wp2_with fail
                  refine ⟨⟨k + 1, by omega, by congr 1, Lib.hid (fun j hj => ?_), HBW.out.trans ⟨rfl, rfl, rfl, Nat.le_refl _, fun _ _ => rfl⟩⟩, by simp [intOf]; omega⟩
                  by_cases hjk : j < k
                  · exact HJ.out j hjk
                  · obtain rfl : j = k := by omega
                    rw [HX.out]
                    exact hin
                | false =>
                  have hin : inL y = false := by rw [hii, hb, hd]; simp
                  rw [hb] at HLL
                  rw [hd] at HD
                  have hr : R = false := by
                    have := HNOT.out hin
                    rw [HRX.out]
                    exact beq_eq_false_iff_ne.2 (by rw [sl_length] at this; omega)
                  subst hr
                  go_wp2_with fail
                  go_quiet (first | (go_at_call 18; exact HM.out _) | (go_at_call 17; exact HLL.out _) | (go_at_call 19; exact HD.out _))
                  go_wp2_with fail
                  go_ret
                  exact ⟨rfl, HBW.out.trans ⟨rfl, rfl, rfl, Nat.le_refl _, fun _ _ => rfl⟩⟩
            · have hin : inL x = false := by rw [hii, beq_eq_false_iff_ne.2 hyx]; rfl
              have hq : ((y : Int) != (x : Int)) = true := by rw [bne, beq_eq_false_iff_ne.2 (show (y : Int) ≠ (x : Int) by omega)]; rfl
              have hr : R = false := by
                have := HNOT.out hin
                rw [HRX.out]
                exact beq_eq_false_iff_ne.2 (by rw [sl_length] at this; omega)
              subst hr
              go_wp2_with fail
              go_quiet (first | (go_at_call 18; exact HM.out _) | (go_at_call 17; exact HLL.out _) | (go_at_call 19; exact HD.out _))
              go_wp2_with fail
              go_ret
              exact ⟨rfl, HBW.out.trans ⟨rfl, rfl, rfl, Nat.le_refl _, fun _ _ => rfl⟩⟩
          · have hk2 : decide ((k : Int) < (s.size : Int)) = false := by simp; omega
            obtain rfl : k = s.size := by omega
            have hfull := runL_full (f := inL) (sl s) (fun j hj => HJ.out j (by rw [sl_length] at hj; exact hj))
            have hr : R = true := by rw [HRX.out, hfull, sl_length]; simp
            subst hr
            clear hfull
            go_wp2_with fail
            go_ret
            exact ⟨rfl, HBW.out⟩
  · have hr : R = false := by rw [← HR.out]; unfold nameB; rw [decide_eq_false c1]; simp
    subst hr
    have k1 : decide ((32 : Int) < (s.size : Int)) = true := by simp; omega
    go_wp2_with fail
    go_ret
    exact ⟨rfl, Below.refl _ _⟩

end Go.Proofs.YthdihflnanmdkabDoor
