/-
  A step of the program's search (package waits): a contract over the translation.
  Conditions: the search lies in memory.
-/
import Derived.Test.YtlhipnklljjahaaWt19
namespace Go.Proofs.Ytlhipnklljjahaa
open Go.RowKit Go.Joins Go.ChangeShapes Go.WideShapes
open Go.MapKept
set_option linter.unusedVariables false
set_option linter.unnecessarySimpa false
set_option linter.unusedSimpArgs false

theorem World.grownBy_refl' (w : World) (r : Option Nat) : w.grownBy w r := ⟨rfl, rfl, rfl, Nat.le_refl _, fun _ _ _ => rfl⟩
set_option maxRecDepth 100000 in
set_option maxHeartbeats 4000000 in
theorem step_any {w0 w : World} {B sb b mb n : Nat} {f : Int → Option Value} {M : Int → List Int} {v7 : Value} {P met : List Int} {x a : Int} {E : List Eg} (h : Sm w0 w B sb b mb f n M v7 (P ++ [x]) met) (hs : SeI E a M (P ++ [x]) met) (ha : a ∉ M x) (hm : E.length ≤ 1048576) :
    Calls Try.prog 31 #[.pointer (some ⟨sb, 0, none⟩)] w fun e w' => e = .returned (.tuple #[]) ∧ ∃ f' n' M' v' P' met', Sm w0 w' B sb b mb f' n' M' v' P' met' ∧ SeI E a M' P' met' ∧ msS E P' met' < msS E (P ++ [x]) met := by
  generalize hP : (fun (e : Ending) (w' : World) => e = .returned (.tuple #[]) ∧ ∃ f' n' M' v' P' met', Sm w0 w' B sb b mb f' n' M' v' P' met' ∧ SeI E a M' P' met' ∧ msS E P' met' < msS E (P ++ [x]) met) = PP
  have HP := Lib.hid hP
  have HEN := Lib.hid (fun w' f' n' M' v' P' met' (h1 : Sm w0 w' B sb b mb f' n' M' v' P' met') (h2 : SeI E a M' P' met' ∧ msS E P' met' < msS E (P ++ [x]) met) => show PP (.returned (.tuple #[])) w' by
    rw [← HP.out]
    exact ⟨rfl, f', n', M', v', P', met', h1, h2.1, h2.2⟩)
  obtain ⟨l0, hl0⟩ : ∃ n, P.length = n := ⟨_, rfl⟩
  have hll : (icells (P ++ [x])).length = l0 + 1 := by simp [icells, hl0]
  obtain ⟨g7, o7, c7, e7, k7, m7, -, -, -, d7⟩ := QR.at h.wy (by rw [hll]; omega)
  have d0 := d7 l0 (.int .i64 x) (by rw [← hl0]; simp [icells])
  rw [hll] at e7 k7
  subst e7
  have hlb : l0 ≤ 1048577 := by have h1 := hs.le; have h2 := hs.un; simp [hl0] at h1; omega
  have hq1 : (l0 : Int) < (l0 : Int) + 1 := by omega
  have w1 : IntKind.i64.wrap (l0 : Int) = (l0 : Int) := by rw [IntKind.wrap_i64]; omega
  obtain ⟨c0, -, c2, -⟩ := h.cells
  have HSM := Lib.hid h
  have HSE := Lib.hid hs
  have HA := Lib.hid ha
  have HM := Lib.hid hm
  have HL0 := Lib.hid hl0
  clear hP h hs ha hm hl0 hll d7
  go_enter Try.func31, Try.ntmps31
  go_upto_region 0 with fail
  go_quiet (fail)
  obtain ⟨wa, hwa⟩ : ∃ W, w.drewN nq = W := ⟨_, rfl⟩
  have HS1 := Lib.hid (show Sm w0 wa B sb b mb f n M (.slice (some ⟨g7, o7, none⟩) (l0 + 1) c7) (P ++ [x]) met by rw [← hwa]; exact HSM.out.below (bdrew w _))
  rw [hwa]
  clear hwa HSM c0 c2 d0
  obtain ⟨c0, -, -, -⟩ := HS1.out.cells
  obtain ⟨A1, B1, O1, C1, ev, kv, mv, ha1, hb1⟩ := (HS1.out.gr.row x).isN
  have hlk := HS1.out.gr.look x
  rw [ev] at hlk
  obtain ⟨m, hm⟩ : ∃ m, (M x).length = m := ⟨_, rfl⟩
  have HML := Lib.hid hm
  have HMB := Lib.hid (show m ≤ 1048576 by
    have h1 := (HSE.out.sub x).length_le
    have h2 := Sx_len x E
    have h3 := HM.out
    omega)
  rw [hm] at hlk kv
  have HEV := Lib.hid ev
  have HA1 := Lib.hid ha1
  have hmb := HMB.out
  clear hm ev ha1 hb1
  go_wp2_with fail
  go_loopw [27] (fun i wx => ∃ q : Nat, q ≤ m ∧ i = .int .i64 q ∧ Hid (Sm w0 wx B sb b mb f n M (.slice (some ⟨g7, o7, none⟩) (l0 + 1) c7) (P ++ [x]) met) ∧ Hid (∀ z ∈ (M x).take q, z ∈ met)) (fun i _ => m - (intOf i).toNat)
  case atStart => exact ⟨0, Nat.zero_le _, rfl, HS1, fun z hz => by simp at hz⟩
  case round =>
    clear HS1 c0 hlk
    obtain ⟨q, hq, rfl, HR, HT⟩ := hrel
    obtain ⟨c0, c1, c2, z2⟩ := HR.out.cells
    by_cases c : q < m
    · have c3 : (q : Int) < (m : Int) := by omega
      obtain rfl : A1 = some ⟨B1, O1, none⟩ := by rcases HA1.out with h | h; (have := HML.out; omega); exact h
      obtain ⟨y, hy⟩ : ∃ y, (M x)[q]? = some y := ⟨_, List.getElem?_eq_getElem (by rw [HML.out]; exact c)⟩
      have hrow := HR.out.gr.row x
      rw [HEV.out] at hrow
      have a0 := (QI.cellN hrow).c q y hy
      have hlm := HR.out.mt.look y
      have HY := Lib.hid hy
      obtain ⟨w5, hw5⟩ : ∃ W, wr.alloc (.cells #[] 57) = W := ⟨_, rfl⟩
      have b5 : Below wr.heap.size wr w5 := by rw [← hw5]; exact (Below.refl _ _).alloc (Nat.le_refl _) _
      have HR5 := Lib.hid (HR.out.below b5)
      clear hy hrow b5
      by_cases hm : y ∈ met
      · rw [decide_eq_true hm] at hlm
        have HF := Lib.hid (show ∀ z ∈ (M x).take (q + 1), z ∈ met from fun z hz => by
          rw [List.take_add_one, HY.out] at hz
          rcases List.mem_append.1 hz with g | g
          · exact HT.out z g
          · simp at g; rw [g]; exact hm)
        clear hm
        go_wp2_with fail
        exact ⟨⟨q + 1, by omega, by go_num, HR5, HF⟩, by simp [intOf]; omega⟩
      · rw [decide_eq_false hm] at hlm
        have HNM := Lib.hid hm
        obtain ⟨e0, e1, e2, -⟩ := HR5.out.cells
        have hlk5 := (HR5.out.below (Below.refl _ w5).drew).gr.look x
        rw [HEV.out, HML.out] at hlk5
        have w2 : IntKind.i64.wrap ((q : Int) + 1) = ((q + 1 : Nat) : Int) := by rw [IntKind.wrap_i64]; omega
        have hk1 : ((q + 1 : Nat) : Int) ≤ (m : Int) := by omega
        have hk2 : (m : Int) ≤ (C1 : Int) := by omega
        have hk3 : (q : Int) + 1 ≤ (m : Int) := by omega
        have hk4 : (0 : Int) ≤ (q : Int) + 1 := by omega
        obtain ⟨vn, hvn⟩ : ∃ v, Value.slice (if C1 = q + 1 then some ⟨B1, O1, none⟩ else some ⟨B1, O1 + (q + 1), none⟩) (m - (q + 1)) (C1 - (q + 1)) = v := ⟨_, rfl⟩
        have h5d := HR5.out.below (Below.refl _ w5).drew
        have hrow5 := h5d.gr.row x
        rw [HEV.out, HML.out] at hrow5
        have hq5 : QI w5.drew B vn ((M x).drop (q + 1)) := by
          have hd : ∀ o', (o' = O1 + (q + 1) ∨ (o' = O1 ∧ C1 = q + 1)) → QI w5.drew B (.slice (some ⟨B1, o', none⟩) (m - (q + 1)) (C1 - (q + 1))) ((M x).drop (q + 1)) := fun o' ho => by
            have := QR.drop hrow5 (q + 1) (by omega) o' ho
            unfold QI
            rw [icells_drop]
            exact this
          rw [← hvn]
          split
          · exact hd _ (.inr ⟨rfl, by assumption⟩)
          · exact hd _ (.inl rfl)
        obtain ⟨w6, n6, hput, hg6, hf6⟩ := h5d.gr.put x hq5
        have H6 := Lib.hid (h5d.graph hf6 hg6 (fun z k hk => by
          split at hk
          · have hB1 : k = B1 := by
              simp only [Option.getD_some] at hk
              rw [← hvn] at hk
              split at hk <;> simp [Value.ownBlock] at hk <;> exact hk.symm
            have := h5d.rl x k (by rw [HEV.out, hB1]; rfl)
            exact this
          · exact h5d.rl z k hk))
        have HEL := Lib.hid (show (P ++ [x]).length ≤ 4294967297 by have h1 := HL0.out; simp [h1]; omega)
        have HEY := Lib.hid (enter_any H6.out HEL.out y)
        have HSN := Lib.hid (HSE.out.enter HA.out HY.out HNM.out HT.out)
        have HVN := Lib.hid hvn
        rw [← hvn] at hput
        clear h5d hrow5 hq5 hg6 hf6 hvn
        clear hm
        go_upto_region 6 with fail
        refine wp_region_still_tail 16 (by kernel_rfl) (by kernel_rfl) ?_
        simp only [List.take_succ_cons, List.take_zero, List.drop_succ_cons, List.drop_zero]
        iterate 16 still_step
        refine wpStill_nil ?_
        change wpList _ _ _ _ _ w5.drew
        go_wp2_with fail
        all_goals
          refine HEY.out.mono ?_
          rintro e w7 ⟨rfl, v8, h8⟩
          have HF := Lib.hid (HEN.out w7 _ _ _ _ _ _ h8 HSN.out)
          clear h8
          go_wp2_with fail
          first | exact HF.out | (go_end0; exact HF.out)
    · obtain rfl : q = m := by omega
      obtain ⟨w5, n5, hdel, hg5, hf5⟩ := HR.out.gr.del x 0
      have H5 := Lib.hid (HR.out.graph hf5 hg5 (fun z k hk => by
        split at hk
        · simp [Value.ownBlock] at hk
        · exact HR.out.rl z k hk))
      obtain ⟨e0, e1, e2, z5⟩ := H5.out.cells
      have hall : ∀ z ∈ M x, z ∈ met := fun z hz => HT.out z (by rw [List.take_of_length_le (by rw [HML.out]; exact Nat.le_refl _)]; exact hz)
      have HSN := Lib.hid (HSE.out.pop HA.out hall)
      have hcut : (P ++ [x]).take l0 = P := by rw [← HL0.out]; exact snoc_cut P x
      have HQ := Lib.hid (show QI w5.drew w0.heap.size (.slice (some ⟨g7, o7, none⟩) l0 c7) P by
        have := QR.cut (QI.below H5.out.wy (Below.refl _ w5).drew) l0 (by simp [icells, HL0.out])
        rw [← icells_take, hcut] at this
        exact this)
      have HF := Lib.hid (HEN.out _ _ _ _ _ _ _ ((H5.out.below (Below.refl _ w5).drew).way (wy := w5.drew) (World.grownBy_refl' _ _) HQ.out) HSN.out)
      have l1 : (l0 : Int) ≤ (c7 : Int) := by omega
      have l2 : (l0 : Int) ≤ (l0 : Int) + 1 := by omega
      have z6 := z5 2
      clear hg5 hf5 hall hcut HR HT c1 c2 z2
      go_upto_region 10 with fail
      refine wp_region_still_tail 14 (by kernel_rfl) (by kernel_rfl) ?_
      simp only [List.take_succ_cons, List.take_zero, List.drop_succ_cons, List.drop_zero]
      iterate 14 still_step
      refine wpStill_nil ?_
      change wpList _ _ _ _ _ w5.drew
      go_wp2_with fail
      first | exact HF.out | (go_end0; exact HF.out)

end Go.Proofs.Ytlhipnklljjahaa
