/-
  Does a code go over a source (norm's goesOver, the document's Over): contracts over the translation (layer 18).
  Conditions: the code lies in memory.
-/
import Derived.Test.YtccjeclncmogiaaNo14
import Derived.Test.YtccjeclncmogiaaNo12
namespace Go.Proofs.Ytccjeclncmogiaa
open Go.RowKit Go.Joins Go.ChangeShapes Go.WideShapes
set_option linter.unusedVariables false
set_option linter.unusedSimpArgs false

set_option maxRecDepth 100000 in
theorem clos_over {W : World} {x : XC} {t : Int} {g : Nat} {b : Bool} (h : ∀ wv, Below W.heap.size W wv → Calls Try.prog 28 #[x.val, .int .i64 t] wv fun e w' => e = .returned (.bool b) ∧ Below wv.heap.size wv w') (hb : Bx W g #[.int .i64 t] 3) :
    Calls Try.prog 34 #[x.val, .pointer (some ⟨g, 0, none⟩)] W fun e w' => e = .returned (.bool b) ∧ Below W.heap.size W w' := by
  obtain ⟨op, ty, a, cap, args, vk, vn, vs, tab, col⟩ := x
  obtain ⟨n, hn⟩ : ∃ n, args.length = n := ⟨_, rfl⟩
  simp only [XC.val] at h ⊢
  rw [hn] at h ⊢
  generalize hP : (fun (e : Ending) (w' : World) => e = .returned (.bool b) ∧ Below W.heap.size W w') = P
  have HP := Lib.hid hP
  have b1 : Below W.heap.size W (W.alloc (.cells (cel op ty (.slice a n cap) vk vn vs tab col) 26)) := (Below.refl _ _).alloc (Nat.le_refl _) _
  have hn1 := Bx.new W (cel op ty (.slice a n cap) vk vn vs tab col) 26
  obtain ⟨wa, hwa⟩ : ∃ wa, W.alloc (.cells (cel op ty (.slice a n cap) vk vn vs tab col) 26) = wa := ⟨_, rfl⟩
  rw [hwa] at b1 hn1
  have HC := Lib.hid (h wa b1)
  have HB := Lib.hid b1
  have t0 : wa.cell? ⟨g, 0, none⟩ = some (.int .i64 t) := (hb.below b1).cell rfl
  have k0 : wa.cell? ⟨W.heap.size, 0, none⟩ = some (.int .i64 op) := hn1.cell rfl
  have k1 : wa.cell? ⟨W.heap.size, 1, none⟩ = some (.int .i64 ty) := hn1.cell rfl
  have k2 : wa.cell? ⟨W.heap.size, 2, none⟩ = some (.slice a n cap) := hn1.cell rfl
  have k3 : wa.cell? ⟨W.heap.size, 3, none⟩ = some (.int .i64 vk) := hn1.cell rfl
  have k4 : wa.cell? ⟨W.heap.size, 4, none⟩ = some (.int .i64 vn) := hn1.cell rfl
  have k5 : wa.cell? ⟨W.heap.size, 5, none⟩ = some (.string vs) := hn1.cell rfl
  have k6 : wa.cell? ⟨W.heap.size, 6, none⟩ = some (.int .i64 tab) := hn1.cell rfl
  have k7 : wa.cell? ⟨W.heap.size, 7, none⟩ = some (.int .i64 col) := hn1.cell rfl
  clear hP b1 hn1 hn h hb
  go_enter Try.func34, Try.ntmps34
  go_wp2_with fail
  try go_at_call 28
  refine HC.out.mono ?_
  rintro e w3 ⟨rfl, b3⟩
  have HF := Lib.hid (show P (.returned (.bool b)) w3 by rw [← HP.out]; exact ⟨rfl, HB.out.trans (b3.mono HB.out.size)⟩)
  clear b3
  go_wp2_with fail
  exact HF.out
def OverQ (N : Nat) : Prop := ∀ (K : Bl) (w : World) (x : XC) (t : Int), depC x.er < N → XC.Mem K w x → Calls Try.prog 28 #[x.val, .int .i64 t] w fun e w' => e = .returned (.bool (over t x.er)) ∧ Below w.heap.size w w'
set_option maxRecDepth 100000 in
set_option maxHeartbeats 2000000 in
theorem over_q : ∀ N : Nat, OverQ N
  | 0 => fun K w x t h => absurd h (by omega)
  | N + 1 => fun K w x t h hm => by
    obtain ⟨op, ty, a, cap, args, vk, vn, vs, tab, col⟩ := x
    have hd := dep_arg h
    have hov : over t (XC.er (.mk op ty a cap args vk vn vs tab col)) = ((decide (op = 22) && decide (tab = t)) || args.any fun y => over t y.er) := by
      rw [XC.er, over, overL_any, XC.erL_map, List.any_map]; rfl
    rw [hov]
    have hbd := hm.row.bounds
    obtain ⟨n, hn⟩ : ∃ n, args.length = n := ⟨_, rfl⟩
    obtain ⟨R, hR⟩ : ∃ R, (args.any fun y => over t y.er) = R := ⟨_, rfl⟩
    rw [hR]
    generalize hP : (fun (e : Ending) (w' : World) => e = .returned (.bool ((decide (op = 22) && decide (tab = t)) || R)) ∧ Below w.heap.size w w') = P
    have HP := Lib.hid hP
    have b1 : Below w.heap.size w (w.alloc (.cells (cel op ty (.slice a n cap) vk vn vs tab col) 26)) := (Below.refl _ _).alloc (Nat.le_refl _) _
    have hn1 := Bx.new w (cel op ty (.slice a n cap) vk vn vs tab col) 26
    obtain ⟨wa, hwa⟩ : ∃ wa, w.alloc (.cells (cel op ty (.slice a n cap) vk vn vs tab col) 26) = wa := ⟨_, rfl⟩
    rw [hwa] at b1 hn1
    have hn2 := Bx.new wa #[.int .i64 t] 3
    have b2 : Below wa.heap.size wa (wa.alloc (.cells #[.int .i64 t] 3)) := (Below.refl _ _).alloc (Nat.le_refl _) _
    obtain ⟨wb, hwb⟩ : ∃ wb, wa.alloc (.cells #[.int .i64 t] 3) = wb := ⟨_, rfl⟩
    rw [hwb] at hn2 b2
    have hn3 := hn1.below b2
    have b3 := b1.trans (b2.mono b1.size)
    have HC := Lib.hid (contc_any wb a cap args (hm.row.below b3) (by have := hbd.1; have := hbd.2; unfold maxLen at *; omega) 34 #[.pointer (some ⟨wa.heap.size, 0, none⟩)] (fun y => over t y.er) (fun W y hy hb => clos_over (fun wv hv => over_q N K wv y t (hd y hy) ((XC.memL_iff.1 (by have := hm; unfold XC.Mem at this; exact this.2.2.2) y hy).below (b3.trans ((hb.trans (hv.mono hb.size)).mono b3.size)))) (hn2.below hb)) (enters_of Try.func34 (by kernel_rfl) rfl))
    rw [hR, hn] at HC
    have HB3 := Lib.hid b3
    have t0 : wb.cell? ⟨wa.heap.size, 0, none⟩ = some (.int .i64 t) := hn2.cell rfl
    have l0 : wb.cell? ⟨w.heap.size, 0, none⟩ = some (.int .i64 op) := hn3.cell rfl
    have l1 : wb.cell? ⟨w.heap.size, 1, none⟩ = some (.int .i64 ty) := hn3.cell rfl
    have l2 : wb.cell? ⟨w.heap.size, 2, none⟩ = some (.slice a n cap) := hn3.cell rfl
    have l3 : wb.cell? ⟨w.heap.size, 3, none⟩ = some (.int .i64 vk) := hn3.cell rfl
    have l4 : wb.cell? ⟨w.heap.size, 4, none⟩ = some (.int .i64 vn) := hn3.cell rfl
    have l5 : wb.cell? ⟨w.heap.size, 5, none⟩ = some (.string vs) := hn3.cell rfl
    have l6 : wb.cell? ⟨w.heap.size, 6, none⟩ = some (.int .i64 tab) := hn3.cell rfl
    have l7 : wb.cell? ⟨w.heap.size, 7, none⟩ = some (.int .i64 col) := hn3.cell rfl
    simp only [XC.val]
    rw [hn]
    clear hP b1 hn1 b2 hn2 hn3 b3 hm hd hbd hov hR hn h
    go_enter Try.func28, Try.ntmps28
    by_cases c : op = 22
    · subst c
      by_cases c2 : tab = t
      · subst c2
        have HF := Lib.hid (show P (.returned (.bool true)) wb by rw [← HP.out]; exact ⟨by simp, HB3.out⟩)
        go_wp2_with fail
        exact HF.out
      · have c3 : (tab == t) = false := by simp [c2]
        go_wp2_with fail
        try go_at_call 33
        refine HC.out.mono ?_
        rintro e w3 ⟨rfl, b4⟩
        have HF := Lib.hid (show P (.returned (.bool R)) w3 by rw [← HP.out]; exact ⟨by simp [c2], HB3.out.trans (b4.mono HB3.out.size)⟩)
        clear b4
        go_wp2_with fail
        exact HF.out
    · have c3 : (op == 22) = false := by simp [c]
      go_wp2_with fail
      try go_at_call 33
      refine HC.out.mono ?_
      rintro e w3 ⟨rfl, b4⟩
      have HF := Lib.hid (show P (.returned (.bool R)) w3 by rw [← HP.out]; exact ⟨by simp [c], HB3.out.trans (b4.mono HB3.out.size)⟩)
      clear b4
      go_wp2_with fail
      exact HF.out
/-- the document's -/
def RovQ (N : Nat) : Prop := ∀ (K : Bl) (w : World) (x : XC) (t : Int), depC x.er < N → XC.Mem K w x → Calls Try.prog 23 #[x.val, .int .i64 t] w fun e w' => e = .returned (.bool (over t x.er)) ∧ Below w.heap.size w w'
set_option maxRecDepth 100000 in
set_option maxHeartbeats 2000000 in
theorem rover_q : ∀ N : Nat, RovQ N
  | 0 => fun K w x t h => absurd h (by omega)
  | N + 1 => fun K w x t h hm => by
    obtain ⟨op, ty, a, cap, args, vk, vn, vs, tab, col⟩ := x
    have hd := dep_arg h
    have hov : over t (XC.er (.mk op ty a cap args vk vn vs tab col)) = ((decide (op = 22) && decide (tab = t)) || args.any fun y => over t y.er) := by
      rw [XC.er, over, overL_any, XC.erL_map, List.any_map]; rfl
    rw [hov]
    have hbd := hm.row.bounds
    have HI := Lib.hid (fun (wv : World) (y : XC) (hy : y ∈ args) (hb : Below w.heap.size w wv) => rover_q N K wv y t (hd y hy) ((XC.memL_iff.1 (by have := hm; unfold XC.Mem at this; exact this.2.2.2) y hy).below hb))
    obtain ⟨n, hn⟩ : ∃ n, args.length = n := ⟨_, rfl⟩
    obtain ⟨R, hR⟩ : ∃ R, (args.any fun y => over t y.er) = R := ⟨_, rfl⟩
    rw [hR]
    generalize hP : (fun (e : Ending) (w' : World) => e = .returned (.bool ((decide (op = 22) && decide (tab = t)) || R)) ∧ Below w.heap.size w w') = P
    have HP := Lib.hid hP
    have HR := Lib.hid hR
    have HN := Lib.hid hn
    have HROW := Lib.hid hm.row
    have hnc : n ≤ cap ∧ cap ≤ maxLen := by rw [← hn]; exact hbd
    have b1 : Below w.heap.size w (w.alloc (.cells (cel op ty (.slice a n cap) vk vn vs tab col) 26)) := (Below.refl _ _).alloc (Nat.le_refl _) _
    have hn1 := Bx.new w (cel op ty (.slice a n cap) vk vn vs tab col) 26
    obtain ⟨wb, hwb⟩ : ∃ wa, w.alloc (.cells (cel op ty (.slice a n cap) vk vn vs tab col) 26) = wa := ⟨_, rfl⟩
    rw [hwb] at b1 hn1
    have HB3 := Lib.hid b1
    have HBX := Lib.hid hn1
    have l0 : wb.cell? ⟨w.heap.size, 0, none⟩ = some (.int .i64 op) := hn1.cell rfl
    have l2 : wb.cell? ⟨w.heap.size, 2, none⟩ = some (.slice a n cap) := hn1.cell rfl
    have l6 : wb.cell? ⟨w.heap.size, 6, none⟩ = some (.int .i64 tab) := hn1.cell rfl
    simp only [XC.val]
    rw [hn]
    clear hP b1 hn1 hm hd hbd hov hR hn h
    go_enter Try.func23, Try.ntmps23
    by_cases c : op = 22 ∧ tab = t
    · obtain ⟨rfl, rfl⟩ := c
      have HF := Lib.hid (show P (.returned (.bool true)) wb by rw [← HP.out]; exact ⟨by simp, HB3.out⟩)
      go_wp2_with fail
      exact HF.out
    · have HFI := Lib.hid (fun (w' : World) (hb : Below w.heap.size w w') => show P (.returned (.bool R)) w' by
        rw [← HP.out]
        refine ⟨?_, hb⟩
        by_cases c1 : op = 22 <;> by_cases c2 : tab = t <;> simp [c1, c2] at c ⊢)
      have hc : (op == 22) = false ∨ (op = 22 ∧ (tab == t) = false) := by
        by_cases c1 : op = 22
        · exact .inr ⟨c1, by simp; exact fun c2 => c ⟨c1, c2⟩⟩
        · exact .inl (by simp [c1])
      rcases hc with hc | ⟨rfl, hc⟩
      all_goals
        clear c HP
        go_wp2_with fail
        go_loopw [5] (fun i wr => ∃ k : Nat, k ≤ n ∧ i = .int .i64 (k : Int) ∧ Hid (Below wb.heap.size wb wr ∧ ∀ j y, j < k → args[j]? = some y → over t y.er = false)) (fun i _ => n - (intOf i).toNat)
        case atStart => exact ⟨0, Nat.zero_le _, rfl, Lib.hid ⟨Below.refl _ _, fun j y hj => absurd hj (by omega)⟩⟩
        case round =>
          obtain ⟨k, hk, rfl, HW⟩ := hrel
          have z2 : wr.cell? ⟨w.heap.size, 2, none⟩ = some (.slice a n cap) := (HBX.out.below HW.out.1).cell rfl
          by_cases c : k < n
          · have c1 : (k : Int) < (n : Int) := by omega
            obtain ⟨y, hy⟩ : ∃ y, args[k]? = some y := ⟨_, List.getElem?_eq_getElem (by rw [HN.out]; exact c)⟩
            obtain ⟨b, o, rfl, -, hb, hcell, -⟩ := XC.Row.at (HROW.out.below (HB3.out.trans (HW.out.1.mono HB3.out.size))) hy
            obtain ⟨q, hq⟩ : ∃ q, over t y.er = q := ⟨_, rfl⟩
            have HCA := Lib.hid (HI.out wr y (List.mem_of_getElem? hy) (HB3.out.trans (HW.out.1.mono HB3.out.size)))
            rw [hq] at HCA
            have HY := Lib.hid (And.intro hy hq)
            have HLD := Lib.hid (ld_C (x := y) hcell)
            have hwk : wrap64 ((k : Int) + 1) = ((k + 1 : Nat) : Int) := by unfold wrap64 maxLen at *; omega
            clear hy hq hcell
            cases q with
            | true =>
              go_wp2_with (refine wpLd rfl _ rfl rfl HLD.out ?_; clear HLD)
              refine HCA.out.mono ?_
              rintro e w4 ⟨rfl, b4⟩
              have HF := Lib.hid (show P (.returned (.bool true)) w4 by
                have hRt : R = true := by
                  rw [← HR.out, List.any_eq_true]
                  exact ⟨y, List.mem_of_getElem? HY.out.1, HY.out.2⟩
                have := HFI.out w4 (HB3.out.trans ((HW.out.1.trans (b4.mono HW.out.1.size)).mono HB3.out.size))
                rwa [hRt] at this)
              clear b4
              go_wp2_with fail
              exact HF.out
            | false =>
              go_wp2_with (refine wpLd rfl _ rfl rfl HLD.out ?_; clear HLD)
              refine HCA.out.mono ?_
              rintro e w4 ⟨rfl, b4⟩
              have HW4 : Hid (Below wb.heap.size wb w4 ∧ ∀ j y, j < k + 1 → args[j]? = some y → over t y.er = false) := Lib.hid ⟨HW.out.1.trans (b4.mono HW.out.1.size), fun j z hj hz => by
                by_cases e : j = k
                · subst e
                  rw [HY.out.1] at hz
                  injection hz with hz
                  rw [← hz]; exact HY.out.2
                · exact HW.out.2 j z (by omega) hz⟩
              clear b4
              go_wp2_with fail
              refine ⟨⟨k + 1, by omega, by rw [hwk], HW4⟩, ?_⟩
              rw [hwk]
              simp [intOf]
              omega
          · obtain rfl : k = n := by omega
            have c1 : decide ((k : Int) < (k : Int)) = false := by simp
            have HF := Lib.hid (show P (.returned (.bool false)) wr by
              have hRf : R = false := by
                rw [← HR.out, List.any_eq_false]
                intro y hy
                obtain ⟨j, hj⟩ := List.getElem?_of_mem hy
                have := HW.out.2 j y (by rw [← HN.out]; exact (List.getElem?_eq_some_iff.1 hj).1) hj
                simp [this]
              have := HFI.out wr (HB3.out.trans (HW.out.1.mono HB3.out.size))
              rwa [hRf] at this)
            go_wp2_with fail
            exact HF.out

end Go.Proofs.Ytccjeclncmogiaa
