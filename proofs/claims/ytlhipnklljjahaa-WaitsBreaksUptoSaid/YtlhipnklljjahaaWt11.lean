/-
  One of each of a sorted row of edges (slices.Compact): a contract over the translation.
  Conditions: the edges lie in memory, sorted.
-/
import Derived.Test.YtlhipnklljjahaaWt10
namespace Go.Proofs.Ytlhipnklljjahaa
open Go.RowKit Go.Joins Go.ChangeShapes Go.WideShapes
set_option linter.unusedVariables false
set_option linter.unnecessarySimpa false
set_option linter.unusedSimpArgs false

theorem EdW.at {w : World} {g off : Nat} {E : List Eg} (h : EdW w g off E) {i : Nat} {e : Eg} (hi : E[i]? = some e) : w.cell? ⟨g, off + i * 2, none⟩ = some (.int .i64 e.1) ∧ w.cell? ⟨g, off + i * 2 + 1, none⟩ = some (.int .i64 e.2) ∧ w.frozen? ⟨g, off + i * 2, none⟩ = false ∧ w.frozen? ⟨g, off + i * 2 + 1, none⟩ = false := by
  have hl := (List.getElem?_eq_some_iff.1 hi).1
  have f0 := h.fr (i * 2) (by omega)
  have f1 := h.fr (i * 2 + 1) (by omega)
  rw [← Nat.add_assoc] at f1
  exact ⟨h.eg.c0 i e.1 e.2 hi, h.eg.c1 i e.1 e.2 hi, f0, f1⟩
/-- a prefix of what stands there -/
theorem EdW.front {w : World} {g off : Nat} {C R : List Eg} (h : EdW w g off (C ++ R)) : EdW w g off C :=
  ⟨⟨fun _ => h.lt, fun i x y hx => h.eg.c0 i x y (by rw [List.getElem?_append_left (List.getElem?_eq_some_iff.1 hx).1]; exact hx), fun i x y hx => h.eg.c1 i x y (by rw [List.getElem?_append_left (List.getElem?_eq_some_iff.1 hx).1]; exact hx)⟩,
    fun j hj => h.fr j (by rw [List.length_append]; omega), h.lt⟩
theorem leE_lt {x y z : Eg} (h : leE x y) (g : ltE y z) : ltE x z := by
  rcases h with h | rfl
  · unfold ltE at *; omega
  · exact g
/-- the edges looked at so far, one of each -/
structure CoI (E C : List Eg) (j : Nat) : Prop where
  lt : C.Pairwise ltE
  mem : ∀ e, e ∈ C ↔ e ∈ E.take j
  le : ∀ e ∈ C, ∀ z, E[j - 1]? = some z → leE e z
  jn : j ≤ E.length
theorem pw_at {E : List Eg} (hs : E.Pairwise leE) {i j : Nat} {x y : Eg} (hij : i < j) (hx : E[i]? = some x) (hy : E[j]? = some y) : leE x y := by
  have h1 := (List.getElem?_eq_some_iff.1 hx)
  have h2 := (List.getElem?_eq_some_iff.1 hy)
  obtain ⟨l1, e1⟩ := h1
  obtain ⟨l2, e2⟩ := h2
  have := List.pairwise_iff_getElem.1 hs i j l1 l2 hij
  rw [e1, e2] at this
  exact this
theorem CoI.one {E : List Eg} (hl : 0 < E.length) : CoI E (E.take 1) 1 := by
  cases E with
  | nil => simp at hl
  | cons e r =>
    refine ⟨by simp, fun x => by simp, fun x hx z hz => ?_, by simp⟩
    simp at hx hz
    subst hx hz
    exact .inr rfl
theorem CoI.same {E C : List Eg} {j : Nat} (hs : E.Pairwise leE) (h : CoI E C j) (hj : 0 < j) {e : Eg} (h1 : E[j]? = some e) (h0 : E[j - 1]? = some e) : CoI E C (j + 1) := by
  have hmem : e ∈ E.take j := List.mem_of_getElem? (i := j - 1) (by rw [List.getElem?_take, if_pos (by omega)]; exact h0)
  refine ⟨h.lt, fun x => ?_, fun x hx z hz => ?_, (List.getElem?_eq_some_iff.1 h1).1⟩
  · rw [h.mem, List.take_add_one, h1]
    simp only [Option.toList_some, List.mem_append, List.mem_singleton]
    constructor
    · exact .inl
    · rintro (g | rfl)
      · exact g
      · exact hmem
  · rw [Nat.add_sub_cancel, h1] at hz
    injection hz with hz
    subst hz
    exact h.le x hx e h0
theorem CoI.more {E C : List Eg} {j : Nat} (hs : E.Pairwise leE) (h : CoI E C j) (hj : 0 < j) {e d : Eg} (h1 : E[j]? = some e) (h0 : E[j - 1]? = some d) (hne : e ≠ d) : CoI E (C ++ [e]) (j + 1) := by
  have hlt : ltE d e := by
    rcases pw_at hs (by omega : j - 1 < j) h0 h1 with g | g
    · exact g
    · exact absurd g.symm hne
  refine ⟨?_, fun x => ?_, fun x hx z hz => ?_, (List.getElem?_eq_some_iff.1 h1).1⟩
  · rw [List.pairwise_append]
    refine ⟨h.lt, by simp, fun x hx y hy => ?_⟩
    simp at hy
    subst hy
    exact leE_lt (h.le x hx d h0) hlt
  · rw [List.take_add_one, h1]
    simp only [Option.toList_some, List.mem_append, List.mem_singleton]
    rw [h.mem]
  · rw [Nat.add_sub_cancel, h1] at hz
    injection hz with hz
    subst hz
    rcases List.mem_append.1 hx with g | g
    · exact .inl (leE_lt (h.le x g d h0) hlt)
    · simp at g; exact .inr g
theorem CoI.take {E : List Eg} {k : Nat} (h : CoI E (E.take k) k) {e : Eg} (h1 : E[k]? = some e) : E.take k ++ [e] = E.take (k + 1) := by rw [List.take_add_one, h1]; rfl
theorem bdrew (w : World) (n : Nat) : Below w.heap.size w (w.drewN n) := ⟨rfl, rfl, rfl, Nat.le_refl _, fun _ _ => rfl⟩
theorem EdW.kept {w w' : World} {g off : Nat} {C : List Eg} (h : EdW w g off C) (hs : w.heap.size ≤ w'.heap.size) (hc : ∀ i, i < off + C.length * 2 → w'.cell? ⟨g, i, none⟩ = w.cell? ⟨g, i, none⟩) (hf : ∀ a, w'.frozen? a = w.frozen? a) : EdW w' g off C :=
  ⟨⟨fun _ => Nat.lt_of_lt_of_le h.lt hs, fun i x y hx => by have := (List.getElem?_eq_some_iff.1 hx).1; rw [hc _ (by omega)]; exact h.eg.c0 i x y hx, fun i x y hx => by have := (List.getElem?_eq_some_iff.1 hx).1; rw [hc _ (by omega)]; exact h.eg.c1 i x y hx⟩,
    fun j hj => (hf _).trans (h.fr j hj), Nat.lt_of_lt_of_le h.lt hs⟩
theorem mid_at {α : Type} {C E : List α} {m j : Nat} (hC : C.length = m) (hj : m ≤ j) : (C ++ E.drop m)[j]? = E[j]? := by
  rw [List.getElem?_append_right (by omega), List.getElem?_drop, hC]
  congr 1
  omega
theorem set_mid {α : Type} (C R : List α) (k : Nat) (x : α) (hk : C.length = k) (hR : 0 < R.length) : (C ++ R).set k x = C ++ [x] ++ R.drop 1 := by
  subst hk
  cases R with
  | nil => simp at hR
  | cons y r => simp

set_option maxRecDepth 100000 in
set_option maxHeartbeats 4000000 in
theorem compact_any (w : World) (g off cap : Nat) (E : List Eg) (h : EdW w g off E) (hs : E.Pairwise leE) (hcap : E.length ≤ cap) (hcm : cap ≤ maxLen) :
    Calls Try.prog 28 #[.slice (some ⟨g, off, none⟩) E.length cap] w fun e w' => ∃ C, e = .returned (.slice (some ⟨g, off, none⟩) C.length cap) ∧ C.Pairwise ltE ∧ (∀ e, e ∈ C ↔ e ∈ E) ∧ EdW w' g off C ∧ Frm (fun k => k = g) w w' := by
  generalize hP : (fun (e : Ending) (w' : World) => ∃ C, e = .returned (.slice (some ⟨g, off, none⟩) C.length cap) ∧ C.Pairwise ltE ∧ (∀ e, e ∈ C ↔ e ∈ E) ∧ EdW w' g off C ∧ Frm (fun k => k = g) w w') = PP
  have HP := Lib.hid hP
  have HS := Lib.hid hs
  have HW := Lib.hid h
  have hm9 : (E.length : Int) ≤ 9223372036854775807 := by unfold maxLen at hcm; omega
  obtain ⟨n, em⟩ : ∃ n, E.length = n := ⟨_, rfl⟩
  have EM := Lib.hid em
  rw [em] at hm9 hcap ⊢
  clear hP hs h em
  by_cases h2 : n < 2
  · have t1 : decide ((n : Int) < 2) = true := by simp; omega
    have HF := Lib.hid (show PP (.returned (.slice (some ⟨g, off, none⟩) n cap)) w by
      rw [← HP.out]
      refine ⟨E, by rw [EM.out], ?_, fun e => Iff.rfl, HW.out, Frm.refl _ w⟩
      have := EM.out
      match E, this with
      | [], _ => simp
      | [x], _ => simp
      | x :: y :: r, this => simp at this; omega)
    go_enter Try.func28, Try.ntmps28
    go_wp2_with fail
    exact HF.out
  · have t1 : decide ((n : Int) < 2) = false := by simp; omega
    go_enter Try.func28, Try.ntmps28
    go_wp2_with fail
    go_loopw [3] (fun i wr => ∃ k : Nat, 1 ≤ k ∧ k ≤ n ∧ i = .int .i64 k ∧ Hid (CoI E (E.take k) k) ∧ Hid (EdW wr g off E) ∧ Hid (Frm (fun k => k = g) w wr)) (fun i _ => n - (intOf i).toNat)
    case atStart => exact ⟨1, Nat.le_refl _, by omega, rfl, CoI.one (by rw [EM.out]; omega), HW, Frm.refl _ w⟩
    case round =>
      obtain ⟨k, hk1, hk, rfl, HC, HE, HF⟩ := hrel
      clear t1
      by_cases c : k < n
      · have c1 : (k : Int) < (n : Int) := by omega
        obtain ⟨q, hq⟩ : ∃ q, k = q + 1 := ⟨k - 1, by omega⟩
        obtain ⟨⟨x, y⟩, hx⟩ : ∃ e, E[k]? = some e := ⟨_, List.getElem?_eq_getElem (by rw [EM.out]; exact c)⟩
        obtain ⟨⟨u, v⟩, hu⟩ : ∃ e, E[k - 1]? = some e := ⟨_, List.getElem?_eq_getElem (by rw [EM.out]; omega)⟩
        obtain ⟨a0, a1, -, -⟩ := HE.out.at hx
        obtain ⟨b0, b1, -, -⟩ := HE.out.at hu
        have HX := Lib.hid hx
        have HU := Lib.hid hu
        have HQ := Lib.hid hq
        have eq1 : k - 1 = q := by omega
        rw [eq1] at b0 b1
        have cq : (q : Int) < (n : Int) := by omega
        have w1 : IntKind.i64.wrap ((k : Int) - 1) = (q : Int) := by rw [IntKind.wrap_i64]; omega
        clear hx hu hq eq1
        have hcs : (¬ x = u ∨ (x = u ∧ ¬ y = v)) ∨ (x = u ∧ y = v) := by
          by_cases h1 : x = u
          · by_cases h2 : y = v
            · exact .inr ⟨h1, h2⟩
            · exact .inl (.inr ⟨h1, h2⟩)
          · exact .inl (.inl h1)
        rcases hcs with hne | ⟨e1, e2⟩
        · have HN := Lib.hid (show ((x, y) : Eg) ≠ (u, v) by intro e; injection e with e1 e2; rcases hne with g | ⟨g1, g2⟩; exact g e1; exact g2 e2)
          have HF2 := Lib.hid (show CoI E (E.take (k + 1)) (k + 1) by
            rw [← HC.out.take HX.out]
            exact HC.out.more HS.out (by omega) HX.out HU.out HN.out)
          go_upto_region 6 with fail
          rcases hne with e1 | ⟨e1, e2⟩
          all_goals
            go_quiet (fail)
            go_wp2_with fail
            exact ⟨⟨k + 1, by omega, by omega, by go_num, HF2, HE.out.below (bdrew wr _), HF.out.step (bdrew wr _)⟩, by simp [intOf]; omega⟩
        · subst e1 e2
          have HF2 := Lib.hid (HC.out.same HS.out (by omega) HX.out HU.out)
          go_upto_region 6 with fail
          go_quiet (fail)
          have hck : ¬ cap = k := by omega
          have k2 : (k : Int) ≤ (cap : Int) := by omega
          have k3 : (k : Int) ≤ (n : Int) := by omega
          obtain ⟨W0, hW0⟩ : ∃ W, wr.drewN nq = W := ⟨_, rfl⟩
          have HE0 := Lib.hid (show EdW W0 g off E by rw [← hW0]; exact HE.out.below (bdrew wr _))
          have HF0 := Lib.hid (show Frm (fun k => k = g) w W0 by rw [← hW0]; exact HF.out.step (bdrew wr _))
          rw [hW0]
          clear hW0 a0 a1 b0 b1 HX HU w1
          go_wp2_with fail
          go_loopw [5, 3] (fun i m' wx => ∃ (t m : Nat) (C : List Eg), 1 ≤ t ∧ k + t ≤ n ∧ i = .int .i64 t ∧ m' = .int .i64 m ∧ m + 1 ≤ k + t ∧ C.length = m ∧ Hid (CoI E C (k + t)) ∧ Hid (EdW wx g off (C ++ E.drop m)) ∧ Hid (Frm (fun k => k = g) w wx)) (fun i _ _ => n - k - (intOf i).toNat)
          case atStart => exact ⟨1, k, E.take k, Nat.le_refl _, by omega, rfl, rfl, Nat.le_refl _, by rw [List.length_take]; have := EM.out; omega, HF2, by rw [List.take_append_drop]; exact HE0, HF0⟩
          case round =>
            clear HE0 HF0 HF2 HC HE HF HW k2 k3 hck
            obtain ⟨t, m, C, ht1, ht2, rfl, rfl, hm, hCl, HC, HE, HF⟩ := hrel
            have hnk : ((n - k : Nat) : Int) = (n : Int) - (k : Int) := by omega
            by_cases d : k + t < n
            · have d1 : (t : Int) < ((n - k : Nat) : Int) := by omega
              obtain ⟨q2, hq2⟩ : ∃ q, t = q + 1 := ⟨t - 1, by omega⟩
              have d2 : (q2 : Int) < ((n - k : Nat) : Int) := by omega
              have w2 : IntKind.i64.wrap ((t : Int) - 1) = (q2 : Int) := by rw [IntKind.wrap_i64]; omega
              have w3 : IntKind.i64.wrap ((m : Int) + 1) = ((m + 1 : Nat) : Int) := by rw [IntKind.wrap_i64]; omega
              obtain ⟨⟨x, y⟩, hx⟩ : ∃ e, E[k + t]? = some e := ⟨_, List.getElem?_eq_getElem (by rw [EM.out]; exact d)⟩
              obtain ⟨⟨u, v⟩, hu⟩ : ∃ e, E[k + t - 1]? = some e := ⟨_, List.getElem?_eq_getElem (by rw [EM.out]; omega)⟩
              obtain ⟨⟨r1, r2⟩, hr⟩ : ∃ e, E[m]? = some e := ⟨_, List.getElem?_eq_getElem (by rw [EM.out]; omega)⟩
              obtain ⟨a0, a1, -, -⟩ := HE.out.at ((mid_at hCl (by omega)).trans hx)
              obtain ⟨b0, b1, -, -⟩ := HE.out.at ((mid_at hCl (by omega)).trans hu)
              obtain ⟨m0, m1, f0, f1⟩ := HE.out.at ((mid_at hCl (Nat.le_refl _)).trans hr)
              have ea : off + (k + t) * 2 = off + k * 2 + t * 2 := by omega
              have eb : off + (k + t - 1) * 2 = off + k * 2 + q2 * 2 := by omega
              rw [ea] at a0 a1
              rw [eb] at b0 b1
              have HX := Lib.hid hx
              have HU := Lib.hid hu
              have HQ2 := Lib.hid hq2
              have HCL := Lib.hid hCl
              have HM := Lib.hid hm
              clear hx hu hr ea eb hq2 hCl
              have hcs : (¬ x = u ∨ (x = u ∧ ¬ y = v)) ∨ (x = u ∧ y = v) := by
                by_cases h1 : x = u
                · by_cases h2 : y = v
                  · exact .inr ⟨h1, h2⟩
                  · exact .inl (.inr ⟨h1, h2⟩)
                · exact .inl (.inl h1)
              rcases hcs with hne | ⟨e1, e2⟩
              · have HN := Lib.hid (show ((x, y) : Eg) ≠ (u, v) by intro e; injection e with e1 e2; rcases hne with g | ⟨g1, g2⟩; exact g e1; exact g2 e2)
                have HF2 := Lib.hid (HC.out.more HS.out (by omega) HX.out HU.out HN.out)
                have HP2 := Lib.hid (fun wx (h : EdW wx g off (C ++ E.drop m)) => show EdW ((wx.setCell ⟨g, off + m * 2, none⟩ (.int .i64 x)).setCell ⟨g, off + m * 2 + 1, none⟩ (.int .i64 y)) g off ((C ++ [(x, y)]) ++ E.drop (m + 1)) by
                  have h2 := h.put m x y (by rw [List.length_append, List.length_drop, HCL.out, EM.out]; omega)
                  rw [set_mid C (E.drop m) m (x, y) HCL.out (by rw [List.length_drop, EM.out]; omega), List.drop_drop] at h2
                  exact h2)
                have HG := Lib.hid (fun wx (h : Frm (fun k => k = g) w wx) => (h.setCell (g := g) (.inl rfl) (off + m * 2) (.int .i64 x)).setCell (g := g) (.inl rfl) (off + m * 2 + 1) (.int .i64 y))
                go_upto_region 11 with fail
                rcases hne with e1 | ⟨e1, e2⟩
                all_goals
                  go_quiet (fail)
                  obtain ⟨W1, hW1⟩ : ∃ W, wr.drewN nq = W := ⟨_, rfl⟩
                  have HE1 := Lib.hid (show EdW W1 g off (C ++ E.drop m) by rw [← hW1]; exact HE.out.below (bdrew wr _))
                  have HF1 := Lib.hid (show Frm (fun k => k = g) w W1 by rw [← hW1]; exact HF.out.step (bdrew wr _))
                  have hca : ∀ i v, wr.cell? ⟨g, i, none⟩ = some v → W1.cell? ⟨g, i, none⟩ = some v := by intro i v h; rw [← hW1]; exact h
                  have hfa : ∀ i, wr.frozen? ⟨g, i, none⟩ = false → W1.frozen? ⟨g, i, none⟩ = false := by intro i h; rw [← hW1]; exact h
                  have a0' := hca _ _ a0
                  have a1' := hca _ _ a1
                  have m0' := hca _ _ m0
                  have m1' := hca _ _ m1
                  have f0' := hfa _ f0
                  have f1' := hfa _ f1
                  rw [hW1]
                  clear hW1 a0 a1 b0 b1 m0 m1 f0 f1 hca hfa
                  go_wp2_with fail
                  exact ⟨⟨t + 1, m + 1, C ++ [(x, y)], by omega, by omega, by go_num, by go_num, by omega, by rw [List.length_append, HCL.out]; rfl, HF2, (by first | exact HP2.out _ HE1.out | (have h := HP2.out _ HE1.out; simp only [e1] at h ⊢; exact h)), (by first | exact HG.out _ HF1.out | (have h := HG.out _ HF1.out; simp only [e1] at h ⊢; exact h))⟩, by simp [intOf]; omega⟩
              · subst e1 e2
                have HF2 := Lib.hid (HC.out.same HS.out (by omega) HX.out HU.out)
                go_upto_region 11 with fail
                go_quiet (fail)
                go_wp2_with fail
                exact ⟨⟨t + 1, m, C, by omega, by omega, by go_num, rfl, by omega, HCL.out, HF2, HE.out.below (bdrew wr _), HF.out.step (bdrew wr _)⟩, by simp [intOf]; omega⟩
            · have d1 : ¬ (t : Int) < ((n - k : Nat) : Int) := by omega
              have hj : k + t = n := by omega
              have l1 : ¬ cap = m := by omega
              have l2 : (m : Int) ≤ (cap : Int) := by omega
              have l3 : (m : Int) ≤ (n : Int) := by omega
              obtain ⟨w', hrun, hf, hc2, hfr⟩ := run_clear_e wr 0 g (off + m * 2) (n - m) (cap - m) (by omega)
                (fun j hj => by
                  have := HE.out.cells (m * 2 + j) (by rw [List.length_append, List.length_drop, hCl, EM.out]; omega)
                  rw [← Nat.add_assoc] at this
                  exact this)
                (fun j hj => by
                  have := HE.out.fr (m * 2 + j) (by rw [List.length_append, List.length_drop, hCl, EM.out]; omega)
                  rw [← Nat.add_assoc] at this
                  exact this)
              have HFI := Lib.hid (show PP (.returned (.slice (some ⟨g, off, none⟩) m cap)) w' by
                rw [← HP.out]
                refine ⟨C, by rw [hCl], HC.out.lt, fun e => ?_, HE.out.front.kept hf.size (fun i hi => hc2 i (by rw [hCl] at hi; exact hi)) hfr, HF.out.trans hf (New.refl _ _)⟩
                rw [HC.out.mem, hj, List.take_of_length_le (by rw [EM.out]; exact Nat.le_refl _)])
              clear hf hc2 hfr hj
              go_wp2_with fail
              exact HFI.out
      · have hkn : k = n := by omega
        have c1 : ¬ (k : Int) < (n : Int) := by omega
        have HFI := Lib.hid (show PP (.returned (.slice (some ⟨g, off, none⟩) n cap)) wr by
          rw [← HP.out]
          have hT : E.take k = E := List.take_of_length_le (by rw [EM.out, hkn]; exact Nat.le_refl _)
          have h1 := HC.out
          rw [hT] at h1
          exact ⟨E, by rw [EM.out], h1.lt, fun e => Iff.rfl, HE.out, HF.out⟩)
        clear hkn
        go_wp2_with fail
        exact HFI.out

end Go.Proofs.Ytlhipnklljjahaa
