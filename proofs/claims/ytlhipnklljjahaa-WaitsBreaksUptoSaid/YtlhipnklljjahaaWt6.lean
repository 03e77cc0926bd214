/-
  The document's search for a cycle (haspref11.Cycle): a contract over the translation.
  Conditions: the edges lie in memory.
-/
import Derived.Test.YtlhipnklljjahaaWt5
import Derived.Deep.RegionHeld3
namespace Go.Proofs.Ytlhipnklljjahaa
open Go.RowKit Go.Joins Go.ChangeShapes Go.WideShapes
set_option linter.unusedVariables false
set_option linter.unnecessarySimpa false
set_option linter.unusedSimpArgs false

theorem btr {w w1 w2 : World} (h : Below w.heap.size w w1) (h2 : Below w1.heap.size w1 w2) : Below w.heap.size w w2 := h.trans (h2.mono h.size)
theorem cell_lt {w w1 : World} {b o : Nat} {v : Value} (h : w.cell? ⟨b, o, none⟩ = some v) (hb : Below w.heap.size w w1) : w1.cell? ⟨b, o, none⟩ = some v := (hb.cell (p := ⟨b, o, none⟩) (World.block_lt_of_cell? w _ h)).trans h
theorem lds_all {wr wx : World} {g5 o5 g7 o7 g8 o8 : Nat} {x l f : Value} (h : wr.cell? ⟨g5, o5, none⟩ = some x ∧ wr.cell? ⟨g7, o7, none⟩ = some l ∧ wr.cell? ⟨g8, o8, none⟩ = some f) (hb : Below wr.heap.size wr wx) :
    Below wr.heap.size wr wx ∧ wx.cell? ⟨g5, o5, none⟩ = some x ∧ wx.cell? ⟨g7, o7, none⟩ = some l ∧ wx.cell? ⟨g8, o8, none⟩ = some f := ⟨hb, cell_lt h.1 hb, cell_lt h.2.1 hb, cell_lt h.2.2 hb⟩
theorem nil_or {α : Type} (l : List α) : l = [] ∨ ∃ x r, l = x :: r := by cases l with | nil => exact .inl rfl | cons x r => exact .inr ⟨x, r, rfl⟩
set_option maxRecDepth 100000 in
set_option maxHeartbeats 4000000 in
theorem rcycle_any (a : Option Addr) (b off cap : Nat) (E : List Eg) (hm : E.length ≤ 4294967296) (ha : E.length = 0 ∨ a = some ⟨b, off, none⟩) (w : World) (hA : IsEg w b off E) (x0 : Int) :
    Calls Try.prog 9 #[.slice a E.length cap, .int .i64 x0] w fun e w' => ∃ v o, e = .returned v ∧ Res (Sx E) x0 [(x0, Sx E x0)] [x0] o ∧ QI w' w.heap.size v o ∧ Below w.heap.size w w' := by
  generalize hP : (fun (e : Ending) (w' : World) => ∃ v o, e = .returned v ∧ Res (Sx E) x0 [(x0, Sx E x0)] [x0] o ∧ QI w' w.heap.size v o ∧ Below w.heap.size w w') = PP
  have HP := Lib.hid hP
  have HW := Lib.hid (fun (wx : World) (hb : Below w.heap.size w wx) (p q : Int) => rwaits_any a b off cap E (by unfold maxLen; omega) ha wx (hA.below hb) p q)
  have HN := Lib.hid (fun (wx : World) (hb : Below w.heap.size w wx) (p q : Int) (t : Bool) => rnext_any a b off cap E (by unfold maxLen; omega) ha wx (hA.below hb) p q t)
  have HM := Lib.hid hm
  obtain ⟨m, em⟩ : ∃ m, E.length = m := ⟨_, rfl⟩
  rw [em] at HW HN ⊢
  have EM := Lib.hid em
  clear hP ha hA hm em
  go_enter Try.func9, Try.ntmps9
  go_wp2_with fail
  go_loopw [5, 6, 7, 8] (fun v5 v6 v7 v8 wr => ∃ n, rcyN w wr E x0 v5 v6 v7 v8 n) (fun v5 v6 v7 v8 wr => lst (rcyN w wr E x0 v5 v6 v7 v8))
  case atStart => exact ⟨_, _, _, rcy_start w E x0, rfl⟩
  case round =>
    obtain ⟨P, met, hR, hN⟩ := lst_spec hrel
    have HE := Lib.hid (fun w' v5 v6 v7 v8 P' met' (h : RCy w w' E x0 v5 v6 v7 v8 P' met') (hl : msP E P' met' < msP E P met) => rcy_next h hl hN)
    clear hrel hN
    rcases Nat.eq_zero_or_pos P.length with h0 | h0
    · obtain rfl := List.eq_nil_of_length_eq_zero h0
      obtain ⟨a5, c5, e5, -⟩ := (hR.1.row 0 rfl).form
      have HR := Lib.hid hR
      have e5' : u5 = .slice a5 0 c5 := e5
      subst e5'
      clear hR e5 h0
      go_wp2_with fail
      rw [← HP.out]
      refine ⟨_, [], rfl, HR.out.2.done, ?_, HR.out.1.bel.alloc HR.out.1.sz _⟩
      exact (QR.made (Nat.le_refl _) _ [] (by decide)).le HR.out.1.sz
    · obtain ⟨P0, p, rfl⟩ := snoc_of h0
      obtain ⟨x, l, f⟩ := p
      obtain ⟨n0, hn0⟩ : ∃ n, P0.length = n := ⟨_, rfl⟩
      obtain ⟨g5, o5, c5, g7, o7, c7, g8, o8, c8, e5, e7, e8, k5, k7, k8, m5, m7, m8, d5, d7, d8, z7, z8⟩ := hR.open n0 hn0
      obtain ⟨a6, c6, e6, -⟩ := (hR.1.row 1 rfl).form
      rw [icells_length] at e6
      have HR := Lib.hid hR
      have hnb : n0 + 1 ≤ 4294967297 := by have h1 := hR.2.le; have h2 := hR.2.un; have h3 := HM.out; simp at h1; omega
      subst e5 e6 e7 e8
      have HW1 := Lib.hid (HW.out wr hR.1.bel x x0)
      have HN0 := Lib.hid hn0
      clear hR h0 hn0
      go_wp2_with fail
      refine HW1.out.mono ?_
      rintro e w1 ⟨rfl, rfl⟩
      by_cases hp : (x, x0) ∈ E
      · have HF := Lib.hid (show PP (.returned (.slice (some ⟨g5, o5, none⟩) (n0 + 1) c5)) wr by
          rw [← HP.out]
          exact ⟨_, _, rfl, HR.out.2.found hp, HR.out.1.row 0 rfl, HR.out.1.bel⟩)
        rw [decide_eq_true hp]
        clear hp HE HR HW1
        go_wp2_with fail
        exact HF.out
      · rw [decide_eq_false hp]
        have HNP := Lib.hid hp
        obtain ⟨ny, nt, hn⟩ : ∃ y t, nxL (remX E x l f) = (y, t) := ⟨_, _, rfl⟩
        have HNX := Lib.hid hn
        have HN2 : Hid (∀ wx, Below wr.heap.size wr wx → Calls Try.prog 19 #[.slice a m cap, .int .i64 x, .int .i64 l, .bool f] wx fun e w' => e = .returned (.tuple #[.int .i64 ny, .bool nt]) ∧ Below wx.heap.size wx w') := fun wx hb => by
          have h := HN.out wx (btr HR.out.1.bel hb) x l f
          rw [hn] at h
          exact h
        have HLA := Lib.hid (fun wx (hb : Below wr.heap.size wr wx) => lds_all (And.intro d5 (And.intro d7 d8)) hb)
        have hs := HLA.out wr (Below.refl _ _)
        clear hp HW1 hn d5 d7 d8
        have hl0 : (0 : Int) ≤ (n0 : Int) := by omega
        have hl1 : (n0 : Int) < (n0 : Int) + 1 := by omega
        go_upto_region 1 with fail
        go_region_held3 (fun w0 => Below wr.heap.size wr w0 ∧ w0.cell? ⟨g5, o5 + n0, none⟩ = some (.int .i64 x) ∧ w0.cell? ⟨g7, o7 + n0, none⟩ = some (.int .i64 l) ∧ w0.cell? ⟨g8, o8 + n0, none⟩ = some (.bool f))
          (first | (go_split_ands; exact HLA.out _ (by assumption)) | (go_split_ands; exact HLA.out _ (Below.drew (by assumption))) | (go_split_ands; exact HLA.out _ (btr (by assumption) hbx)))
          (first | (go_at_call 19; refine (HN2.out _ (And.left (by assumption))).mono ?_; rintro e w2 ⟨rfl, hbx⟩; have B2 := Lib.hid (btr (And.left (by assumption)) hbx)))
        all_goals
          clear hs HLA
          obtain hr | ⟨y, r, hr⟩ := nil_or (remX E x l f)
          · have hq := HNX.out
            rw [hr] at hq
            injection hq with q1 q2
            subst q1 q2
            have HPOP := Lib.hid (HR.out.2.pop HNP.out hr)
            have HF := Lib.hid (HE.out w2 _ _ _ _ P0 met (RCy.popped ⟨HR.out.1.below B2.out, HR.out.2⟩ n0 HN0.out HPOP.out.1) HPOP.out.2)
            clear hr HE HPOP HNX HN2
            go_wp2_with fail
            exact HF.out
          · have hq := HNX.out
            rw [hr] at hq
            injection hq with q1 q2
            subst q1 q2
            have hr' : remP E (x, l, f) = y :: r := hr
            have HRR := Lib.hid hr'
            obtain ⟨d7', z7', d8', z8', hW3⟩ := RCy.wrote (y := y) ⟨HR.out.1.below B2.out, HR.out.2⟩ n0 HN0.out
            have HW3 := Lib.hid hW3
            clear hW3 z7 z8 hr hr' HNX HN2
            have hl1 : (n0 : Int) < (n0 : Int) + 1 := by omega
            obtain ⟨W3, hw3⟩ : ∃ W, (w2.setCell ⟨g7, o7 + n0, none⟩ (.int .i64 y)).setCell ⟨g8, o8 + n0, none⟩ (.bool false) = W := ⟨_, rfl⟩
            rw [hw3] at HW3
            obtain ⟨A6, B6, O6, C6, e6, -, h6z, h6a, h6b⟩ := QI.isN (QI.of_row (HW3.out.row 1 rfl))
            injection e6 with e61 e62 e63
            subst e61 e63
            have HIN := Lib.hid (rhas_any a6 B6 O6 c6 met (Nat.le_trans (Nat.le_of_lt_succ (by have h1 := HR.out.2.un; have h2 := HM.out; unfold maxLen; omega)) (Nat.le_refl maxLen)) h6a W3 h6b y)
            have HUN := Lib.hid (show met.length + 1 ≤ 4294967299 by have h1 := HR.out.2.un; have h2 := HM.out; omega)
            clear h6a h6b e62 h6z
            go_wp2_with fail
            refine HIN.out.mono ?_
            rintro e w3 ⟨rfl, rfl⟩
            clear hw3 d7' z7' d8' z8' HIN
            by_cases hy : y ∈ met
            · have HSK := Lib.hid (HR.out.2.skip HNP.out HRR.out hy)
              have HF := Lib.hid (HE.out W3 _ _ _ _ (P0 ++ [(x, y, false)]) met ⟨HW3.out, HSK.out.1⟩ HSK.out.2)
              rw [decide_eq_true hy]
              clear hy HE HSK HW3 HR HRR
              go_wp2_with fail
              exact HF.out
            · have HEN := Lib.hid (HR.out.2.enter HNP.out HRR.out hy)
              rw [decide_eq_false hy]
              obtain ⟨L5, hL5⟩ : ∃ L, (P0 ++ [(x, y, false)]).map (·.1) = L := ⟨_, rfl⟩
              obtain ⟨L7, hL7⟩ : ∃ L, (P0 ++ [(x, y, false)]).map (·.2.1) = L := ⟨_, rfl⟩
              obtain ⟨L8, hL8⟩ : ∃ L, (P0 ++ [(x, y, false)]).map (·.2.2) = L := ⟨_, rfl⟩
              have HL := Lib.hid (show L5.length = n0 + 1 ∧ L7.length = n0 + 1 ∧ L8.length = n0 + 1 by rw [← hL5, ← hL7, ← hL8, ← HN0.out]; simp)
              have HEND := Lib.hid (fun w' v5 v6 v7 v8 (h : Rs w w' [(3, v5, icells ((P0 ++ [(x, y, false)]).map (·.1) ++ [y])), (3, v6, icells (met ++ [y])), (3, v7, icells ((P0 ++ [(x, y, false)]).map (·.2.1) ++ [0])), (4, v8, tcells ((P0 ++ [(x, y, false)]).map (·.2.2) ++ [true]))]) => HE.out w' v5 v6 v7 v8 _ _ (RCy.entered h HEN.out.1) HEN.out.2)
              rw [hL5, hL7, hL8] at HW3 HEND
              have HQ := Lib.hid (HW3.out.pushI 1 rfl y)
              clear hy HE HEN HR HRR hL5 hL7 hL8 HNP HN0
              go_upto_region 16 with (first | (at_builtin; refine wp_pushQ rfl _ _ rfl w.heap.size _ met rfl HQ.out.1 HQ.out.2.1 ⟨W3.heap.size, 0, none⟩ 1 y rfl HQ.out.2.2.1 (by have := HUN.out; omega) ?_; intro v1 w4 q1 g1 n1; have HW4 := Lib.hid (HQ.out.2.2.2 v1 w4 q1 g1 n1); clear q1 g1 n1))
              have HQ2 := Lib.hid (HW4.out.pushI 0 rfl y)
              clear HW3 HQ
              go_upto_region 17 with (first | (at_builtin; refine wp_pushQ rfl _ _ rfl w.heap.size _ L5 rfl HQ2.out.1 HQ2.out.2.1 ⟨w4.heap.size, 0, none⟩ 1 y rfl HQ2.out.2.2.1 (by have := HL.out; omega) ?_; intro v2 w5 q1 g1 n1; have HW5 := Lib.hid (HQ2.out.2.2.2 v2 w5 q1 g1 n1); clear q1 g1 n1))
              have HQ3 := Lib.hid (HW5.out.pushI 2 rfl 0)
              clear HW4 HQ2
              go_upto_region 18 with (first | (at_builtin; refine wp_pushQ rfl _ _ rfl w.heap.size _ L7 rfl HQ3.out.1 HQ3.out.2.1 ⟨w5.heap.size, 0, none⟩ 1 0 rfl HQ3.out.2.2.1 (by have := HL.out; omega) ?_; intro v3 w6 q1 g1 n1; have HW6 := Lib.hid (HQ3.out.2.2.2 v3 w6 q1 g1 n1); clear q1 g1 n1))
              have HQ4 := Lib.hid (HW6.out.pushB 3 rfl true)
              clear HW5 HQ3
              go_wp2_with (first | (at_builtin; refine wp_pushQB rfl _ _ rfl w.heap.size _ L8 rfl HQ4.out.1 HQ4.out.2.1 ⟨w6.heap.size, 0, none⟩ 1 true rfl HQ4.out.2.2.1 (by have := HL.out; omega) ?_; intro v4 w7 q1 g1 n1; have HW7 := Lib.hid (HQ4.out.2.2.2 v4 w7 q1 g1 n1); clear q1 g1 n1))
              exact HEND.out w7 _ _ _ _ HW7.out

end Go.Proofs.Ytlhipnklljjahaa
