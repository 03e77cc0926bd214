/-
  The reader's number (layer 12), continued: contracts over the translation.
  Conditions: the reader lies in memory; the library's error for a number that is too great is laid.
-/
import Derived.Test.YtlhipnklljjahaaDoorLx19
namespace Go.Proofs.YtlhipnklljjahaaDoor
set_option maxRecDepth 100000
open Go.RowKit Go.Joins Go.ChangeShapes Go.WideShapes
set_option linter.unusedVariables false
set_option linter.unusedSimpArgs false

set_option maxHeartbeats 2000000 in
theorem number_any {w : World} {rd b off cap : Nat} {c : Nat} {r : List Nat} (h : Rd w rd b off cap (c :: r)) (hdg : dgL c = true) (hE : ErrR w) (hrE : 3 ≠ rd) :
    Calls Tryd.prog 20 #[.pointer (some ⟨rd, 0, none⟩)] w (TokP (numE (c :: r)) w rd b (c :: r)) := by
  have hq0 : 0 < runL dgL (c :: r) := by rw [runL_cons, if_pos hdg]; omega
  have hne : (c :: r) ≠ [] := by simp
  have hin := runL_in (f := dgL) (c :: r)
  have hkl := runL_le dgL (c :: r)
  generalize (c :: r) = l at *
  have b1 : Below w.heap.size w (w.alloc (.cells #[.int .i64 0, .string ⟨#[]⟩, .int .i64 0, .int .i64 0] 29)) := (Below.refl _ _).alloc (Nat.le_refl _) _
  have h1 := h.below b1
  have hbl : b < w.heap.size := h.is.hb (List.length_pos_iff.2 hne)
  have hrd : rd < w.heap.size := (Array.getElem?_eq_some_iff.1 h.hd).1
  have hle32 := h.ln
  have HT := Lib.hid (pass_any digit_any (enters_of Tryd.func19 (by kernel_rfl) rfl) h1)
  have HI := Lib.hid h1.is
  have HB := Lib.hid (show ¬ b = rd from fun e => h.ne e.symm)
  have HE := Lib.hid (hE.below b1)
  have hE0 := Lib.hid hE.lt
  have HBel := Lib.hid b1
  have hnew : TBox (w.alloc (.cells #[.int .i64 0, .string ⟨#[]⟩, .int .i64 0, .int .i64 0] 29)) w.heap.size 0 0 0 ⟨#[]⟩ := heap_alloc_new w (.cells #[.int .i64 0, .string ⟨#[]⟩, .int .i64 0, .int .i64 0] 29)
  have HN := Lib.hid hnew
  obtain ⟨W1, hW1⟩ : ∃ W1, w.alloc (.cells #[.int .i64 0, .string ⟨#[]⟩, .int .i64 0, .int .i64 0] 29) = W1 := ⟨_, rfl⟩
  rw [hW1] at HT HI HE HBel HN
  clear h h1 b1 hnew hE
  unfold numE
  have HIN := Lib.hid hin
  clear hin
  generalize hq : runL dgL l = q at *
  have HQ := Lib.hid hq
  clear hq
  generalize hP : TokP _ w rd b l = P
  have HP := Lib.hid hP
  clear hP
  go_enter Tryd.func20, Tryd.ntmps20
  go_wp2_with fail
  try go_at_call 10
  refine HT.out.mono ?_
  rintro e w2 ⟨rfl, off2, cap2, r2, f2⟩
  have R2 := Lib.hid r2
  have F2 := Lib.hid f2
  clear r2 f2
  go_wp2_with fail
  have bA : Below w2.heap.size w2 (w2.alloc (.cells #[.int .i64 2, .string ⟨#[]⟩, .int .i64 0, .int .i64 0] 29)) := (Below.refl _ _).alloc (Nat.le_refl _) _
  have nA : TBox (w2.alloc (.cells #[.int .i64 2, .string ⟨#[]⟩, .int .i64 0, .int .i64 0] 29)) w2.heap.size 2 0 0 ⟨#[]⟩ := heap_alloc_new w2 (.cells #[.int .i64 2, .string ⟨#[]⟩, .int .i64 0, .int .i64 0] 29)
  have HBA := Lib.hid (And.intro bA nA)
  have HG1 : Hid (w.heap.size < w2.heap.size) := Lib.hid (Nat.lt_of_lt_of_le (by rw [← hW1]; simp) F2.out.size)
  have HFR := Lib.hid (frac_any (R2.out.below bA))
  have HN2 := Lib.hid ((HN.out.frm F2.out (by omega)).below bA)
  have HE2 := Lib.hid ((HE.out.frm F2.out hrE).below bA)
  have HR3 := Lib.hid (R2.out.below bA)
  have HF3 := Lib.hid (((Frm.of_below (F := fun k => k = rd) HBel.out).trans F2.out (New.refl _ _)).step bA)
  have HI3 := Lib.hid ((F2.out.isB HI.out (fun _ => HB.out)).below bA)
  clear bA nA
  cases hfr : fracL (l.drop q) with
  | false =>
    rw [hfr] at HFR HP
    have hP1 := HP.out
    rw [if_neg (by decide)] at hP1
    obtain ⟨D, hD⟩ : ∃ D, l.take q = D := ⟨_, rfl⟩
    have hDl : D.length = q := by rw [← hD, List.length_take]; omega
    have HDD : Hid (∀ x ∈ D, dgL x = true) := Lib.hid (by rw [← hD]; exact HIN.out)
    obtain ⟨g1, hg1⟩ : ∃ g1, w2.heap.size = g1 := ⟨_, rfl⟩
    rw [hg1] at HG1 HBA
    rw [hD] at hP1
    go_wp2_with fail
    try go_at_call 29
    refine HFR.out.mono ?_
    rintro e wx ⟨rfl, rfl⟩
    try rw [hg1]
    generalize w2.alloc (.cells #[.int .i64 2, .string ⟨#[]⟩, .int .i64 0, .int .i64 0] 29) = wx at *
    obtain ⟨n, hn⟩ : ∃ n, n = q := ⟨_, rfl⟩
    subst hn
    obtain ⟨cp, hcp⟩ : ∃ cp, cp = cap := ⟨_, rfl⟩
    subst hcp
    obtain ⟨M, hM⟩ : ∃ M : Nat, M = 19 := ⟨_, rfl⟩
    have HD : Hid (IsB wx b off D) := Lib.hid (by rw [← hD]; exact HI3.out.take _)
    have HEx := HE2
    have HN0 := HN2
    have HN1 := Lib.hid HBA.out.2
    have RX := HR3
    have FX := HF3
    have HGG : Hid (¬ w.heap.size = g1) := Lib.hid (by have := HG1.out; omega)
    have HEr : Hid (M < n ∨ 9223372036854775807 < decL D → ∀ wz, Frm (fun k => k = rd) w wz → P (.returned (.tuple #[Tkv 0 ⟨#[]⟩ 0 0, .int .i64 11])) wz) := Lib.hid (by
      intro hc wz hf
      rw [if_pos (by omega)] at hP1
      rw [← hP1]
      exact ⟨rfl, hf⟩)
    have HOk : Hid (n ≤ M ∧ decL D ≤ 9223372036854775807 → ∀ wz off' cap', Rd wz rd b off' cap' (l.drop n) → Frm (fun k => k = rd) w wz → P (.returned (.tuple #[Tkv 2 ⟨#[]⟩ (decL D : Int) 0, .int .i64 0])) wz) := Lib.hid (by
      intro hc wz o c hr hf
      rw [if_neg (by omega)] at hP1
      rw [← hP1]
      exact ⟨rfl, o, c, hr, hf⟩)
    rw [show ((19 : Int)) = (M : Int) by rw [hM]; rfl]
    clear HP hP1 HFR HBA HN2 HE2 HR3 HF3 hg1

    have hcv := str_b HD.out n cp (by omega)
    have hPI := parse_b HDD.out (by omega) (by omega) HEx.out
    have hDn : D.take n = D := List.take_of_length_le (by omega)
    rw [hDn] at hcv
    generalize strB D = S at hcv hPI
    have HPI := Lib.hid hPI
    clear hPI hDn
    go_wp2_with fail
    try go_at_call 31
    refine HPI.out.mono ?_
    rintro e wy ⟨by_, v, ev, rfl, hv⟩
    have N0 := HN0.out.below by_
    have N1 := HN1.out.below by_
    obtain ⟨⟨e0, e1, e2, e3⟩, f0, f1, f4, f3⟩ := N0.cells
    obtain ⟨⟨x0, x1, x2, x3⟩, y0, y1, y2, y3⟩ := N1.cells
    have hgg : ¬ w.heap.size = g1 := HGG.out
    have hgg' : ¬ g1 = w.heap.size := fun e => HGG.out e.symm
    have RY := Lib.hid (RX.out.below by_)
    have FY := Lib.hid (FX.out.step by_)
    have N0H := Lib.hid N0
    clear by_ N0 N1
    rcases hv with ⟨hv1, rfl, rfl⟩ | ⟨hv1, t, p, rfl⟩
    · by_cases hm : n ≤ M
      · have k1 : decide ((M : Int) < (n : Int)) = false := by simp; omega
        have HF := HOk.out ⟨hm, hv1⟩
        have HX := Lib.hid (show P (.returned (.tuple #[Tkv 2 ⟨#[]⟩ (decL D : Int) 0, .int .i64 0])) (((((wy.setCell ⟨g1, 2, none⟩ (.int .i64 (decL D : Int))).setCell ⟨w.heap.size, 0, none⟩ (.int .i64 2)).setCell ⟨w.heap.size, 1, none⟩ (.string ⟨#[]⟩)).setCell ⟨w.heap.size, 2, none⟩ (.int .i64 (decL D : Int))).setCell ⟨w.heap.size, 3, none⟩ (.int .i64 0)) by
          have f5 := FY.out.setCell (.inr (Nat.le_of_lt HG1.out)) 2 (.int .i64 (decL D : Int))
          have r5 := RY.out.frm (F := fun k => k = g1) (Frm.set1 wy (F := fun k => k = g1) rfl 2 (.int .i64 (decL D : Int))) (by have := HG1.out; show ¬ rd = g1; omega) (by have := HG1.out; show ¬ b = g1; omega)
          obtain ⟨a1, a2⟩ := Rd.boxed f5 r5 hrd hbl (.int .i64 2) (.string ⟨#[]⟩) (.int .i64 (decL D : Int)) (.int .i64 0)
          exact HF _ _ _ a1 a2)
        have hbx : TBox (wy.setCell ⟨g1, 2, none⟩ (.int .i64 (decL D : Int))) w.heap.size 0 0 0 ⟨#[]⟩ := N0H.out.frm (F := fun k => k = g1) (Frm.set1 wy (F := fun k => k = g1) rfl 2 _) HGG.out
        generalize decL D = V at *
        go_wp2_with fail
        exact tok_ret Tryd.results20 (box_four hbx _ _ _ _) rfl rfl rfl HX.out
      · have k1 : decide ((M : Int) < (n : Int)) = true := by simp; omega
        have HX := Lib.hid (show P (.returned (.tuple #[Tkv 0 ⟨#[]⟩ 0 0, .int .i64 11])) ((((wy.setCell ⟨w.heap.size, 0, none⟩ (.int .i64 0)).setCell ⟨w.heap.size, 1, none⟩ (.string ⟨#[]⟩)).setCell ⟨w.heap.size, 2, none⟩ (.int .i64 0)).setCell ⟨w.heap.size, 3, none⟩ (.int .i64 0)) by
          obtain ⟨_, a2⟩ := Rd.boxed FY.out RY.out hrd hbl (.int .i64 0) (.string ⟨#[]⟩) (.int .i64 0) (.int .i64 0)
          exact HEr.out (.inl (by omega)) _ a2)
        generalize decL D = V at *
        go_wp2_with fail
        exact tok_ret Tryd.results20 (box_four N0H.out _ _ _ _) rfl rfl rfl HX.out
    · have HX := Lib.hid (show P (.returned (.tuple #[Tkv 0 ⟨#[]⟩ 0 0, .int .i64 11])) ((((wy.setCell ⟨w.heap.size, 0, none⟩ (.int .i64 0)).setCell ⟨w.heap.size, 1, none⟩ (.string ⟨#[]⟩)).setCell ⟨w.heap.size, 2, none⟩ (.int .i64 0)).setCell ⟨w.heap.size, 3, none⟩ (.int .i64 0)) by
        obtain ⟨_, a2⟩ := Rd.boxed FY.out RY.out hrd hbl (.int .i64 0) (.string ⟨#[]⟩) (.int .i64 0) (.int .i64 0)
        exact HEr.out (.inr hv1) _ a2)
      go_wp2_with fail
      exact tok_ret Tryd.results20 (box_four N0H.out _ _ _ _) rfl rfl rfl HX.out
  | true =>
    rw [hfr] at HFR HP
    have hP1 := HP.out
    rw [if_pos rfl] at hP1
    have hl2 : 1 ≤ (l.drop q).length := by
      cases e : l.drop q with
      | nil => rw [e] at hfr; cases hfr
      | cons a b => simp
    have hfin := runL_in (f := dgL) (l.drop (q + 1))
    have hfle := runL_le dgL (l.drop (q + 1))
    have HT4 := Lib.hid (take_any HR3.out 1 hl2)
    have hlen4 : (l.drop (q + 1)).length ≤ 4294967296 := by rw [List.length_drop]; omega
    obtain ⟨g1, hg1⟩ : ∃ g1, w2.heap.size = g1 := ⟨_, rfl⟩
    rw [hg1] at HG1 HBA
    have hdd : (l.drop q).drop 1 = l.drop (q + 1) := List.drop_drop
    go_wp2_with fail
    try go_at_call 29
    refine HFR.out.mono ?_
    rintro e wx ⟨rfl, rfl⟩
    try rw [hg1]
    generalize w2.alloc (.cells #[.int .i64 2, .string ⟨#[]⟩, .int .i64 0, .int .i64 0] 29) = wx at *
    go_wp2_with fail
    try go_at_call 17
    refine HT4.out.mono ?_
    rintro e w4 ⟨rfl, off4, cap4, r4, f4⟩
    rw [hdd] at r4
    have HF4 := Lib.hid f4
    have HI4 := Lib.hid r4.is
    have HT5 := Lib.hid (pass_any digit_any (enters_of Tryd.func19 (by kernel_rfl) rfl) r4)
    have hc4 := r4.cp
    clear r4 f4
    generalize hf : runL dgL (l.drop (q + 1)) = f at *
    go_wp2_with fail
    try go_at_call 10
    refine HT5.out.mono ?_
    rintro e w5 ⟨rfl, off5, cap5, r5, f5⟩
    rw [List.drop_drop] at r5
    have HF5 := Lib.hid f5
    have HR5 := Lib.hid r5
    have HN5 := Lib.hid ((HN2.out.frm HF4.out (by omega)).frm f5 (by omega))
    have hg1r : ¬ g1 = rd := by have := HG1.out; omega
    have N5 := (HBA.out.2.frm HF4.out hg1r).frm f5 hg1r
    obtain ⟨⟨x0, x1, x2, x3⟩, y0, y1, y2, y3⟩ := N5.cells
    have HN1' := Lib.hid N5
    have HL := Lib.hid (And.intro (HI3.out.take q) (HI4.out.take f))
    clear r5 f5 N5
    obtain ⟨w6, hw6⟩ : ∃ w6, (((w5.setCell ⟨g1, 0, none⟩ (.int .i64 3)).setCell ⟨g1, 1, none⟩ (.string ⟨#[]⟩)).setCell ⟨g1, 2, none⟩ (.int .i64 0)).setCell ⟨g1, 3, none⟩ (.int .i64 f) = w6 := ⟨_, rfl⟩
    go_wp2_with fail
    have hg1b : ¬ g1 = b := by have := HG1.out; omega
    have F6 : Frm (fun k => k = g1) w5 w6 := by
      rw [← hw6]
      exact ((((Frm.refl (fun k => k = g1) w5).setCell (.inl rfl) 0 _).setCell (.inl rfl) 1 _).setCell (.inl rfl) 2 _).setCell (.inl rfl) 3 _
    have N6 : TBox w6 g1 3 0 (f : Int) ⟨#[]⟩ := by
      rw [← hw6]
      exact box_four HN1'.out _ _ _ _
    have I6 := F6.isB (HF5.out.isB (HF4.out.isB HL.out.1 (fun _ => HB.out)) (fun _ => HB.out)) (fun _ e => hg1b e.symm)
    have J6 := F6.isB (HF5.out.isB HL.out.2 (fun _ => HB.out)) (fun _ e => hg1b e.symm)
    have E6 : ErrR w6 := by
      refine (((HE2.out.frm HF4.out hrE).frm HF5.out hrE)).frm F6 ?_
      have := hE0.out
      have := HG1.out
      show ¬ _ = g1
      omega
    have Z6 := HN5.out.frm F6 (by have := HG1.out; omega)
    have R6 := HR5.out.frm F6 (by have := HG1.out; omega) (by omega)
    have FF6 : Frm (fun k => k = rd) w w6 := ((HF3.out.trans HF4.out (New.refl _ _)).trans HF5.out (New.refl _ _)).trans F6 (fun k hk => .inr (by have := HG1.out; omega))
    have bB : Below w6.heap.size w6 (w6.alloc (.cells #[.slice (some ⟨b, off, none⟩) q cap, .slice (some ⟨b, off4, none⟩) f cap4] 27)) := (Below.refl _ _).alloc (Nat.le_refl _) _
    have nB := heap_alloc_new w6 (.cells #[.slice (some ⟨b, off, none⟩) q cap, .slice (some ⟨b, off4, none⟩) f cap4] 27)
    have hlq : (l.take q).length = q := by rw [List.length_take]; omega
    have hlf : ((l.drop (q + 1)).take f).length = f := by rw [List.length_take]; omega
    have HC := Lib.hid (concat_b (c := cap) (c2 := cap4) (by rw [cell_of_block nB, hlq]; rfl) (by rw [cell_of_block nB, hlf]; rfl) (I6.below bB) (J6.below bB) (by omega) (by omega) (by omega))
    have H6 := Lib.hid (And.intro (N6.below bB) (And.intro (E6.below bB) (And.intro (Z6.below bB) (And.intro (R6.below bB) (FF6.step bB)))))
    clear F6 N6 I6 J6 E6 Z6 R6 FF6 bB nB hw6 x0 x1 x2 x3 y0 y1 y2 y3
    obtain ⟨D, hD⟩ : ∃ D, l.take q ++ (l.drop (q + 1)).take f = D := ⟨_, rfl⟩
    have hDl : D.length = q + f := by rw [← hD, List.length_append, hlq, hlf]
    have HDD : Hid (∀ x ∈ D, dgL x = true) := Lib.hid (by
      intro x hx
      rw [← hD] at hx
      rcases List.mem_append.1 hx with g | g
      · exact HIN.out x g
      · exact hfin x g)
    have hD15 : Hid (q + f ≤ 15 → decL D ≤ 9223372036854775807) := Lib.hid (by
      intro h15
      have h1 := decL_lt D HDD.out
      have h2 := Nat.lt_of_lt_of_le h1 (Nat.pow_le_pow_right (by omega : 0 < 10) (show D.length ≤ 15 by omega))
      generalize decL D = V at h2
      omega)
    rw [hD] at hP1 HC
    try go_at_call 30
    refine HC.out.mono ?_
    rintro e w8 ⟨v8, rfl, o8, b8⟩
    obtain ⟨gD, capD, ev8, isD, _⟩ := o8.isB (fun x hx => by have := (dg_iff x).1 (HDD.out x hx); omega)
    rw [hDl] at ev8
    subst ev8
    obtain ⟨n, hn⟩ : ∃ n, n = q + f := ⟨_, rfl⟩
    rw [← hn] at hDl hP1 hD15
    obtain ⟨cp, hcp⟩ : ∃ cp, cp = capD := ⟨_, rfl⟩
    subst hcp
    have HD : Hid (IsB w8 gD 0 D) := Lib.hid isD
    have HEx := Lib.hid (H6.out.2.1.below b8)
    have HN0 := Lib.hid (H6.out.2.2.1.below b8)
    have HN1 := Lib.hid (H6.out.1.below b8)
    have RX := Lib.hid (H6.out.2.2.2.1.below b8)
    have FX := Lib.hid (H6.out.2.2.2.2.step b8)
    have HGG : Hid (¬ w.heap.size = g1) := Lib.hid (by have := HG1.out; omega)
    have HEr : Hid (15 < n ∨ 9223372036854775807 < decL D → ∀ wz, Frm (fun k => k = rd) w wz → P (.returned (.tuple #[Tkv 0 ⟨#[]⟩ 0 0, .int .i64 11])) wz) := Lib.hid (by
      intro hc wz hf
      rw [if_pos (by have := hD15.out; omega)] at hP1
      rw [← hP1]
      exact ⟨rfl, hf⟩)
    have HOk : Hid (n ≤ 15 ∧ decL D ≤ 9223372036854775807 → ∀ wz off' cap', Rd wz rd b off' cap' (l.drop (q + 1 + f)) → Frm (fun k => k = rd) w wz → P (.returned (.tuple #[Tkv 3 ⟨#[]⟩ (decL D : Int) (f : Int), .int .i64 0])) wz) := Lib.hid (by
      intro hc wz o c hr hf
      rw [if_neg (by omega)] at hP1
      rw [← hP1]
      exact ⟨rfl, o, c, hr, hf⟩)
    have hnb1 : 0 < n := by omega
    have hnb2 : n ≤ 8589934592 := by omega
    rw [← hn]
    have HQN := Lib.hid hn
    clear hn
    clear HP hP1 HFR HBA HN2 HE2 HR3 HF3 hg1 H6 b8 o8 isD HC hf hfin hfle hdd
    have hcv := str_b HD.out n cp (by omega)
    have hPI := parse_b HDD.out (by omega) (by omega) HEx.out
    have hDn : D.take n = D := List.take_of_length_le (by omega)
    rw [hDn] at hcv
    generalize strB D = S at hcv hPI
    have HPI := Lib.hid hPI
    clear hPI hDn
    go_wp2_with fail
    try go_at_call 31
    refine HPI.out.mono ?_
    rintro e wy ⟨by_, v, ev, rfl, hv⟩
    have N0 := HN0.out.below by_
    have N1 := HN1.out.below by_
    obtain ⟨⟨e0, e1, e2, e3⟩, f0, f1, f4, f3⟩ := N0.cells
    obtain ⟨⟨x0, x1, x2, x3⟩, y0, y1, y2, y3⟩ := N1.cells
    have hgg : ¬ w.heap.size = g1 := HGG.out
    have hgg' : ¬ g1 = w.heap.size := fun e => HGG.out e.symm
    have RY := Lib.hid (RX.out.below by_)
    have FY := Lib.hid (FX.out.step by_)
    have N0H := Lib.hid N0
    clear by_ N0 N1
    rcases hv with ⟨hv1, rfl, rfl⟩ | ⟨hv1, t, p, rfl⟩
    · by_cases hm : n ≤ 15
      · have k1 : decide ((15 : Int) < (n : Int)) = false := by simp; omega
        have HF := HOk.out ⟨hm, hv1⟩
        have HX := Lib.hid (show P (.returned (.tuple #[Tkv 3 ⟨#[]⟩ (decL D : Int) (f : Int), .int .i64 0])) (((((wy.setCell ⟨g1, 2, none⟩ (.int .i64 (decL D : Int))).setCell ⟨w.heap.size, 0, none⟩ (.int .i64 3)).setCell ⟨w.heap.size, 1, none⟩ (.string ⟨#[]⟩)).setCell ⟨w.heap.size, 2, none⟩ (.int .i64 (decL D : Int))).setCell ⟨w.heap.size, 3, none⟩ (.int .i64 (f : Int))) by
          have f5 := FY.out.setCell (.inr (Nat.le_of_lt HG1.out)) 2 (.int .i64 (decL D : Int))
          have r5 := RY.out.frm (F := fun k => k = g1) (Frm.set1 wy (F := fun k => k = g1) rfl 2 (.int .i64 (decL D : Int))) (by have := HG1.out; show ¬ rd = g1; omega) (by have := HG1.out; show ¬ b = g1; omega)
          obtain ⟨a1, a2⟩ := Rd.boxed f5 r5 hrd hbl (.int .i64 3) (.string ⟨#[]⟩) (.int .i64 (decL D : Int)) (.int .i64 (f : Int))
          exact HF _ _ _ a1 a2)
        have hbx : TBox (wy.setCell ⟨g1, 2, none⟩ (.int .i64 (decL D : Int))) w.heap.size 0 0 0 ⟨#[]⟩ := N0H.out.frm (F := fun k => k = g1) (Frm.set1 wy (F := fun k => k = g1) rfl 2 _) HGG.out
        generalize decL D = V at *
        go_wp2_with fail
        exact tok_ret Tryd.results20 (box_four hbx _ _ _ _) rfl rfl rfl HX.out
      · have k1 : decide ((15 : Int) < (n : Int)) = true := by simp; omega
        have HX := Lib.hid (show P (.returned (.tuple #[Tkv 0 ⟨#[]⟩ 0 0, .int .i64 11])) ((((wy.setCell ⟨w.heap.size, 0, none⟩ (.int .i64 0)).setCell ⟨w.heap.size, 1, none⟩ (.string ⟨#[]⟩)).setCell ⟨w.heap.size, 2, none⟩ (.int .i64 0)).setCell ⟨w.heap.size, 3, none⟩ (.int .i64 0)) by
          obtain ⟨_, a2⟩ := Rd.boxed FY.out RY.out hrd hbl (.int .i64 0) (.string ⟨#[]⟩) (.int .i64 0) (.int .i64 0)
          exact HEr.out (.inl (by omega)) _ a2)
        generalize decL D = V at *
        go_wp2_with fail
        exact tok_ret Tryd.results20 (box_four N0H.out _ _ _ _) rfl rfl rfl HX.out
    · have HX := Lib.hid (show P (.returned (.tuple #[Tkv 0 ⟨#[]⟩ 0 0, .int .i64 11])) ((((wy.setCell ⟨w.heap.size, 0, none⟩ (.int .i64 0)).setCell ⟨w.heap.size, 1, none⟩ (.string ⟨#[]⟩)).setCell ⟨w.heap.size, 2, none⟩ (.int .i64 0)).setCell ⟨w.heap.size, 3, none⟩ (.int .i64 0)) by
        obtain ⟨_, a2⟩ := Rd.boxed FY.out RY.out hrd hbl (.int .i64 0) (.string ⟨#[]⟩) (.int .i64 0) (.int .i64 0)
        exact HEr.out (.inr hv1) _ a2)
      go_wp2_with fail
      exact tok_ret Tryd.results20 (box_four N0H.out _ _ _ _) rfl rfl rfl HX.out

end Go.Proofs.YtlhipnklljjahaaDoor
