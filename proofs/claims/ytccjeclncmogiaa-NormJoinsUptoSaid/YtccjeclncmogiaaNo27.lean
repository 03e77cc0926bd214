/-
  The examples of the document (layer 18): the law's own words, over the translation.
  Conditions: none.
-/
import Derived.Test.YtccjeclncmogiaaNo25
import Derived.Test.YtccjeclncmogiaaNo26
import Derived.Test.YtccjeclncmogiaaNo28
import Derived.Test.YtccjeclncmogiaaNo11
import Derived.Deep.RegionHeld3
namespace Go.Proofs.Ytccjeclncmogiaa
open Go.RowKit Go.Joins Go.ChangeShapes Go.WideShapes
set_option linter.unusedVariables false
set_option linter.unusedSimpArgs false

theorem leafM {K : Bl} {w : World} (op ty vk vn : Int) (vs : ByteArray) (tab col : Int) : XC.Mem K w (.mk op ty none 0 [] vk vn vs tab col) := XC.Mem.leaf _ _ _ _ _ _ _ _ _
theorem er_leaf {y : XC} {op ty vk vn tab col : Int} {vs : ByteArray} (h : y.er = XC.er (.mk op ty none 0 [] vk vn vs tab col)) : ∃ a cap, y = .mk op ty a cap [] vk vn vs tab col := by
  obtain ⟨op', ty', a, cap, args, vk', vn', vs', tab', col'⟩ := y
  rw [XC.er, XC.er, XC.erL] at h
  injection h with h1 h2 h3 h4 h5 h6 h7 h8
  have : args = [] := by
    cases args with
    | nil => rfl
    | cons a r => rw [XC.erL] at h3; cases h3
  subst h1 h2 this h4 h5 h6 h7 h8
  exact ⟨a, cap, rfl⟩
theorem bnd_b (g : Nat) : bnd (XC.er (twoC 3 g (numC 5) (colC 0 0))) 0 = (true, 0, 5, XC.er (numC 5)) := by
  simp only [XC.er, XC.erL]
  rfl
theorem bnd_no (g : Nat) : bnd (XC.er (twoC 1 g (colC 0 0) (colC 0 1))) 0 = (false, 0, 0, zCd) := by
  simp only [XC.er, XC.erL]
  rfl
theorem sz_two (op : Int) (g : Nat) (x y : XC) : szC (XC.er (twoC op g x y)) = 1 + (szC x.er + szC y.er) := by
  rw [XC.er, szC, XC.erL, XC.erL, XC.erL, szCL, szCL, szCL]
  rfl
theorem sz_num (n : Int) : szC (XC.er (numC n)) = 1 := by rw [XC.er, szC, XC.erL, szCL]; rfl
theorem sz_col (t c : Int) : szC (XC.er (colC t c)) = 1 := by rw [XC.er, szC, XC.erL, szCL]; rfl
theorem QI.pair (w : World) : QI (w.alloc (.cells #[.int .i64 0, .int .i64 2] 3)) 0 (.slice (some ⟨w.heap.size, 0, none⟩) 2 2) [0, 2] := QR.made (Nat.zero_le _) 3 [.int .i64 0, .int .i64 2] (by decide)
set_option maxRecDepth 100000 in
set_option maxHeartbeats 8000000 in
theorem speaks18_any (W : World) : Calls Try.prog 5 #[] W fun e w' => e = .returned (.bool true) ∧ Below W.heap.size W w' := by
  generalize hP : (fun (e : Ending) (w' : World) => e = .returned (.bool true) ∧ Below W.heap.size W w') = P
  have HP := Lib.hid hP
  clear hP
  go_enter Try.func5, Try.ntmps5
  go_wp2_with fail
  refine (col_any _ 0 0).mono ?_
  rintro e w1 ⟨rfl, b1⟩
  go_wp2_with fail
  refine (num_any _ 1).mono ?_
  rintro e w2 ⟨rfl, b2⟩
  go_wp2_with fail
  refine (two_any (K := fun _ => False) 1 (colC 0 0) (numC 1) (leafM ..) (leafM ..)).mono ?_
  rintro e w3 ⟨ga, rfl, la, ma, b3⟩
  have B3 := b1.trans ((b2.trans (b3.mono b2.size)).mono b1.size)
  have HA := Lib.hid (And.intro ma B3)
  clear la ma b1 b2 b3 B3
  go_wp2_with fail
  refine (num_any _ 5).mono ?_
  rintro e w4 ⟨rfl, b4⟩
  go_wp2_with fail
  refine (col_any _ 0 0).mono ?_
  rintro e w5 ⟨rfl, b5⟩
  go_wp2_with fail
  refine (two_any (K := fun _ => False) 3 (numC 5) (colC 0 0) (leafM ..) (leafM ..)).mono ?_
  rintro e w6 ⟨gb, rfl, lb, mb, b6⟩
  have b46 := b4.trans ((b5.trans (b6.mono b5.size)).mono b4.size)
  have HB := Lib.hid (And.intro (HA.out.1.below b46) (And.intro mb (HA.out.2.trans (b46.mono HA.out.2.size))))
  clear lb mb b4 b5 b6 b46
  have bA : Below w6.heap.size w6 (w6.alloc (.cells #[.int .i64 0, .int .i64 0, .slice none 0 0, .int .i64 0, .int .i64 0, .string ⟨#[]⟩, .int .i64 0, .int .i64 0] 26)) := (Below.refl _ _).alloc (Nat.le_refl _) _
  have hA0 := Bx.new w6 #[.int .i64 0, .int .i64 0, .slice none 0 0, .int .i64 0, .int .i64 0, .string ⟨#[]⟩, .int .i64 0, .int .i64 0] 26
  obtain ⟨wA, hwA⟩ : ∃ wA, w6.alloc (.cells #[.int .i64 0, .int .i64 0, .slice none 0 0, .int .i64 0, .int .i64 0, .string ⟨#[]⟩, .int .i64 0, .int .i64 0] 26) = wA := ⟨_, rfl⟩
  rw [hwA] at bA hA0
  have bB : Below wA.heap.size wA (wA.alloc (.cells #[.int .i64 0, .int .i64 0, .slice none 0 0, .int .i64 0, .int .i64 0, .string ⟨#[]⟩, .int .i64 0, .int .i64 0] 26)) := (Below.refl _ _).alloc (Nat.le_refl _) _
  have hB0 := Bx.new wA #[.int .i64 0, .int .i64 0, .slice none 0 0, .int .i64 0, .int .i64 0, .string ⟨#[]⟩, .int .i64 0, .int .i64 0] 26
  obtain ⟨wB, hwB⟩ : ∃ wB, wA.alloc (.cells #[.int .i64 0, .int .i64 0, .slice none 0 0, .int .i64 0, .int .i64 0, .string ⟨#[]⟩, .int .i64 0, .int .i64 0] 26) = wB := ⟨_, rfl⟩
  rw [hwB] at bB hB0
  have hA1 := hA0.below bB
  have hlt : w6.heap.size < wA.heap.size := hA0.lt
  obtain ⟨wC, hst1, f1, bx1⟩ := st_C hA1 rfl (twoC 1 ga (colC 0 0) (numC 1))
  obtain ⟨wD, hst2, f2, bx2⟩ := st_C (hB0.frm' f1 (by omega)) rfl (twoC 3 gb (numC 5) (colC 0 0))
  have bx1' := bx1.frm' f2 (by omega)
  have bD : Below w6.heap.size w6 wD := by
    have bAB := bA.trans (bB.mono bA.size)
    exact ((Frm.of_below (F := fun _ => False) bAB).trans ((f1.mono (F1 := fun k => k = w6.heap.size ∨ k = wA.heap.size) (fun k hk => .inl hk)).trans f2 (fun k hk => .inl (.inr hk))) (fun k hk => .inr (by omega))).nothing
  have HD := Lib.hid (And.intro (HB.out.1.below bD) (And.intro (HB.out.2.1.below bD) (HB.out.2.2.trans (bD.mono HB.out.2.2.size))))
  have HBX := Lib.hid (And.intro bx1' bx2)
  have HS1 := Lib.hid hst1
  have HS2 := Lib.hid hst2
  have HLD := Lib.hid (ld_C (XC.at_box bx2))
  have hbn := bound_any (K := fun k => False ∨ k = gb) (twoC 3 gb (numC 5) (colC 0 0)) 0 (by rw [sz_two, sz_num, sz_col]; decide) HD.out.2.1
  rw [bnd_b] at hbn
  have HBN := Lib.hid hbn
  have hltD : wA.heap.size < wD.heap.size := bx2.lt
  clear hA0 hB0 hA1 bA bB f1 f2 bx1 bx2 bx1' bD hst1 hst2 hbn
  go_wp2_with (first | (refine wpSt rfl _ _ rfl rfl rfl HS1.out ?_; clear HS1) | (refine wpSt rfl _ _ rfl rfl rfl HS2.out ?_; clear HS2) | (refine wpLd rfl _ rfl rfl HLD.out ?_; clear HLD))
  refine HBN.out.mono ?_
  rintro e w7 ⟨y, rfl, hy, hym, b7⟩
  obtain ⟨ya, yc, rfl⟩ := er_leaf hy
  have bE0 : Below w7.heap.size w7 (w7.alloc (.cells #[.int .i64 0, .int .i64 0, .int .i64 0, .int .i64 0, .slice none 0 0, .int .i64 0, .int .i64 0, .string ⟨#[]⟩, .int .i64 0, .int .i64 0] 30)) := (Below.refl _ _).alloc (Nat.le_refl _) _
  obtain ⟨wE, hst3, f3, bx3⟩ := st_R (Bx.new w7 #[.int .i64 0, .int .i64 0, .int .i64 0, .int .i64 0, .slice none 0 0, .int .i64 0, .int .i64 0, .string ⟨#[]⟩, .int .i64 0, .int .i64 0] 30) 0 5 (.mk 21 2 ya yc [] 2 5 ⟨#[]⟩ 0 0)
  have b7E : Below w7.heap.size w7 wE := ((Frm.of_below (F := fun _ => False) bE0).trans f3 (fun k hk => .inr (Nat.le_of_eq hk.symm))).nothing
  have bDE : Below wD.heap.size wD wE := b7.trans (b7E.mono b7.size)
  have HE := Lib.hid (And.intro (HD.out.1.below bDE) (And.intro (HD.out.2.1.below bDE) (HD.out.2.2.trans (bDE.mono HD.out.2.2.size))))
  have HBE := Lib.hid (And.intro (HBX.out.1.below bDE) (And.intro (HBX.out.2.below bDE) bx3))
  simp only [XC.rng, List.length_nil] at hst3
  have HS3 := Lib.hid hst3
  clear hst3 f3 bx3 b7 bE0 b7E bDE hym hy
  simp only [XC.rng, List.length_nil]
  go_wp2_with (refine wpSt rfl _ _ rfl rfl rfl HS3.out ?_; clear HS3)
  refine (col_any _ 0 0).mono ?_
  rintro e w11 ⟨rfl, b11⟩
  go_wp2_with fail
  refine (col_any _ 0 1).mono ?_
  rintro e w12 ⟨rfl, b12⟩
  go_wp2_with fail
  refine (two_any (K := fun _ => False) 1 (colC 0 0) (colC 0 1) (leafM ..) (leafM ..)).mono ?_
  rintro e w13 ⟨gc, rfl, lc, mc, b13⟩
  have hbn := bound_any (K := fun k => False ∨ k = gc) (twoC 1 gc (colC 0 0) (colC 0 1)) 0 (by rw [sz_two, sz_col, sz_col]; decide) mc
  rw [bnd_no] at hbn
  have HBN2 := Lib.hid hbn
  have HB13 := Lib.hid (b11.trans ((b12.trans (b13.mono b12.size)).mono b11.size))
  clear hbn lc mc b11 b12 b13
  go_wp2_with fail
  refine HBN2.out.mono ?_
  rintro e w14 ⟨y2, rfl, hy2, -, b14⟩
  obtain ⟨ya2, yc2, rfl⟩ := er_leaf (hy2.trans zC_er.symm)
  have bE0 : Below w14.heap.size w14 (w14.alloc (.cells #[.int .i64 0, .int .i64 0, .int .i64 0, .int .i64 0, .slice none 0 0, .int .i64 0, .int .i64 0, .string ⟨#[]⟩, .int .i64 0, .int .i64 0] 30)) := (Below.refl _ _).alloc (Nat.le_refl _) _
  obtain ⟨wF, hst4, f4, bx4⟩ := st_R (Bx.new w14 #[.int .i64 0, .int .i64 0, .int .i64 0, .int .i64 0, .slice none 0 0, .int .i64 0, .int .i64 0, .string ⟨#[]⟩, .int .i64 0, .int .i64 0] 30) 0 0 (.mk 0 0 ya2 yc2 [] 0 0 ⟨#[]⟩ 0 0)
  have b14F : Below w14.heap.size w14 wF := ((Frm.of_below (F := fun _ => False) bE0).trans f4 (fun k hk => .inr (Nat.le_of_eq hk.symm))).nothing
  have bEF : Below wE.heap.size wE wF := by
    have h1 := HB13.out
    have h2 := h1.trans (b14.mono h1.size)
    exact h2.trans (b14F.mono h2.size)
  have HF := Lib.hid (And.intro (HE.out.1.below bEF) (And.intro (HE.out.2.1.below bEF) (HE.out.2.2.trans (bEF.mono HE.out.2.2.size))))
  have HBF := Lib.hid (And.intro (HBE.out.1.below bEF) (And.intro (HBE.out.2.1.below bEF) (HBE.out.2.2.below bEF)))
  simp only [XC.rng, List.length_nil] at hst4
  have HS4 := Lib.hid hst4
  clear hst4 f4 bx4 b14 bE0 b14F bEF hy2
  simp only [XC.rng, List.length_nil]
  go_wp2_with (refine wpSt rfl _ _ rfl rfl rfl HS4.out ?_; clear HS4)
  have hsp : ∀ w' : World, Below wF.heap.size wF w' → Below wF.heap.size wF w' ∧ w'.cell? ⟨w6.heap.size, 0, none⟩ = some (.int .i64 1) ∧ w'.cell? ⟨w6.heap.size, 1, none⟩ = some (.int .i64 0) ∧ w'.cell? ⟨w6.heap.size, 2, none⟩ = some (.slice (some ⟨ga, 0, none⟩) 2 2) ∧ w'.cell? ⟨w6.heap.size, 3, none⟩ = some (.int .i64 0) ∧ w'.cell? ⟨w6.heap.size, 4, none⟩ = some (.int .i64 0) ∧ w'.cell? ⟨w6.heap.size, 5, none⟩ = some (.string ⟨#[]⟩) ∧ w'.cell? ⟨w6.heap.size, 6, none⟩ = some (.int .i64 0) ∧ w'.cell? ⟨w6.heap.size, 7, none⟩ = some (.int .i64 0) ∧ w'.cell? ⟨wA.heap.size, 0, none⟩ = some (.int .i64 3) ∧ w'.cell? ⟨wA.heap.size, 1, none⟩ = some (.int .i64 0) ∧ w'.cell? ⟨wA.heap.size, 2, none⟩ = some (.slice (some ⟨gb, 0, none⟩) 2 2) ∧ w'.cell? ⟨wA.heap.size, 3, none⟩ = some (.int .i64 0) ∧ w'.cell? ⟨wA.heap.size, 4, none⟩ = some (.int .i64 0) ∧ w'.cell? ⟨wA.heap.size, 5, none⟩ = some (.string ⟨#[]⟩) ∧ w'.cell? ⟨wA.heap.size, 6, none⟩ = some (.int .i64 0) ∧ w'.cell? ⟨wA.heap.size, 7, none⟩ = some (.int .i64 0) ∧ w'.cell? ⟨w7.heap.size, 0, none⟩ = some (.int .i64 0) ∧ w'.cell? ⟨w7.heap.size, 1, none⟩ = some (.int .i64 5) ∧ w'.cell? ⟨w7.heap.size, 6, none⟩ = some (.int .i64 5) := fun w' h => by
    have h1 := HBF.out.1.below h
    have h2 := HBF.out.2.1.below h
    have h3 := HBF.out.2.2.below h
    exact ⟨h, h1.cell rfl, h1.cell rfl, h1.cell rfl, h1.cell rfl, h1.cell rfl, h1.cell rfl, h1.cell rfl, h1.cell rfl, h2.cell rfl, h2.cell rfl, h2.cell rfl, h2.cell rfl, h2.cell rfl, h2.cell rfl, h2.cell rfl, h2.cell rfl, h3.cell rfl, h3.cell rfl, h3.cell rfl⟩
  have hs0 := hsp wF (Below.refl _ _)
  have HSP := Lib.hid hsp
  have hma := HF.out.1.mono (K' := fun k => (False ∨ k = ga) ∨ (False ∨ k = gb)) (fun k hk => .inl hk)
  have hmb := HF.out.2.1.mono (K' := fun k => (False ∨ k = ga) ∨ (False ∨ k = gb)) (fun k hk => .inr hk)
  have H28 := fun (wv : World) (hv : Below wF.heap.size wF wv) => two_any (w := wv) 17 _ _ (hmb.below hv) (hma.below hv)
  have H29 := fun (g1 : Nat) (w1 wv : World) (m1 : XC.Mem (fun k => ((False ∨ k = ga) ∨ (False ∨ k = gb)) ∨ k = g1) w1 (twoC 17 g1 (twoC 3 gb (numC 5) (colC 0 0)) (twoC 1 ga (colC 0 0) (numC 1)))) (hv : Below w1.heap.size w1 wv) (hF : Below wF.heap.size wF wv) => two_any (w := wv) 17 _ _ ((hma.mono (K' := fun k => ((False ∨ k = ga) ∨ (False ∨ k = gb)) ∨ k = g1) (fun k hk => .inl hk)).below hF) (m1.below hv)
  have H30 := fun (g1 g2 : Nat) (w1 wv : World) (m2 : XC.Mem (fun k => (((False ∨ k = ga) ∨ (False ∨ k = gb)) ∨ k = g1) ∨ k = g2) w1 (twoC 17 g2 (twoC 1 ga (colC 0 0) (numC 1)) (twoC 17 g1 (twoC 3 gb (numC 5) (colC 0 0)) (twoC 1 ga (colC 0 0) (numC 1))))) (hv : Below w1.heap.size w1 wv) => (conj_any (w := wv) _ (by simp only [sz_two, sz_num, sz_col]; decide) (m2.below hv)).mono (R' := fun e w' => ∃ sa sc, e = .returned (.slice sa 3 sc) ∧ Below wv.heap.size wv w') (by
    rintro e w' ⟨v, l, rfl, hl, he, hb, -⟩
    have hlen : l.length = 3 := by
      have := congrArg List.length he
      rw [List.length_map] at this
      rw [this]
      simp only [XC.er, XC.erL]
      rfl
    obtain ⟨sa, sc, rfl, -, -⟩ := hl.own.sl
    rw [hlen]
    exact ⟨_, _, rfl, hb⟩)
  have HCa := fun (wv : World) => col_any wv 2 0
  have HCb := fun (wv : World) => col_any wv 0 1
  have H60 := fun (wv : World) => two_any (K := fun _ => False) (w := wv) 1 (colC 2 0) (colC 0 1) (leafM ..) (leafM ..)
  have H61 := fun (g1 : Nat) (w1 wv : World) (m1 : XC.Mem (fun k => False ∨ k = g1) w1 (twoC 1 g1 (colC 2 0) (colC 0 1))) (hv : Below w1.heap.size w1 wv) => (sources_any (w := wv) _ (by rw [sz_two, sz_col, sz_col]; decide) (by simp [XC.Wd, XC.WdL, Lit.wf]; decide) ((XC.Mem.old _ m1).below hv) (fun k hk => Nat.lt_of_lt_of_le hk.2 hv.size)).mono (R' := fun e w' => ∃ v, e = .returned v ∧ QI w' wv.heap.size v [0, 2] ∧ Below wv.heap.size wv w') (by
    rintro e w' ⟨v, l, rfl, hq, hp, hm, hb⟩
    have hl : l = [0, 2] := rise_eq hp (by decide) (fun t => by
      rw [hm]
      simp only [XC.er, XC.erL, tabs, tabsL]
      simp
      exact or_comm)
    rw [hl] at hq
    exact ⟨v, rfl, hq, hb⟩)
  simp only [XC.val, List.length_cons, List.length_nil] at H28 H29 H30 HCa HCb H60 H61
  have H28 := Lib.hid H28
  have H29 := Lib.hid H29
  have H30 := Lib.hid H30
  have HCa := Lib.hid HCa
  have HCb := Lib.hid HCb
  have H60 := Lib.hid H60
  have H61 := Lib.hid H61
  have HBW := Lib.hid HF.out.2.2
  clear hsp hma hmb
  go_region_held3 (fun w' => Below wF.heap.size wF w' ∧ w'.cell? ⟨w6.heap.size, 0, none⟩ = some (.int .i64 1) ∧ w'.cell? ⟨w6.heap.size, 1, none⟩ = some (.int .i64 0) ∧ w'.cell? ⟨w6.heap.size, 2, none⟩ = some (.slice (some ⟨ga, 0, none⟩) 2 2) ∧ w'.cell? ⟨w6.heap.size, 3, none⟩ = some (.int .i64 0) ∧ w'.cell? ⟨w6.heap.size, 4, none⟩ = some (.int .i64 0) ∧ w'.cell? ⟨w6.heap.size, 5, none⟩ = some (.string ⟨#[]⟩) ∧ w'.cell? ⟨w6.heap.size, 6, none⟩ = some (.int .i64 0) ∧ w'.cell? ⟨w6.heap.size, 7, none⟩ = some (.int .i64 0) ∧ w'.cell? ⟨wA.heap.size, 0, none⟩ = some (.int .i64 3) ∧ w'.cell? ⟨wA.heap.size, 1, none⟩ = some (.int .i64 0) ∧ w'.cell? ⟨wA.heap.size, 2, none⟩ = some (.slice (some ⟨gb, 0, none⟩) 2 2) ∧ w'.cell? ⟨wA.heap.size, 3, none⟩ = some (.int .i64 0) ∧ w'.cell? ⟨wA.heap.size, 4, none⟩ = some (.int .i64 0) ∧ w'.cell? ⟨wA.heap.size, 5, none⟩ = some (.string ⟨#[]⟩) ∧ w'.cell? ⟨wA.heap.size, 6, none⟩ = some (.int .i64 0) ∧ w'.cell? ⟨wA.heap.size, 7, none⟩ = some (.int .i64 0) ∧ w'.cell? ⟨w7.heap.size, 0, none⟩ = some (.int .i64 0) ∧ w'.cell? ⟨w7.heap.size, 1, none⟩ = some (.int .i64 5) ∧ w'.cell? ⟨w7.heap.size, 6, none⟩ = some (.int .i64 5))
    (first | (go_split_ands; exact HSP.out _ (by assumption)) | (go_split_ands; exact HSP.out _ (Below.drew (by assumption))) | (go_split_ands; exact HSP.out _ ((by assumption : Below wF.heap.size wF _).alloc (Below.size (by assumption)) _)) | exact HSP.out _ (by assumption))
    (first
      | (go_at_call 16; have hzz := H28; clear hzz; refine (H28.out _ (And.left (by assumption))).mono ?_; rintro e w17 ⟨g1, rfl, l1, m1, b17⟩; have B17 : Below wF.heap.size wF w17 := (And.left (by assumption) : Below wF.heap.size wF _).trans (b17.mono (And.left (by assumption) : Below wF.heap.size wF _).size); have HM1 := Lib.hid m1; clear l1 m1 b17 H28)
      | (go_at_call 16; have hzz := H29; clear hzz; refine (H29.out g1 _ _ HM1.out (Below.refl _ _) (by assumption)).mono ?_; rintro e w18 ⟨g2, rfl, l2, m2, b18⟩; have B18 : Below wF.heap.size wF w18 := B17.trans (b18.mono B17.size); have HM2 := Lib.hid m2; clear l2 m2 b18 H29)
      | (go_at_call 6; refine (H30.out g1 g2 _ _ HM2.out (Below.refl _ _)).mono ?_; rintro e w20 ⟨sa, sc, rfl, b20⟩; have B20 : Below wF.heap.size wF w20 := B18.trans (b20.mono B18.size); clear b20 H30)
      | (go_at_call 17; have hzz := HCa; clear hzz; refine (HCa.out _).mono ?_; rintro e w21 ⟨rfl, b21⟩; have B21 : Below wF.heap.size wF w21 := (And.left (by assumption) : Below wF.heap.size wF _).trans (b21.mono (And.left (by assumption) : Below wF.heap.size wF _).size); clear HCa)
      | (go_at_call 17; have hzz := HCb; clear hzz; refine (HCb.out _).mono ?_; rintro e w22 ⟨rfl, b22⟩; have B22 : Below wF.heap.size wF w22 := (And.left (by assumption) : Below wF.heap.size wF _).trans (b22.mono (And.left (by assumption) : Below wF.heap.size wF _).size); clear HCb)
      | (go_at_call 16; have hzz := H60; clear hzz; refine (H60.out _).mono ?_; rintro e w23 ⟨g3, rfl, l3, m3, b23⟩; have B23 : Below wF.heap.size wF w23 := (And.left (by assumption) : Below wF.heap.size wF _).trans (b23.mono (And.left (by assumption) : Below wF.heap.size wF _).size); have HM3 := Lib.hid m3; clear l3 m3 H60)
      | (go_at_call 12; refine (H61.out g3 _ _ HM3.out (by first | exact Below.refl _ _ | exact (Below.refl _ _).alloc (Nat.le_refl _) _)).mono ?_; rintro e w24 ⟨v24, rfl, hq24, b24⟩; have B24 : Below wF.heap.size wF w24 := (And.left (by assumption) : Below wF.heap.size wF _).trans (b24.mono (And.left (by assumption) : Below wF.heap.size wF _).size); have HQ24 := Lib.hid hq24; clear hq24 H61)
      | (go_at_call 11; refine Calls.mono (sames_any _ 0 0 _ _ [0, 2] [0, 2] ?_ ?_) ?_; (first | exact HQ24.out.le (Nat.zero_le _) | exact (HQ24.out.le (Nat.zero_le _)).below ((Below.refl _ _).alloc (Nat.le_refl _) _)); (first | exact QI.pair _ | exact (QI.pair _).below b24 | exact ((QI.pair _).below b23).below b24 | exact (((QI.pair _).below b22).below b23).below b24 | exact ((((QI.pair _).below b21).below b22).below b23).below b24); rintro e w25 ⟨rfl, b25⟩; have B25 : Below wF.heap.size wF w25 := (And.left (by assumption) : Below wF.heap.size wF _).trans (b25.mono (And.left (by assumption) : Below wF.heap.size wF _).size)))
  all_goals
    have HFF := Lib.hid (show P (.returned (.bool true)) w25 by rw [← HP.out]; exact ⟨rfl, HBW.out.trans (B25.mono HBW.out.size)⟩)
    go_wp2_with fail
    exact HFF.out

end Go.Proofs.Ytccjeclncmogiaa
