/-
  The codes that the law makes (num, col, two), over the translation (layer 18).
  Conditions: none.
-/
import Derived.Test.YtccjeclncmogiaaNo9
namespace Go.Proofs.Ytccjeclncmogiaa
open Go.RowKit Go.Joins Go.ChangeShapes Go.WideShapes
set_option linter.unusedVariables false
set_option linter.unusedSimpArgs false

abbrev numC (n : Int) : XC := .mk 21 2 none 0 [] 2 n ⟨#[]⟩ 0 0
abbrev colC (t c : Int) : XC := .mk 22 0 none 0 [] 0 0 ⟨#[]⟩ t c
abbrev twoC (op : Int) (g : Nat) (x y : XC) : XC := .mk op 0 (some ⟨g, 0, none⟩) 2 [x, y] 0 0 ⟨#[]⟩ 0 0
set_option maxRecDepth 100000 in
set_option maxHeartbeats 2000000 in
theorem num_any (w : World) (n : Int) : Calls Try.prog 18 #[.int .i64 n] w fun e w' => e = .returned (numC n).val ∧ Below w.heap.size w w' := by
  generalize hP : (fun (e : Ending) (w' : World) => e = .returned (numC n).val ∧ Below w.heap.size w w') = P
  have HP := Lib.hid hP
  obtain ⟨wz, hst, bz, hbz⟩ := put_C w (numC n)
  simp only [XC.val, XC.encA, List.length_nil] at hst hbz
  have HST := Lib.hid hst
  have HBZ := Lib.hid hbz
  have HF := Lib.hid (show P (.returned (.agg #[.int .i64 21, .int .i64 2, .slice none 0 0, .int .i64 2, .int .i64 n, .string ⟨#[]⟩, .int .i64 0, .int .i64 0])) wz by rw [← HP.out]; exact ⟨rfl, bz⟩)
  clear hP hst hbz bz
  go_enter Try.func18, Try.ntmps18
  go_wp2_with (refine wpSt rfl _ _ rfl rfl rfl HST.out ?_; clear HST)
  exact retC Try.results18 HBZ.out rfl rfl HF.out
set_option maxRecDepth 100000 in
set_option maxHeartbeats 2000000 in
theorem col_any (w : World) (t c : Int) : Calls Try.prog 17 #[.int .i64 t, .int .i64 c] w fun e w' => e = .returned (colC t c).val ∧ Below w.heap.size w w' := by
  generalize hP : (fun (e : Ending) (w' : World) => e = .returned (colC t c).val ∧ Below w.heap.size w w') = P
  have HP := Lib.hid hP
  obtain ⟨wz, hst, bz, hbz⟩ := put_C w (colC t c)
  simp only [XC.val, XC.encA, List.length_nil] at hst hbz
  have HST := Lib.hid hst
  have HBZ := Lib.hid hbz
  have HF := Lib.hid (show P (.returned (.agg #[.int .i64 22, .int .i64 0, .slice none 0 0, .int .i64 0, .int .i64 0, .string ⟨#[]⟩, .int .i64 t, .int .i64 c])) wz by rw [← HP.out]; exact ⟨rfl, bz⟩)
  clear hP hst hbz bz
  go_enter Try.func17, Try.ntmps17
  go_wp2_with (refine wpSt rfl _ _ rfl rfl rfl HST.out ?_; clear HST)
  exact retC Try.results17 HBZ.out rfl rfl HF.out
set_option maxRecDepth 100000 in
set_option maxHeartbeats 4000000 in
theorem two_any {K : Bl} {w : World} (op : Int) (x y : XC) (hx : XC.Mem K w x) (hy : XC.Mem K w y) : Calls Try.prog 16 #[.int .i64 op, x.val, y.val] w fun e w' => ∃ g, e = .returned (twoC op g x y).val ∧ w.heap.size ≤ g ∧ XC.Mem (fun k => K k ∨ k = g) w' (twoC op g x y) ∧ Below w.heap.size w w' := by
  have HMX := Lib.hid (And.intro hx hy)
  generalize hP : (fun (e : Ending) (w' : World) => ∃ g, e = .returned (twoC op g x y).val ∧ w.heap.size ≤ g ∧ XC.Mem (fun k => K k ∨ k = g) w' (twoC op g x y) ∧ Below w.heap.size w w') = P
  have HP := Lib.hid hP
  have b1 : Below w.heap.size w (w.alloc (.cells x.encA 26)) := (Below.refl _ _).alloc (Nat.le_refl _) _
  have hx1 := Bx.new w x.encA 26
  obtain ⟨wa, hwa⟩ : ∃ wa, w.alloc (.cells x.encA 26) = wa := ⟨_, rfl⟩
  rw [hwa] at b1 hx1
  have hx2 := Bx.new wa y.encA 26
  have b2 : Below wa.heap.size wa (wa.alloc (.cells y.encA 26)) := (Below.refl _ _).alloc (Nat.le_refl _) _
  obtain ⟨wb, hwb⟩ : ∃ wb, wa.alloc (.cells y.encA 26) = wb := ⟨_, rfl⟩
  rw [hwb] at hx2 b2
  have hx3 := Bx.new wb zc8 26
  have b3 : Below wb.heap.size wb (wb.alloc (.cells zc8 26)) := (Below.refl _ _).alloc (Nat.le_refl _) _
  obtain ⟨wc, hwc⟩ : ∃ wc, wb.alloc (.cells zc8 26) = wc := ⟨_, rfl⟩
  rw [hwc] at hx3 b3
  have hx4 : Bx (wc.alloc (.cells (x.encA ++ y.encA) 26)) wc.heap.size (x.encA ++ y.encA) 26 := Bx.new wc (x.encA ++ y.encA) 26
  have b4 : Below wc.heap.size wc (wc.alloc (.cells (x.encA ++ y.encA) 26)) := (Below.refl _ _).alloc (Nat.le_refl _) _
  obtain ⟨wd, hwd⟩ : ∃ wd, wc.alloc (.cells (x.encA ++ y.encA) 26) = wd := ⟨_, rfl⟩
  rw [hwd] at hx4 b4
  have b13 := b1.trans (b2.mono b1.size)
  have b14 := b13.trans (b3.mono b13.size)
  have b15 := b14.trans (b4.mono b14.size)
  have hs1 : w.heap.size < wa.heap.size := hx1.lt
  have hs2 : wa.heap.size < wb.heap.size := hx2.lt
  have hs3 : wb.heap.size < wc.heap.size := hx3.lt
  have hs4 : wc.heap.size < wd.heap.size := hx4.lt
  obtain ⟨wz, hst, fz, hbz⟩ := st_C (hx3.below b4) rfl (twoC op wc.heap.size x y)
  have hmem : XC.Mem (fun k => K k ∨ k = wc.heap.size) wz (twoC op wc.heap.size x y) := by
    have hrow : XC.Mem (fun k => K k ∧ k < w.heap.size ∨ k = wc.heap.size) wd (twoC op wc.heap.size x y) := by
      refine XC.Mem.node op 0 0 0 ⟨#[]⟩ 0 0 wc.heap.size [x, y] (by simp [maxLen]) (.inr rfl) hs4 (fun j u hj => ?_) ?_
      · refine hx4.cell ?_
        have e : (x.encA ++ y.encA).toList = XC.encL [x, y] := by
          rw [XC.encA_eq, XC.encA_eq]; simp [XC.encL]
        rw [← Array.getElem?_toList, e]; exact hj
      · refine XC.memL_iff.2 fun z hz => ?_
        have hold : ∀ q, XC.Mem K w q → XC.Mem (fun k => K k ∧ k < w.heap.size ∨ k = wc.heap.size) wd q := fun q hq => XC.Mem.mono (fun k hk => .inl hk) _ ((XC.Mem.old q hq).below b15)
        simp only [List.mem_cons, List.not_mem_nil, or_false] at hz
        rcases hz with rfl | rfl
        · exact hold _ HMX.out.1
        · exact hold _ HMX.out.2
    refine XC.Mem.mono (fun k hk => ?_) _ (XC.Mem.frm fz (fun k hk e => ?_) _ hrow)
    · rcases hk with hk | hk
      · exact .inl hk.1
      · exact .inr hk
    · rcases hk with hk | hk <;> omega
  have HF := Lib.hid (show P (.returned (twoC op wc.heap.size x y).val) wz by
    rw [← HP.out]
    exact ⟨_, rfl, by omega, hmem, b15.trans ((fz.mono (F1 := fun k => w.heap.size ≤ k) (fun k hk => by omega)).below (fun k hk => hk) b15.size)⟩)
  have x1b := (hx1.below b2).below b3
  have x2b := hx2.below b3
  obtain ⟨op1, ty1, a1, cap1, args1, vk1, vn1, vs1, tab1, col1⟩ := x
  obtain ⟨op2, ty2, a2, cap2, args2, vk2, vn2, vs2, tab2, col2⟩ := y
  simp only [XC.val, XC.encA, List.length_cons, List.length_nil] at hst hbz HF x1b x2b hwa hwb hwd ⊢
  have e16 : (#[.int .i64 op1, .int .i64 ty1, .slice a1 args1.length cap1, .int .i64 vk1, .int .i64 vn1, .string vs1, .int .i64 tab1, .int .i64 col1] ++ #[.int .i64 op2, .int .i64 ty2, .slice a2 args2.length cap2, .int .i64 vk2, .int .i64 vn2, .string vs2, .int .i64 tab2, .int .i64 col2] : Array Value) = #[.int .i64 op1, .int .i64 ty1, .slice a1 args1.length cap1, .int .i64 vk1, .int .i64 vn1, .string vs1, .int .i64 tab1, .int .i64 col1, .int .i64 op2, .int .i64 ty2, .slice a2 args2.length cap2, .int .i64 vk2, .int .i64 vn2, .string vs2, .int .i64 tab2, .int .i64 col2] := rfl
  rw [e16] at hwd
  clear e16
  have HST := Lib.hid hst
  have HBZ := Lib.hid hbz
  have q0 := x1b.cell (o := 0) rfl
  have q1 := x1b.cell (o := 1) rfl
  have q2 := x1b.cell (o := 2) rfl
  have q3 := x1b.cell (o := 3) rfl
  have q4 := x1b.cell (o := 4) rfl
  have q5 := x1b.cell (o := 5) rfl
  have q6 := x1b.cell (o := 6) rfl
  have q7 := x1b.cell (o := 7) rfl
  have p0 := x2b.cell (o := 0) rfl
  have p1 := x2b.cell (o := 1) rfl
  have p2 := x2b.cell (o := 2) rfl
  have p3 := x2b.cell (o := 3) rfl
  have p4 := x2b.cell (o := 4) rfl
  have p5 := x2b.cell (o := 5) rfl
  have p6 := x2b.cell (o := 6) rfl
  have p7 := x2b.cell (o := 7) rfl
  clear hP hst hbz fz hmem hx1 hx2 hx3 hx4 b1 b2 b3 b4 b13 b14 b15 x1b x2b hx hy
  go_enter Try.func16, Try.ntmps16
  go_wp2_with (refine wpSt rfl _ _ rfl rfl rfl HST.out ?_; clear HST)
  refine retC (R := P) (w := wz) Try.results16 HBZ.out ?_ ?_ HF.out
  · rfl
  · rfl

end Go.Proofs.Ytccjeclncmogiaa
