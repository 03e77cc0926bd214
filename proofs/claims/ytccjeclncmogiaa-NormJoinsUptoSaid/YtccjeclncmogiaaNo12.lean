/-
  Two codes that mean one are one for the document (haspref16's SameCode, SameCodes), over the translation (layer 18).
  Conditions: the codes lie in memory.
-/
import Derived.Test.YtccjeclncmogiaaNo7
import Derived.Deep.QuietTactic
import Derived.Deep.RegionWith
import Derived.Laws.StructEq
namespace Go.Proofs.Ytccjeclncmogiaa
open Go.RowKit Go.Joins Go.ChangeShapes Go.WideShapes
set_option linter.unusedVariables false
set_option linter.unusedSimpArgs false

theorem eqVc (vk vn : Int) (vs : ByteArray) (w : World) : (Op.equalIn 10000 24 (.agg #[.int .i64 vk, .int .i64 vn, .string vs]) (.agg #[.int .i64 vk, .int .i64 vn, .string vs])).run Try.prog w = .ok true w := by
  have u2 := Try.underlying2
  have u3 := Try.underlying3
  have u9 := Try.underlying9
  have hS : Try.prog.underlying 24 = some (.struct (Try.prog.fieldsOf 24)) := by kernel_rfl
  have hp : Try.prog.stoodInHeld 24 = false := by kernel_rfl
  rw [show (10000 : Nat) = 9999 + 1 from rfl, run_equalIn_agg w 9999 24 _ _ hS hp]
  simp only [Program.fieldsOf, Try.underlying24]
  go_simp
theorem sv_eq (w : World) (vk vn : Int) (vs : ByteArray) : (binOp .neq 24 (.agg #[.int .i64 vk, .int .i64 vn, .string vs]) (.agg #[.int .i64 vk, .int .i64 vn, .string vs])).run Try.prog w = .ok (.bool false) w := by
  rw [run_neq_struct, eqVc]
  rfl
/-- SameCode says yes of two that mean one, as long as they are less deep than N -/
def SameQ (N : Nat) : Prop := ∀ (K K' : Bl) (w : World) (x y : XC), depC x.er < N → x.er = y.er → XC.Mem K w x → XC.Mem K' w y →
    Calls Try.prog 14 #[x.val, y.val] w fun e w' => e = .returned (.bool true) ∧ Below w.heap.size w w'
set_option maxRecDepth 100000 in
set_option maxHeartbeats 4000000 in
theorem sames_q {N : Nat} (HE : SameQ N) {K K' : Bl} {w : World} (l r : List XC) (a a' : Option Addr) (cap cap' : Nat) (h : XC.erL l = XC.erL r) (hd : ∀ x ∈ l, depC x.er < N)
    (hm : XC.Row K w a cap l) (hm' : XC.Row K' w a' cap' r) :
    Calls Try.prog 10 #[.slice a l.length cap, .slice a' r.length cap'] w fun e w' => e = .returned (.bool true) ∧ Below w.heap.size w w' := by
  generalize hP : (fun (e : Ending) (w' : World) => e = .returned (.bool true) ∧ Below w.heap.size w w') = P
  have HP := Lib.hid hP
  obtain ⟨n, hn⟩ : ∃ n, l.length = n := ⟨_, rfl⟩
  have hn' : r.length = n := by rw [← XC.erL_length, ← h, XC.erL_length]; exact hn
  have hnc : n ≤ cap := by rw [← hn]; exact hm.bounds.1
  have hnc' : n ≤ cap' := by rw [← hn']; exact hm'.bounds.1
  have hcm : cap ≤ maxLen := hm.bounds.2
  have hcm' : cap' ≤ maxLen := hm'.bounds.2
  have HM := Lib.hid (And.intro hm hm')
  have HD := Lib.hid (And.intro h hd)
  have HL := Lib.hid (And.intro hn hn')
  have HQ := Lib.hid HE
  rw [hn, hn']
  clear hP hm hm' h hd hn hn' HE
  go_enter Try.func10, Try.ntmps10
  go_wp2_with fail
  go_loopw [5] (fun i wr => ∃ (k : Nat), k ≤ n ∧ i = .int .i64 (k : Int) ∧ Hid (Below w.heap.size w wr)) (fun i _ => n - (intOf i).toNat)
  case atStart => exact ⟨0, Nat.zero_le _, rfl, Lib.hid (Below.refl _ _)⟩
  case round =>
    obtain ⟨k, hk, rfl, HW⟩ := hrel
    by_cases c : k < n
    · have c1 : (k : Int) < (n : Int) := by omega
      have hx : l[k]? = some (l[k]'(by rw [HL.out.1]; exact c)) := List.getElem?_eq_getElem _
      generalize l[k]'(by rw [HL.out.1]; exact c) = x at *
      have hy : r[k]? = some (r[k]'(by rw [HL.out.2]; exact c)) := List.getElem?_eq_getElem _
      generalize r[k]'(by rw [HL.out.2]; exact c) = y at *
      obtain ⟨b, o, rfl, -, hb, hcell, hmx⟩ := XC.Row.at (HM.out.1.below HW.out) hx
      obtain ⟨b', o', rfl, -, hb', hcell', hmy⟩ := XC.Row.at (HM.out.2.below HW.out) hy
      have hxy : x.er = y.er := by
        have e1 : (XC.erL l)[k]? = some x.er := by rw [XC.erL_map, List.getElem?_map, hx]; rfl
        have e2 : (XC.erL r)[k]? = some y.er := by rw [XC.erL_map, List.getElem?_map, hy]; rfl
        rw [HD.out.1, e2] at e1
        injection e1 with e1
        exact e1.symm
      have hdx := HD.out.2 x (List.mem_of_getElem? hx)
      have HCA := Lib.hid (fun (wv : World) (hb : Below wr.heap.size wr wv) => HQ.out K K' wv x y hdx hxy (hmx.below hb) (hmy.below hb))
      obtain ⟨op1, ty1, a1, cap1, args1, vk1, vn1, vs1, tab1, col1⟩ := x
      obtain ⟨op2, ty2, a2, cap2, args2, vk2, vn2, vs2, tab2, col2⟩ := y
      have q0 := hcell 0 _ rfl
      have q1 := hcell 1 _ rfl
      have q2 := hcell 2 _ rfl
      have q3 := hcell 3 _ rfl
      have q4 := hcell 4 _ rfl
      have q5 := hcell 5 _ rfl
      have q6 := hcell 6 _ rfl
      have q7 := hcell 7 _ rfl
      have p0 := hcell' 0 _ rfl
      have p1 := hcell' 1 _ rfl
      have p2 := hcell' 2 _ rfl
      have p3 := hcell' 3 _ rfl
      have p4 := hcell' 4 _ rfl
      have p5 := hcell' 5 _ rfl
      have p6 := hcell' 6 _ rfl
      have p7 := hcell' 7 _ rfl
      rw [Nat.add_zero] at q0 p0
      simp only [XC.val] at HCA
      have hwk : wrap64 ((k : Int) + 1) = ((k + 1 : Nat) : Int) := by unfold wrap64 maxLen at *; omega
      clear hx hy hcell hcell' hmx hmy hxy hdx
      go_wp2_with fail
      go_region_with (first | (go_at_call 14; refine (HCA.out _ (Below.refl _ _).drew).mono ?_; rintro e w2 ⟨rfl, b2⟩; have HB2 := Lib.hid (HW.out.trans ((Below.drew (Below.refl _ _)).trans b2 |>.mono HW.out.size)); clear b2))
      all_goals
        go_wp2_with fail
        refine ⟨⟨k + 1, by omega, by rw [hwk], HB2⟩, ?_⟩
        rw [hwk]
        simp [intOf]
        omega
    · have c2 : decide ((k : Int) < (n : Int)) = false := by simp; omega
      obtain rfl : k = n := by omega
      have HF := Lib.hid (show P (.returned (.bool true)) wr by rw [← HP.out]; exact ⟨rfl, HW.out⟩)
      go_wp2_with fail
      exact HF.out
set_option maxRecDepth 100000 in
set_option maxHeartbeats 4000000 in
theorem samec_q : ∀ N : Nat, SameQ N
  | 0 => fun K K' w x y h => absurd h (by omega)
  | N + 1 => fun K K' w x y h he hm hm' => by
    obtain ⟨op, ty, a, cap, args, vk, vn, vs, tab, col⟩ := x
    obtain ⟨op', ty', a', cap', args', vk', vn', vs', tab', col'⟩ := y
    have hd := dep_arg h
    simp only [XC.er, Cd.mk.injEq] at he
    obtain ⟨rfl, rfl, hl, rfl, rfl, rfl, rfl, rfl⟩ := he
    have HS := Lib.hid (fun (wv : World) (hb : Below w.heap.size w wv) => sames_q (samec_q N) args args' a a' cap cap' hl hd (hm.row.below hb) (hm'.row.below hb))
    have hvv : ∀ w, (binOp .neq 24 (.agg #[.int .i64 vk, .int .i64 vn, .string vs]) (.agg #[.int .i64 vk, .int .i64 vn, .string vs])).run Try.prog w = .ok (.bool false) w := fun w => sv_eq w vk vn vs
    have hn1 := Bx.new w (cel op ty (.slice a args.length cap) vk vn vs tab col) 26
    have b1 : Below w.heap.size w (w.alloc (.cells (cel op ty (.slice a args.length cap) vk vn vs tab col) 26)) := (Below.refl _ _).alloc (Nat.le_refl _) _
    obtain ⟨wa, hwa⟩ : ∃ wa, w.alloc (.cells (cel op ty (.slice a args.length cap) vk vn vs tab col) 26) = wa := ⟨_, rfl⟩
    rw [hwa] at hn1 b1
    have hn2 := Bx.new wa (cel op ty (.slice a' args'.length cap') vk vn vs tab col) 26
    have b2 : Below wa.heap.size wa (wa.alloc (.cells (cel op ty (.slice a' args'.length cap') vk vn vs tab col) 26)) := (Below.refl _ _).alloc (Nat.le_refl _) _
    obtain ⟨wb, hwb⟩ : ∃ wb, wa.alloc (.cells (cel op ty (.slice a' args'.length cap') vk vn vs tab col) 26) = wb := ⟨_, rfl⟩
    rw [hwb] at hn2 b2
    have hn3 := hn1.below b2
    have b3 := b1.trans (b2.mono b1.size)
    have HC := Lib.hid (HS.out _ b3)
    have HB3 := Lib.hid b3
    have x0 : wb.cell? ⟨w.heap.size, 0, none⟩ = some (.int .i64 op) := hn3.cell rfl
    have x1 : wb.cell? ⟨w.heap.size, 1, none⟩ = some (.int .i64 ty) := hn3.cell rfl
    have x2 : wb.cell? ⟨w.heap.size, 2, none⟩ = some (.slice a args.length cap) := hn3.cell rfl
    have x3 : wb.cell? ⟨w.heap.size, 3, none⟩ = some (.int .i64 vk) := hn3.cell rfl
    have x4 : wb.cell? ⟨w.heap.size, 4, none⟩ = some (.int .i64 vn) := hn3.cell rfl
    have x5 : wb.cell? ⟨w.heap.size, 5, none⟩ = some (.string vs) := hn3.cell rfl
    have x6 : wb.cell? ⟨w.heap.size, 6, none⟩ = some (.int .i64 tab) := hn3.cell rfl
    have x7 : wb.cell? ⟨w.heap.size, 7, none⟩ = some (.int .i64 col) := hn3.cell rfl
    have y0 : wb.cell? ⟨wa.heap.size, 0, none⟩ = some (.int .i64 op) := hn2.cell rfl
    have y1 : wb.cell? ⟨wa.heap.size, 1, none⟩ = some (.int .i64 ty) := hn2.cell rfl
    have y2 : wb.cell? ⟨wa.heap.size, 2, none⟩ = some (.slice a' args'.length cap') := hn2.cell rfl
    have y3 : wb.cell? ⟨wa.heap.size, 3, none⟩ = some (.int .i64 vk) := hn2.cell rfl
    have y4 : wb.cell? ⟨wa.heap.size, 4, none⟩ = some (.int .i64 vn) := hn2.cell rfl
    have y5 : wb.cell? ⟨wa.heap.size, 5, none⟩ = some (.string vs) := hn2.cell rfl
    have y6 : wb.cell? ⟨wa.heap.size, 6, none⟩ = some (.int .i64 tab) := hn2.cell rfl
    have y7 : wb.cell? ⟨wa.heap.size, 7, none⟩ = some (.int .i64 col) := hn2.cell rfl
    generalize hP : (fun (e : Ending) (w' : World) => e = .returned (.bool true) ∧ Below w.heap.size w w') = P
    have HP := Lib.hid hP
    simp only [XC.val]
    clear hP hn1 hn2 hn3 b1 b2 b3 HS hm hm' hd hl h
    go_enter Try.func14, Try.ntmps14
    go_wp2_with fail
    try go_at_call 10
    refine HC.out.mono ?_
    rintro e w2 ⟨rfl, bz⟩
    have HF := Lib.hid (show P (.returned (.bool true)) w2 by rw [← HP.out]; exact ⟨rfl, HB3.out.trans (bz.mono HB3.out.size)⟩)
    clear bz
    go_wp2_with fail
    exact HF.out

end Go.Proofs.Ytccjeclncmogiaa
