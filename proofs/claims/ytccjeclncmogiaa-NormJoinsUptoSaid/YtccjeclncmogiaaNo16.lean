/-
  How a condition bounds a column (norm's Bound), over the translation (layer 18).
  Conditions: the condition lies in memory.
-/
import Derived.Test.YtccjeclncmogiaaNo15
import Derived.Test.YtccjeclncmogiaaNo10
namespace Go.Proofs.Ytccjeclncmogiaa
open Go.RowKit Go.Joins Go.ChangeShapes Go.WideShapes
set_option linter.unusedVariables false
set_option linter.unusedSimpArgs false

/-- the operator with its operands the other way round -/
def turn (op : Int) : Int := if op = 1 then 1 else if op = 3 then 5 else if op = 4 then 6 else if op = 5 then 3 else if op = 6 then 4 else 0
def zCd : Cd := .mk 0 0 [] 0 0 ⟨#[]⟩ 0 0
def Cd.tab : Cd → Int
  | .mk _ _ _ _ _ _ tab _ => tab
def Cd.col : Cd → Int
  | .mk _ _ _ _ _ _ _ col => col
/-- one operand is a column of the source, and the other one goes not over it -/
def bds (a b : Cd) (t : Int) : Bool := (a.op == 22) && (a.tab == t) && !over t b
/-- how a condition bounds a column of a source -/
def bnd (c : Cd) (t : Int) : Bool × Int × Int × Cd := match c.args with
  | [a, b] => if turn c.op = 0 then (false, 0, 0, zCd) else if bds a b t = true then (true, a.col, c.op, b) else if bds b a t = true then (true, b.col, turn c.op, a) else (false, 0, 0, zCd)
  | _ => (false, 0, 0, zCd)
abbrev rgc (c op : Int) (y : XC) : Array Value := #[.int .i64 c, .int .i64 op] ++ y.encA
set_option maxRecDepth 100000 in
theorem turned_any (w : World) (op : Int) : Calls Try.prog 20 #[.int .i64 op] w fun e w' => e = .returned (.int .i64 (turn op)) ∧ w' = w := by
  by_cases c1 : op = 1
  · subst c1
    go_enter Try.func20, Try.ntmps20
    go_wp2_with fail
    go_ret
    exact ⟨rfl, rfl⟩
  by_cases c3 : op = 3
  · subst c3
    go_enter Try.func20, Try.ntmps20
    go_wp2_with fail
    go_ret
    exact ⟨rfl, rfl⟩
  by_cases c4 : op = 4
  · subst c4
    go_enter Try.func20, Try.ntmps20
    go_wp2_with fail
    go_ret
    exact ⟨rfl, rfl⟩
  by_cases c5 : op = 5
  · subst c5
    go_enter Try.func20, Try.ntmps20
    go_wp2_with fail
    go_ret
    exact ⟨rfl, rfl⟩
  by_cases c6 : op = 6
  · subst c6
    go_enter Try.func20, Try.ntmps20
    go_wp2_with fail
    go_ret
    exact ⟨rfl, rfl⟩
  have e : turn op = 0 := by unfold turn; simp [c1, c3, c4, c5, c6]
  rw [e]
  have d1 : (op == 1) = false := by simp [c1]
  have d3 : (op == 3) = false := by simp [c3]
  have d4 : (op == 4) = false := by simp [c4]
  have d5 : (op == 5) = false := by simp [c5]
  have d6 : (op == 6) = false := by simp [c6]
  go_enter Try.func20, Try.ntmps20
  go_wp2_with fail
  go_ret
  exact ⟨rfl, rfl⟩
set_option maxRecDepth 100000 in
set_option maxHeartbeats 2000000 in
theorem bounds_any {K : Bl} {w : World} (x y : XC) (t : Int) (hm : XC.Mem K w y) : Calls Try.prog 21 #[x.val, y.val, .int .i64 t] w fun e w' => e = .returned (.bool (bds x.er y.er t)) ∧ Below w.heap.size w w' := by
  have HO := Lib.hid (fun (wv : World) (hb : Below w.heap.size w wv) => over_q _ K wv y t (Nat.lt_succ_self _) (hm.below hb))
  obtain ⟨R, hR⟩ : ∃ R, over t y.er = R := ⟨_, rfl⟩
  have hbd : bds x.er y.er t = ((x.er.op == 22) && (x.er.tab == t) && !R) := by unfold bds; rw [hR]
  rw [hR] at HO
  generalize hP : (fun (e : Ending) (w' : World) => e = .returned (.bool (bds x.er y.er t)) ∧ Below w.heap.size w w') = P
  have HP := Lib.hid (fun (b : Bool) (w' : World) (h1 : bds x.er y.er t = b) (h2 : Below w.heap.size w w') => show P (.returned (.bool b)) w' by rw [← hP]; exact ⟨by rw [h1], h2⟩)
  rw [hbd] at HP
  obtain ⟨op, ty, a, cap, args, vk, vn, vs, tab, col⟩ := x
  obtain ⟨op1, ty1, a1, cap1, args1, vk1, vn1, vs1, tab1, col1⟩ := y
  obtain ⟨n, hn⟩ : ∃ n, args.length = n := ⟨_, rfl⟩
  obtain ⟨n1, hn1⟩ : ∃ n, args1.length = n := ⟨_, rfl⟩
  simp only [XC.val] at HO ⊢
  have HPP := Lib.hid (fun (b : Bool) (w' : World) (h1 : ((op == 22) && (tab == t) && !R) = b) (h2 : Below w.heap.size w w') => HP.out b w' (by rw [XC.er]; exact h1) h2)
  rw [hn]
  rw [hn1] at HO ⊢
  have b1 : Below w.heap.size w (w.alloc (.cells (cel op ty (.slice a n cap) vk vn vs tab col) 26)) := (Below.refl _ _).alloc (Nat.le_refl _) _
  have hx1 := Bx.new w (cel op ty (.slice a n cap) vk vn vs tab col) 26
  obtain ⟨wa, hwa⟩ : ∃ wa, w.alloc (.cells (cel op ty (.slice a n cap) vk vn vs tab col) 26) = wa := ⟨_, rfl⟩
  rw [hwa] at b1 hx1
  have hx2 := Bx.new wa (cel op1 ty1 (.slice a1 n1 cap1) vk1 vn1 vs1 tab1 col1) 26
  have b2 : Below wa.heap.size wa (wa.alloc (.cells (cel op1 ty1 (.slice a1 n1 cap1) vk1 vn1 vs1 tab1 col1) 26)) := (Below.refl _ _).alloc (Nat.le_refl _) _
  obtain ⟨wb, hwb⟩ : ∃ wb, wa.alloc (.cells (cel op1 ty1 (.slice a1 n1 cap1) vk1 vn1 vs1 tab1 col1) 26) = wb := ⟨_, rfl⟩
  rw [hwb] at hx2 b2
  have hx3 := hx1.below b2
  have b3 := b1.trans (b2.mono b1.size)
  have HC := Lib.hid (HO.out wb b3)
  have HB3 := Lib.hid b3
  have l0 : wb.cell? ⟨w.heap.size, 0, none⟩ = some (.int .i64 op) := hx3.cell rfl
  have l6 : wb.cell? ⟨w.heap.size, 6, none⟩ = some (.int .i64 tab) := hx3.cell rfl
  have m0 : wb.cell? ⟨wa.heap.size, 0, none⟩ = some (.int .i64 op1) := hx2.cell rfl
  have m1 : wb.cell? ⟨wa.heap.size, 1, none⟩ = some (.int .i64 ty1) := hx2.cell rfl
  have m2 : wb.cell? ⟨wa.heap.size, 2, none⟩ = some (.slice a1 n1 cap1) := hx2.cell rfl
  have m3 : wb.cell? ⟨wa.heap.size, 3, none⟩ = some (.int .i64 vk1) := hx2.cell rfl
  have m4 : wb.cell? ⟨wa.heap.size, 4, none⟩ = some (.int .i64 vn1) := hx2.cell rfl
  have m5 : wb.cell? ⟨wa.heap.size, 5, none⟩ = some (.string vs1) := hx2.cell rfl
  have m6 : wb.cell? ⟨wa.heap.size, 6, none⟩ = some (.int .i64 tab1) := hx2.cell rfl
  have m7 : wb.cell? ⟨wa.heap.size, 7, none⟩ = some (.int .i64 col1) := hx2.cell rfl
  clear hP b1 hx1 hx2 b2 hx3 b3 hm HO hR hbd hn hn1
  go_enter Try.func21, Try.ntmps21
  by_cases c : op = 22
  · subst c
    by_cases c2 : tab = t
    · subst c2
      go_wp2_with fail
      try go_at_call 28
      refine HC.out.mono ?_
      rintro e w3 ⟨rfl, b4⟩
      have HF := Lib.hid (show P (.returned (.bool (!R))) w3 from HPP.out _ _ (by simp) (HB3.out.trans (b4.mono HB3.out.size)))
      clear b4
      go_wp2_with fail
      exact HF.out
    · have c3 : (tab == t) = false := by simp [c2]
      have HF := Lib.hid (show P (.returned (.bool false)) wb from HPP.out _ _ (by simp [c2]) HB3.out)
      go_wp2_with fail
      exact HF.out
  · have c3 : (op == 22) = false := by simp [c]
    have HF := Lib.hid (show P (.returned (.bool false)) wb from HPP.out _ _ (by simp [c]) HB3.out)
    go_wp2_with fail
    exact HF.out

end Go.Proofs.Ytccjeclncmogiaa
