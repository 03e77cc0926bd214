/-
  Contracts over the translation: package arith's texts put together, and its numbers reckoned out of a list of operands.
  Conditions: the list lies in memory; the texts have at most 200 bytes.
-/
import Derived.Test.YtceingfjdkpolaaAri5
import Derived.Deep.RegionHeld3
import Derived.Deep.DeepCutAuto
import Derived.Deep.QuietTactic
import Derived.BigQuiet
namespace Go.Proofs.Ytceingfjdkpolaa
open Go.RowKit Go.Joins Go.ChangeShapes Go.WideShapes
set_option linter.unusedVariables false

/-- an outcome: a value and an error -/
abbrev Out (k n : Int) (s : ByteArray) (e : Int) : Value := .tuple #[.agg #[.int .i64 k, .int .i64 n, .string s], .int .i64 e]

theorem join_long (s t : ByteArray) (hs : s.size ≤ 200) (ht : t.size ≤ 200) (h : 200 < s.size + t.size) (w : World) :
    Calls Try.prog 20 #[.string s, .string t] w fun e w' => e = .returned (Out 0 0 ⟨#[]⟩ 1) ∧ Below w.heap.size w w' := by
  have h1 : (s.size : Int) ≤ 200 := by omega
  have h2 : (t.size : Int) ≤ 200 := by omega
  have h3 : 200 - (s.size : Int) < (t.size : Int) := by omega
  have h4 : decide (200 < (s.size : Int)) = false := by simp; omega
  clear hs ht h
  go_enter Try.func20, Try.ntmps20
  go_wp2
  exact bodyPost_ret (v := Out 0 0 ⟨#[]⟩ 1) (by simp [results, Try.results20, go_sem]) rfl ⟨rfl, (Below.refl _ _).alloc (Nat.le_refl _) _⟩

theorem join_ok (s t : ByteArray) (hs : s.size ≤ 200) (ht : t.size ≤ 200) (h : s.size + t.size ≤ 200) (w : World) :
    Calls Try.prog 20 #[.string s, .string t] w fun e w' => e = .returned (Out 4 0 (s ++ t) 0) ∧ Below w.heap.size w w' := by
  have h1 : (s.size : Int) ≤ 200 := by omega
  have h2 : (t.size : Int) ≤ 200 := by omega
  have h3 : decide (200 - (s.size : Int) < (t.size : Int)) = false := by simp; omega
  have h4 : decide (200 < (s.size : Int)) = false := by simp; omega
  clear hs ht h
  go_enter Try.func20, Try.ntmps20
  go_wp2
  exact bodyPost_ret (v := Out 4 0 (s ++ t) 0) (by simp [results, Try.results20, go_sem]) rfl ⟨rfl, (Below.refl _ _).alloc (Nat.le_refl _) _⟩

def numV (op k a b : Int) : Int × Int := if op = 14 then tiV k a else if op = 15 then (trV k a, 0) else if k = 3 then (pointV op a b, 0) else wholeV op a b

/-- the cells of one operand -/
def Opd (w : World) (b off : Nat) (k n : Int) (s : ByteArray) : Prop :=
  w.cell? ⟨b, off, none⟩ = some (.int .i64 k) ∧ w.cell? ⟨b, off + 1, none⟩ = some (.int .i64 n) ∧ w.cell? ⟨b, off + 2, none⟩ = some (.string s)

theorem opd_below {w w' : World} {b off off' : Nat} {k n k' n' : Int} {s s' : ByteArray} (hb : b < w.heap.size) (h : Opd w b off k n s) (h' : Opd w b off' k' n' s') (hw : Below w.heap.size w w') :
    Below w.heap.size w w' ∧ w'.cell? ⟨b, off, none⟩ = some (.int .i64 k) ∧ w'.cell? ⟨b, off + 1, none⟩ = some (.int .i64 n) ∧ w'.cell? ⟨b, off + 2, none⟩ = some (.string s) ∧
      w'.cell? ⟨b, off', none⟩ = some (.int .i64 k') ∧ w'.cell? ⟨b, off' + 1, none⟩ = some (.int .i64 n') ∧ w'.cell? ⟨b, off' + 2, none⟩ = some (.string s') := by
  obtain ⟨hc, _⟩ := bcell hw
  refine ⟨hw, ?_, ?_, ?_, ?_, ?_, ?_⟩ <;> rw [hc _ _ hb]
  · exact h.1
  · exact h.2.1
  · exact h.2.2
  · exact h'.1
  · exact h'.2.1
  · exact h'.2.2

theorem zero_b (w : World) : Below w.heap.size w w.drew := (Below.refl _ _).drew
theorem one_b (w : World) (o : Obj) : Below w.heap.size w (w.alloc o).drew := ((Below.refl _ _).alloc (Nat.le_refl _) _).drew
theorem two_b (w : World) (o p : Obj) : Below w.heap.size w ((w.alloc o).alloc p).drew := (((Below.refl _ _).alloc (Nat.le_refl _) _).alloc (by simp) _).drew
theorem drew_below {w w' : World} {B : Nat} (h : Below B w w') : Below B w w'.drew := h.drew
theorem alloc_below {w w' : World} {B : Nat} (h : Below B w w') (hB : B ≤ w'.heap.size) (o : Obj) : Below B w (w'.alloc o) := h.alloc hB o

/-! compute -/

abbrev Vx (k n : Int) (s : ByteArray) : Obj := .cells #[.int .i64 k, .int .i64 n, .string s] 25
abbrev Vc (g : Nat) (k n : Int) (s : ByteArray) : List (Nat × Nat × Value) := [(g, 0, .int .i64 k), (g, 1, .int .i64 n), (g, 2, .string s)]

theorem rg_ab (k n : Int) (s : ByteArray) (k' n' : Int) (s' : ByteArray) (w : World) : Rg w.heap.size w ((w.alloc (Vx k n s)).alloc (Vx k' n' s')).drew (Vc w.heap.size k n s ++ Vc (w.heap.size + 1) k' n' s') := by
  refine ⟨two_b _ _ _, by simp; omega, ?_⟩
  unfold Kp
  simp only [List.cons_append, List.nil_append, List.forall_mem_cons, List.not_mem_nil, false_implies, implies_true, and_true]
  go_simp
theorem rg_ba (k n : Int) (s : ByteArray) (k' n' : Int) (s' : ByteArray) (w : World) : Rg w.heap.size w ((w.alloc (Vx k' n' s')).alloc (Vx k n s)).drew (Vc (w.heap.size + 1) k n s ++ Vc w.heap.size k' n' s') := by
  refine ⟨two_b _ _ _, by simp; omega, ?_⟩
  unfold Kp
  simp only [List.cons_append, List.nil_append, List.forall_mem_cons, List.not_mem_nil, false_implies, implies_true, and_true]
  go_simp

set_option maxHeartbeats 4000000 in
theorem compute_1 (op : Int) (b off cap : Nat) (k n : Int) (s : ByteArray) (w : World) (hb : b < w.heap.size) (h0 : Opd w b off k n s) (hi : InI n) (hi' : InI n)
    (hc : op = 14 ∨ op = 15 ∨ (k = 3 ∧ OpsR op) ∨ (k ≠ 3 ∧ OpsI op)) :
    Calls Try.prog 21 #[.int .i64 op, .slice (some ⟨b, off, none⟩) 1 cap] w fun e w' => e = .returned (.tuple #[.int .i64 (numV op k n n).1, .int .i64 (numV op k n n).2]) ∧ Below w.heap.size w w' := by
  have hk := Lib.hid (fun w' (hw : Below w.heap.size w w') => opd_below hb h0 h0 hw)
  have hs := opd_below hb h0 h0 (Below.refl _ _)
  have wr : IntKind.i64.wrap 0 = 0 := by decide
  clear h0
  go_enter Try.func21, Try.ntmps21
  go_upto_region 1 with fail
  go_cut [6, 7] (fun p q wx => ∃ g g' : Nat, p = .pointer (some ⟨g, 0, none⟩) ∧ q = .pointer (some ⟨g', 0, none⟩) ∧ Rg w.heap.size w wx (Vc g k n s ++ Vc g' k n s))
  case first =>
    go_region_held3 (fun w' => Below w.heap.size w w' ∧ w'.cell? ⟨b, off, none⟩ = some (.int .i64 k) ∧ w'.cell? ⟨b, off + 1, none⟩ = some (.int .i64 n) ∧ w'.cell? ⟨b, off + 2, none⟩ = some (.string s) ∧
      w'.cell? ⟨b, off, none⟩ = some (.int .i64 k) ∧ w'.cell? ⟨b, off + 1, none⟩ = some (.int .i64 n) ∧ w'.cell? ⟨b, off + 2, none⟩ = some (.string s))
      (first
        | (go_split_ands; exact hk.out _ (by assumption))
        | (exact hk.out _ (zero_b _))
        | (exact hk.out _ (one_b _ _))
        | (exact hk.out _ (two_b _ _ _)))
      (fail)
    all_goals
      go_wp2_with fail
      go_meet
      first
        | exact ⟨_, _, rfl, rfl, rg_ab k n s k n s w⟩
        | exact ⟨_, _, rfl, rfl, rg_ba k n s k n s w⟩
  case rest =>
    obtain ⟨g, g', rfl, rfl, hr⟩ := hcut
    have c0 := hr.kp.hd.1
    have c1 := hr.kp.tl.hd.1
    have c2 := hr.kp.tl.tl.hd.1
    have d0 := hr.kp.tl.tl.tl.hd.1
    have d1 := hr.kp.tl.tl.tl.tl.hd.1
    have d2 := hr.kp.tl.tl.tl.tl.tl.hd.1
    have bl := hr.bel
    have bs := hr.2.1
    clear hs wr hk hr
    rcases hc with rfl | rfl | ⟨rfl, ho⟩ | ⟨hk3, ho⟩
    · have h := toint2_any k n s
      have hv : numV 14 k n n = tiV k n := by simp [numV]
      unfold Vv at h
      generalize tiV k n = r at *
      obtain ⟨r1, r2⟩ := r
      have H := Lib.hid h
      have HV := Lib.hid hv
      clear h hv
      go_wp2_with fail
      refine (H.out _).mono ?_
      rintro e w1 ⟨rfl, hb1⟩
      go_wp2
      go_ret2
      exact ⟨by rw [HV.out]; rfl, bl.trans (hb1.mono bs)⟩
    · have h := toreal_any k n s
      have hv : numV 15 k n n = (trV k n, 0) := by simp [numV]
      unfold Vv at h
      generalize trV k n = r at *
      have H := Lib.hid h
      have HV := Lib.hid hv
      clear h hv
      go_wp2_with fail
      refine (H.out _).mono ?_
      rintro e w1 ⟨rfl, hb1⟩
      go_wp2
      go_ret2
      exact ⟨by rw [HV.out]; rfl, bl.trans (hb1.mono bs)⟩
    · have h := point_any op n n ho
      have e1 : (op == 14) = false := by unfold OpsR at ho; simp; omega
      have e2 : (op == 15) = false := by unfold OpsR at ho; simp; omega
      have hv : numV op 3 n n = (pointV op n n, 0) := by
        have f1 : ¬ op = 14 := by simpa using e1
        have f2 : ¬ op = 15 := by simpa using e2
        simp [numV, f1, f2]
      generalize pointV op n n = r at *
      have H := Lib.hid h
      have HV := Lib.hid hv
      clear h hv ho
      go_wp2_with fail
      refine (H.out _).mono ?_
      rintro e w1 ⟨rfl, n1, rfl⟩
      go_wp2
      go_ret2
      exact ⟨by rw [HV.out]; rfl, bl.trans ⟨rfl, rfl, rfl, Nat.le_refl _, fun _ _ => rfl⟩⟩
    · have h := whole_any op n n ho hi hi'
      have e1 : (op == 14) = false := by unfold OpsI at ho; simp; omega
      have e2 : (op == 15) = false := by unfold OpsI at ho; simp; omega
      have e3 : (k == 3) = false := by simpa using hk3
      have hv : numV op k n n = wholeV op n n := by
        have f1 : ¬ op = 14 := by simpa using e1
        have f2 : ¬ op = 15 := by simpa using e2
        simp [numV, f1, f2, hk3]
      generalize wholeV op n n = r at *
      obtain ⟨r1, r2⟩ := r
      have H := Lib.hid h
      have HV := Lib.hid hv
      clear h hv ho hk3 hi hi'
      go_wp2_with fail
      refine (H.out _).mono ?_
      rintro e w1 ⟨rfl, rfl⟩
      go_wp2
      go_ret2
      exact ⟨by rw [HV.out]; rfl, bl⟩

set_option maxHeartbeats 4000000 in
theorem compute_2 (op : Int) (b off cap : Nat) (k n : Int) (s : ByteArray) (k' n' : Int) (s' : ByteArray) (w : World) (hb : b < w.heap.size) (h0 : Opd w b off k n s) (h1 : Opd w b (off + 3) k' n' s') (hi : InI n) (hi' : InI n')
    (hc : op = 14 ∨ op = 15 ∨ (k = 3 ∧ OpsR op) ∨ (k ≠ 3 ∧ OpsI op)) :
    Calls Try.prog 21 #[.int .i64 op, .slice (some ⟨b, off, none⟩) 2 cap] w fun e w' => e = .returned (.tuple #[.int .i64 (numV op k n n').1, .int .i64 (numV op k n n').2]) ∧ Below w.heap.size w w' := by
  have hk := Lib.hid (fun w' (hw : Below w.heap.size w w') => opd_below hb h0 h1 hw)
  have hs := opd_below hb h0 h1 (Below.refl _ _)
  have wr : IntKind.i64.wrap 1 = 1 := by decide
  clear h0 h1
  go_enter Try.func21, Try.ntmps21
  go_upto_region 1 with fail
  go_cut [6, 7] (fun p q wx => ∃ g g' : Nat, p = .pointer (some ⟨g, 0, none⟩) ∧ q = .pointer (some ⟨g', 0, none⟩) ∧ Rg w.heap.size w wx (Vc g k n s ++ Vc g' k' n' s'))
  case first =>
    go_region_held3 (fun w' => Below w.heap.size w w' ∧ w'.cell? ⟨b, off, none⟩ = some (.int .i64 k) ∧ w'.cell? ⟨b, off + 1, none⟩ = some (.int .i64 n) ∧ w'.cell? ⟨b, off + 2, none⟩ = some (.string s) ∧
      w'.cell? ⟨b, off + 3, none⟩ = some (.int .i64 k') ∧ w'.cell? ⟨b, off + 3 + 1, none⟩ = some (.int .i64 n') ∧ w'.cell? ⟨b, off + 3 + 2, none⟩ = some (.string s'))
      (first
        | (go_split_ands; exact hk.out _ (by assumption))
        | (exact hk.out _ (zero_b _))
        | (exact hk.out _ (one_b _ _))
        | (exact hk.out _ (two_b _ _ _)))
      (fail)
    all_goals
      go_wp2_with fail
      go_meet
      first
        | exact ⟨_, _, rfl, rfl, rg_ab k n s k' n' s' w⟩
        | exact ⟨_, _, rfl, rfl, rg_ba k n s k' n' s' w⟩
  case rest =>
    obtain ⟨g, g', rfl, rfl, hr⟩ := hcut
    have c0 := hr.kp.hd.1
    have c1 := hr.kp.tl.hd.1
    have c2 := hr.kp.tl.tl.hd.1
    have d0 := hr.kp.tl.tl.tl.hd.1
    have d1 := hr.kp.tl.tl.tl.tl.hd.1
    have d2 := hr.kp.tl.tl.tl.tl.tl.hd.1
    have bl := hr.bel
    have bs := hr.2.1
    clear hs wr hk hr
    rcases hc with rfl | rfl | ⟨rfl, ho⟩ | ⟨hk3, ho⟩
    · have h := toint2_any k n s
      have hv : numV 14 k n n' = tiV k n := by simp [numV]
      unfold Vv at h
      generalize tiV k n = r at *
      obtain ⟨r1, r2⟩ := r
      have H := Lib.hid h
      have HV := Lib.hid hv
      clear h hv
      go_wp2_with fail
      refine (H.out _).mono ?_
      rintro e w1 ⟨rfl, hb1⟩
      go_wp2
      go_ret2
      exact ⟨by rw [HV.out]; rfl, bl.trans (hb1.mono bs)⟩
    · have h := toreal_any k n s
      have hv : numV 15 k n n' = (trV k n, 0) := by simp [numV]
      unfold Vv at h
      generalize trV k n = r at *
      have H := Lib.hid h
      have HV := Lib.hid hv
      clear h hv
      go_wp2_with fail
      refine (H.out _).mono ?_
      rintro e w1 ⟨rfl, hb1⟩
      go_wp2
      go_ret2
      exact ⟨by rw [HV.out]; rfl, bl.trans (hb1.mono bs)⟩
    · have h := point_any op n n' ho
      have e1 : (op == 14) = false := by unfold OpsR at ho; simp; omega
      have e2 : (op == 15) = false := by unfold OpsR at ho; simp; omega
      have hv : numV op 3 n n' = (pointV op n n', 0) := by
        have f1 : ¬ op = 14 := by simpa using e1
        have f2 : ¬ op = 15 := by simpa using e2
        simp [numV, f1, f2]
      generalize pointV op n n' = r at *
      have H := Lib.hid h
      have HV := Lib.hid hv
      clear h hv ho
      go_wp2_with fail
      refine (H.out _).mono ?_
      rintro e w1 ⟨rfl, n1, rfl⟩
      go_wp2
      go_ret2
      exact ⟨by rw [HV.out]; rfl, bl.trans ⟨rfl, rfl, rfl, Nat.le_refl _, fun _ _ => rfl⟩⟩
    · have h := whole_any op n n' ho hi hi'
      have e1 : (op == 14) = false := by unfold OpsI at ho; simp; omega
      have e2 : (op == 15) = false := by unfold OpsI at ho; simp; omega
      have e3 : (k == 3) = false := by simpa using hk3
      have hv : numV op k n n' = wholeV op n n' := by
        have f1 : ¬ op = 14 := by simpa using e1
        have f2 : ¬ op = 15 := by simpa using e2
        simp [numV, f1, f2, hk3]
      generalize wholeV op n n' = r at *
      obtain ⟨r1, r2⟩ := r
      have H := Lib.hid h
      have HV := Lib.hid hv
      clear h hv ho hk3 hi hi'
      go_wp2_with fail
      refine (H.out _).mono ?_
      rintro e w1 ⟨rfl, rfl⟩
      go_wp2
      go_ret2
      exact ⟨by rw [HV.out]; rfl, bl⟩

end Go.Proofs.Ytceingfjdkpolaa
