/-
  Contracts over the translation: verdicts turned about and put together by the document's answer, by its tables.
  Conditions: none.
-/
import Derived.Test.YtoghiebgffkhcabLog4
namespace Go.Proofs.Ytoghiebgffkhcab
open Go.RowKit Go.Joins Go.ChangeShapes Go.WideShapes
set_option linter.unusedVariables false

theorem told_lt (m : Nat) (hm : (m : Int) < 3) (t e t' e' : Int) (w : World) :
    Calls Try.prog 20 #[.int .i64 (m : Int), Dv t e, Dv t' e'] w fun x w' => x = .returned (Dv m 0) ∧ Below w.heap.size w w' := by
  unfold Dv
  go_enter Try.func20, Try.ntmps20
  go_wp2
  exact bodyPost_ret (v := .agg #[.int .i64 m, .int .i64 0]) (by simp [results, Try.results20, go_sem]) rfl ⟨rfl, (two_below _ _ _).alloc (by simp; omega) _⟩

theorem told_3 (t e t' e' : Int) (w : World) :
    Calls Try.prog 20 #[.int .i64 3, Dv t e, Dv t' e'] w fun x w' => x = .returned (Dv 0 (W2 e e')) ∧ Below w.heap.size w w' := by
  have HW := Lib.hid (refworse_any e e')
  unfold Dv
  go_enter Try.func20, Try.ntmps20
  go_wp2_with (go_at_call 15; refine (HW.out _).mono ?_; rintro x w' ⟨rfl, rfl⟩)
  exact bodyPost_ret (v := .agg #[.int .i64 0, .int .i64 (W2 e e')]) (by simp [results, Try.results20, go_sem]) rfl ⟨rfl, (two_below _ _ _).alloc (by simp; omega) _⟩

def tabN (k : Nat) : Int := if k = 0 then 1 else if k = 1 then 0 else if k = 2 then 2 else 0
theorem tabN_eq (t e : Int) : tabN (mk t e) = nT t e := by
  rcases kinds t e with ⟨rfl, rfl⟩ | ⟨rfl, rfl⟩ | ⟨⟨h1, h2, h3, h4⟩, rfl⟩ | ⟨h1, h2⟩
  · rfl
  · rfl
  · rw [mk_u h1 h2, nT_u h1 h2]; rfl
  · rw [mk_e h1, nT_e h1]; rfl

def tabA (i j : Nat) : Nat := if i = 0 ∨ j = 0 then 0 else if i = 3 ∨ j = 3 then 3 else if i = 2 ∨ j = 2 then 2 else 1
def tabO (i j : Nat) : Nat := if i = 1 ∨ j = 1 then 1 else if i = 3 ∨ j = 3 then 3 else if i = 2 ∨ j = 2 then 2 else 0

theorem tabA_eq (t e t' e' : Int) : (tabA (mk t e) (mk t' e') < 3 ∧ ((tabA (mk t e) (mk t' e') : Nat) : Int) = aT t e t' e' ∧ 0 = aE t e t' e') ∨ (tabA (mk t e) (mk t' e') = 3 ∧ 0 = aT t e t' e' ∧ W2 e e' = aE t e t' e') := by
  rcases kinds t e with ⟨rfl, rfl⟩ | ⟨rfl, rfl⟩ | ⟨⟨h1, h2, h3, h4⟩, rfl⟩ | ⟨h1, h2⟩ <;> rcases kinds t' e' with ⟨rfl, rfl⟩ | ⟨rfl, rfl⟩ | ⟨⟨h1', h2', h3', h4'⟩, rfl⟩ | ⟨h1', h2'⟩ <;>
    simp_all [mk, tabA, aT, aE, w2_zl, w2_zr]
theorem tabO_eq (t e t' e' : Int) : (tabO (mk t e) (mk t' e') < 3 ∧ ((tabO (mk t e) (mk t' e') : Nat) : Int) = oT t e t' e' ∧ 0 = oE t e t' e') ∨ (tabO (mk t e) (mk t' e') = 3 ∧ 0 = oT t e t' e' ∧ W2 e e' = oE t e t' e') := by
  rcases kinds t e with ⟨rfl, rfl⟩ | ⟨rfl, rfl⟩ | ⟨⟨h1, h2, h3, h4⟩, rfl⟩ | ⟨h1, h2⟩ <;> rcases kinds t' e' with ⟨rfl, rfl⟩ | ⟨rfl, rfl⟩ | ⟨⟨h1', h2', h3', h4'⟩, rfl⟩ | ⟨h1', h2'⟩ <;>
    simp_all [mk, tabO, oT, oE, w2_zl, w2_zr]

abbrev TN : Obj := .cells #[.int .i64 1, .int .i64 0, .int .i64 2, .int .i64 0] 40
theorem og_not (t e : Int) (k : Nat) (hk : k < 4) (w : World) : Og w.heap.size (w.heap.size + 1) 2 w (((w.alloc (Bx t e)).alloc (Bx 0 0)).alloc TN) [Cl w.heap.size 0 t, Cl w.heap.size 1 e, Cl (w.heap.size + 2) k (tabN k)] := by
  refine ⟨⟨((two_below _ _ _).alloc (by simp; omega) _), by simp; omega, ?_⟩, by omega, by simp, by simp, fun o ho => ?_⟩
  · unfold Kp
    simp only [List.forall_mem_cons, List.not_mem_nil, false_implies, implies_true, and_true]
    match k, hk with
    | 0, _ => go_simp; exact rfl
    | 1, _ => go_simp; exact rfl
    | 2, _ => go_simp; exact rfl
    | 3, _ => go_simp; exact rfl
  · match o, ho with
    | 0, _ => exact ⟨⟨.int .i64 0, by go_simp⟩, by go_simp⟩
    | 1, _ => exact ⟨⟨.int .i64 0, by go_simp⟩, by go_simp⟩

def NotS (B g h k : Nat) (t e : Int) (w w0 : World) : Prop := Og B g 2 w w0 [Cl h 0 t, Cl h 1 e, Cl (h + 2) k (tabN k)]
theorem not_all {B g h k : Nat} {w w0 : World} {t e : Int} (x : NotS B g h k t e w w0) :
    NotS B g h k t e w w0 ∧ w0.cell? ⟨h, 0, none⟩ = some (.int .i64 t) ∧ w0.cell? ⟨h, 1, none⟩ = some (.int .i64 e) ∧ w0.cell? ⟨h + 2, k, none⟩ = some (.int .i64 (tabN k)) ∧
    w0.cell? ⟨g, 0, none⟩ = some (cval w0 ⟨g, 0, none⟩) ∧ w0.cell? ⟨g, 1, none⟩ = some (cval w0 ⟨g, 1, none⟩) ∧ w0.frozen? ⟨g, 0, none⟩ = false ∧ w0.frozen? ⟨g, 1, none⟩ = false :=
  ⟨x, x.kp.hd.1, x.kp.tl.hd.1, x.kp.tl.tl.hd.1, (x.own 0 (by decide)).1, (x.own 1 (by decide)).1, (x.own 0 (by decide)).2, (x.own 1 (by decide)).2⟩

set_option maxHeartbeats 2000000 in
theorem refnot_any (t e : Int) (w : World) :
    Calls Try.prog 13 #[Dv t e] w fun x w' => x = .returned (Dv (nT t e) e) ∧ Below w.heap.size w w' := by
  have HT := Lib.hid (tabN_eq t e)
  have hm := mark_any t e
  have h4 := mk_lt t e
  unfold Dv at *
  generalize mk t e = k at *
  have HM := Lib.hid hm
  have i0 : (0 : Int) ≤ (k : Int) := by omega
  have i1 : (k : Int) < 4 := by omega
  have ob := og_not t e k h4 w
  clear hm h4
  go_enter Try.func13, Try.ntmps13
  go_upto_region 2 with fail
  generalize ((w.alloc (Bx t e)).alloc (Bx 0 0)).alloc TN = wb at *
  have hs := not_all ob
  clear ob
  go_region_held3 (fun w0 => NotS w.heap.size (w.heap.size + 1) w.heap.size k t e w w0 ∧ w0.cell? ⟨w.heap.size, 0, none⟩ = some (.int .i64 t) ∧ w0.cell? ⟨w.heap.size, 1, none⟩ = some (.int .i64 e) ∧ w0.cell? ⟨w.heap.size + 2, k, none⟩ = some (.int .i64 (tabN k)) ∧
    w0.cell? ⟨w.heap.size + 1, 0, none⟩ = some (cval w0 ⟨w.heap.size + 1, 0, none⟩) ∧ w0.cell? ⟨w.heap.size + 1, 1, none⟩ = some (cval w0 ⟨w.heap.size + 1, 1, none⟩) ∧ w0.frozen? ⟨w.heap.size + 1, 0, none⟩ = false ∧ w0.frozen? ⟨w.heap.size + 1, 1, none⟩ = false)
    (first | (go_split_ands; exact not_all (by assumption)) | (go_split_ands; exact not_all (Og.drew (by assumption))) | (go_split_ands; exact not_all (Og.step (by assumption) hb)) | (go_split_ands; exact not_all (Og.set (Og.set (by assumption) _ _) _ _)))
    (first | (go_at_call 21; refine (HM.out _).mono ?_; rintro x w1 ⟨rfl, hb⟩; have og : NotS _ _ _ _ _ _ _ _ := Og.step (And.left (by assumption)) hb))
  all_goals
    have c0 := (og.own 0 (by decide)).1
    have c1 := (og.own 1 (by decide)).1
    have bl := ((og.set 0 (.int .i64 (tabN k))).set 1 (.int .i64 e)).bel
    go_wp2_with fail
    exact bodyPost_ret (v := .agg #[.int .i64 (tabN k), .int .i64 e]) (by simp [results, Try.results13, go_sem, c0, c1]) rfl ⟨ret_d HT.out rfl, bl⟩

abbrev TAnd : Obj := .cells #[.int .i64 0, .int .i64 0, .int .i64 0, .int .i64 0, .int .i64 0, .int .i64 1, .int .i64 2, .int .i64 3, .int .i64 0, .int .i64 2, .int .i64 2, .int .i64 3, .int .i64 0, .int .i64 3, .int .i64 3, .int .i64 3] 41
theorem og_And (t e t' e' : Int) (i j : Nat) (hi : i < 4) (hj : j < 4) (w : World) : Og w.heap.size (w.heap.size + 2) 2 w ((((w.alloc (Bx t e)).alloc (Bx t' e')).alloc (Bx 0 0)).alloc TAnd)
    [Cl w.heap.size 0 t, Cl w.heap.size 1 e, Cl (w.heap.size + 1) 0 t', Cl (w.heap.size + 1) 1 e', Cl (w.heap.size + 3) (i * 4 + j) (tabA i j : Nat)] := by
  refine ⟨⟨(((two_below _ _ _).alloc (by simp; omega) _).alloc (by simp; omega) _), by simp; omega, ?_⟩, by omega, by simp, by simp, fun o ho => ?_⟩
  · unfold Kp
    simp only [List.forall_mem_cons, List.not_mem_nil, false_implies, implies_true, and_true]
    refine ⟨by go_simp, by go_simp, by go_simp, by go_simp, ?_⟩
    match i, hi, j, hj with
    | 0, _, 0, _ => go_simp; exact rfl
    | 0, _, 1, _ => go_simp; exact rfl
    | 0, _, 2, _ => go_simp; exact rfl
    | 0, _, 3, _ => go_simp; exact rfl
    | 1, _, 0, _ => go_simp; exact rfl
    | 1, _, 1, _ => go_simp; exact rfl
    | 1, _, 2, _ => go_simp; exact rfl
    | 1, _, 3, _ => go_simp; exact rfl
    | 2, _, 0, _ => go_simp; exact rfl
    | 2, _, 1, _ => go_simp; exact rfl
    | 2, _, 2, _ => go_simp; exact rfl
    | 2, _, 3, _ => go_simp; exact rfl
    | 3, _, 0, _ => go_simp; exact rfl
    | 3, _, 1, _ => go_simp; exact rfl
    | 3, _, 2, _ => go_simp; exact rfl
    | 3, _, 3, _ => go_simp; exact rfl
  · match o, ho with
    | 0, _ => exact ⟨⟨.int .i64 0, by go_simp⟩, by go_simp⟩
    | 1, _ => exact ⟨⟨.int .i64 0, by go_simp⟩, by go_simp⟩

def AndS (B g h i j m : Nat) (t e t' e' : Int) (w w0 : World) : Prop := Og B g 2 w w0 [Cl h 0 t, Cl h 1 e, Cl (h + 1) 0 t', Cl (h + 1) 1 e', Cl (h + 3) (i * 4 + j) (m : Nat)]
theorem And_all {B g h i j m : Nat} {w w0 : World} {t e t' e' : Int} (x : AndS B g h i j m t e t' e' w w0) :
    AndS B g h i j m t e t' e' w w0 ∧ w0.cell? ⟨h, 0, none⟩ = some (.int .i64 t) ∧ w0.cell? ⟨h, 1, none⟩ = some (.int .i64 e) ∧ w0.cell? ⟨h + 1, 0, none⟩ = some (.int .i64 t') ∧ w0.cell? ⟨h + 1, 1, none⟩ = some (.int .i64 e') ∧
    w0.cell? ⟨h + 3, i * 4 + j, none⟩ = some (.int .i64 (m : Nat)) ∧
    w0.cell? ⟨g, 0, none⟩ = some (cval w0 ⟨g, 0, none⟩) ∧ w0.cell? ⟨g, 1, none⟩ = some (cval w0 ⟨g, 1, none⟩) ∧ w0.frozen? ⟨g, 0, none⟩ = false ∧ w0.frozen? ⟨g, 1, none⟩ = false :=
  ⟨x, x.kp.hd.1, x.kp.tl.hd.1, x.kp.tl.tl.hd.1, x.kp.tl.tl.tl.hd.1, x.kp.tl.tl.tl.tl.hd.1, (x.own 0 (by decide)).1, (x.own 1 (by decide)).1, (x.own 0 (by decide)).2, (x.own 1 (by decide)).2⟩

set_option maxHeartbeats 2000000 in
theorem refand_core (t e t' e' R E : Int) (i j : Nat) (hi : i < 4) (hj : j < 4)
    (h1 : ∀ w, Calls Try.prog 21 #[Dv t e] w fun x w' => x = .returned (.int .i64 (i : Nat)) ∧ Below w.heap.size w w')
    (h2 : ∀ w, Calls Try.prog 21 #[Dv t' e'] w fun x w' => x = .returned (.int .i64 (j : Nat)) ∧ Below w.heap.size w w')
    (h3 : ∀ w, Calls Try.prog 20 #[.int .i64 (tabA i j : Nat), Dv t e, Dv t' e'] w fun x w' => x = .returned (Dv R E) ∧ Below w.heap.size w w') (w : World) :
    Calls Try.prog 9 #[Dv t e, Dv t' e'] w fun x w' => x = .returned (Dv R E) ∧ Below w.heap.size w w' := by
  unfold Dv at *
  have ob := og_And t e t' e' i j hi hj w
  generalize tabA i j = m at *
  have H1 := Lib.hid h1
  have H2 := Lib.hid h2
  have H3 := Lib.hid h3
  have i0 : (0 : Int) ≤ (i : Int) := by omega
  have i1 : (i : Int) < 4 := by omega
  have j0 : (0 : Int) ≤ (j : Int) := by omega
  have j1 : (j : Int) < 4 := by omega
  clear h1 h2 h3 hi hj
  go_enter Try.func9, Try.ntmps9
  go_upto_region 2 with fail
  generalize (((w.alloc (Bx t e)).alloc (Bx t' e')).alloc (Bx 0 0)).alloc TAnd = wb at *
  have hs := And_all ob
  clear ob
  go_region_held3 (fun w0 => AndS w.heap.size (w.heap.size + 2) w.heap.size i j m t e t' e' w w0 ∧ w0.cell? ⟨w.heap.size, 0, none⟩ = some (.int .i64 t) ∧ w0.cell? ⟨w.heap.size, 1, none⟩ = some (.int .i64 e) ∧ w0.cell? ⟨w.heap.size + 1, 0, none⟩ = some (.int .i64 t') ∧ w0.cell? ⟨w.heap.size + 1, 1, none⟩ = some (.int .i64 e') ∧
    w0.cell? ⟨w.heap.size + 3, i * 4 + j, none⟩ = some (.int .i64 (m : Nat)) ∧
    w0.cell? ⟨w.heap.size + 2, 0, none⟩ = some (cval w0 ⟨w.heap.size + 2, 0, none⟩) ∧ w0.cell? ⟨w.heap.size + 2, 1, none⟩ = some (cval w0 ⟨w.heap.size + 2, 1, none⟩) ∧ w0.frozen? ⟨w.heap.size + 2, 0, none⟩ = false ∧ w0.frozen? ⟨w.heap.size + 2, 1, none⟩ = false)
    (first | (go_split_ands; exact And_all (by assumption)) | (go_split_ands; exact And_all (Og.drew (by assumption))) | (go_split_ands; exact And_all (Og.step (by assumption) hb)) | (go_split_ands; exact And_all (Og.set (Og.set (by assumption) _ _) _ _)))
    (first
      | (go_at_call_of 21 t; refine (H1.out _).mono ?_; rintro x w1 ⟨rfl, hb⟩; have og : AndS _ _ _ _ _ _ _ _ _ _ _ _ := Og.step (And.left (by assumption)) hb)
      | (go_at_call_of 21 t'; refine (H2.out _).mono ?_; rintro x w1 ⟨rfl, hb⟩; have og : AndS _ _ _ _ _ _ _ _ _ _ _ _ := Og.step (And.left (by assumption)) hb)
      | (go_at_call 20; refine (H3.out _).mono ?_; rintro x w1 ⟨rfl, hb⟩; have og : AndS _ _ _ _ _ _ _ _ _ _ _ _ := Og.step (And.left (by assumption)) hb))
  all_goals
    have c0 := (og.own 0 (by decide)).1
    have c1 := (og.own 1 (by decide)).1
    have bl := ((og.set 0 (.int .i64 R)).set 1 (.int .i64 E)).bel
    go_wp2_with fail
    exact bodyPost_ret (v := .agg #[.int .i64 R, .int .i64 E]) (by simp [results, Try.results9, go_sem, c0, c1]) rfl ⟨rfl, bl⟩

theorem refand_any (t e t' e' : Int) (w : World) :
    Calls Try.prog 9 #[Dv t e, Dv t' e'] w fun x w' => x = .returned (Dv (aT t e t' e') (aE t e t' e')) ∧ Below w.heap.size w w' := by
  rcases tabA_eq t e t' e' with ⟨a, b, c⟩ | ⟨a, b, c⟩
  · rw [← b, ← c]
    exact refand_core t e t' e' _ _ _ _ (mk_lt t e) (mk_lt t' e') (mark_any t e) (mark_any t' e') (told_lt _ (by omega) t e t' e') w
  · rw [← b, ← c]
    exact refand_core t e t' e' _ _ _ _ (mk_lt t e) (mk_lt t' e') (mark_any t e) (mark_any t' e') (by rw [a]; exact told_3 t e t' e') w

abbrev TOr : Obj := .cells #[.int .i64 0, .int .i64 1, .int .i64 2, .int .i64 3, .int .i64 1, .int .i64 1, .int .i64 1, .int .i64 1, .int .i64 2, .int .i64 1, .int .i64 2, .int .i64 3, .int .i64 3, .int .i64 1, .int .i64 3, .int .i64 3] 41
theorem og_Or (t e t' e' : Int) (i j : Nat) (hi : i < 4) (hj : j < 4) (w : World) : Og w.heap.size (w.heap.size + 2) 2 w ((((w.alloc (Bx t e)).alloc (Bx t' e')).alloc (Bx 0 0)).alloc TOr)
    [Cl w.heap.size 0 t, Cl w.heap.size 1 e, Cl (w.heap.size + 1) 0 t', Cl (w.heap.size + 1) 1 e', Cl (w.heap.size + 3) (i * 4 + j) (tabO i j : Nat)] := by
  refine ⟨⟨(((two_below _ _ _).alloc (by simp; omega) _).alloc (by simp; omega) _), by simp; omega, ?_⟩, by omega, by simp, by simp, fun o ho => ?_⟩
  · unfold Kp
    simp only [List.forall_mem_cons, List.not_mem_nil, false_implies, implies_true, and_true]
    refine ⟨by go_simp, by go_simp, by go_simp, by go_simp, ?_⟩
    match i, hi, j, hj with
    | 0, _, 0, _ => go_simp; exact rfl
    | 0, _, 1, _ => go_simp; exact rfl
    | 0, _, 2, _ => go_simp; exact rfl
    | 0, _, 3, _ => go_simp; exact rfl
    | 1, _, 0, _ => go_simp; exact rfl
    | 1, _, 1, _ => go_simp; exact rfl
    | 1, _, 2, _ => go_simp; exact rfl
    | 1, _, 3, _ => go_simp; exact rfl
    | 2, _, 0, _ => go_simp; exact rfl
    | 2, _, 1, _ => go_simp; exact rfl
    | 2, _, 2, _ => go_simp; exact rfl
    | 2, _, 3, _ => go_simp; exact rfl
    | 3, _, 0, _ => go_simp; exact rfl
    | 3, _, 1, _ => go_simp; exact rfl
    | 3, _, 2, _ => go_simp; exact rfl
    | 3, _, 3, _ => go_simp; exact rfl
  · match o, ho with
    | 0, _ => exact ⟨⟨.int .i64 0, by go_simp⟩, by go_simp⟩
    | 1, _ => exact ⟨⟨.int .i64 0, by go_simp⟩, by go_simp⟩

def OrS (B g h i j m : Nat) (t e t' e' : Int) (w w0 : World) : Prop := Og B g 2 w w0 [Cl h 0 t, Cl h 1 e, Cl (h + 1) 0 t', Cl (h + 1) 1 e', Cl (h + 3) (i * 4 + j) (m : Nat)]
theorem Or_all {B g h i j m : Nat} {w w0 : World} {t e t' e' : Int} (x : OrS B g h i j m t e t' e' w w0) :
    OrS B g h i j m t e t' e' w w0 ∧ w0.cell? ⟨h, 0, none⟩ = some (.int .i64 t) ∧ w0.cell? ⟨h, 1, none⟩ = some (.int .i64 e) ∧ w0.cell? ⟨h + 1, 0, none⟩ = some (.int .i64 t') ∧ w0.cell? ⟨h + 1, 1, none⟩ = some (.int .i64 e') ∧
    w0.cell? ⟨h + 3, i * 4 + j, none⟩ = some (.int .i64 (m : Nat)) ∧
    w0.cell? ⟨g, 0, none⟩ = some (cval w0 ⟨g, 0, none⟩) ∧ w0.cell? ⟨g, 1, none⟩ = some (cval w0 ⟨g, 1, none⟩) ∧ w0.frozen? ⟨g, 0, none⟩ = false ∧ w0.frozen? ⟨g, 1, none⟩ = false :=
  ⟨x, x.kp.hd.1, x.kp.tl.hd.1, x.kp.tl.tl.hd.1, x.kp.tl.tl.tl.hd.1, x.kp.tl.tl.tl.tl.hd.1, (x.own 0 (by decide)).1, (x.own 1 (by decide)).1, (x.own 0 (by decide)).2, (x.own 1 (by decide)).2⟩

set_option maxHeartbeats 2000000 in
theorem refor_core (t e t' e' R E : Int) (i j : Nat) (hi : i < 4) (hj : j < 4)
    (h1 : ∀ w, Calls Try.prog 21 #[Dv t e] w fun x w' => x = .returned (.int .i64 (i : Nat)) ∧ Below w.heap.size w w')
    (h2 : ∀ w, Calls Try.prog 21 #[Dv t' e'] w fun x w' => x = .returned (.int .i64 (j : Nat)) ∧ Below w.heap.size w w')
    (h3 : ∀ w, Calls Try.prog 20 #[.int .i64 (tabO i j : Nat), Dv t e, Dv t' e'] w fun x w' => x = .returned (Dv R E) ∧ Below w.heap.size w w') (w : World) :
    Calls Try.prog 11 #[Dv t e, Dv t' e'] w fun x w' => x = .returned (Dv R E) ∧ Below w.heap.size w w' := by
  unfold Dv at *
  have ob := og_Or t e t' e' i j hi hj w
  generalize tabO i j = m at *
  have H1 := Lib.hid h1
  have H2 := Lib.hid h2
  have H3 := Lib.hid h3
  have i0 : (0 : Int) ≤ (i : Int) := by omega
  have i1 : (i : Int) < 4 := by omega
  have j0 : (0 : Int) ≤ (j : Int) := by omega
  have j1 : (j : Int) < 4 := by omega
  clear h1 h2 h3 hi hj
  go_enter Try.func11, Try.ntmps11
  go_upto_region 2 with fail
  generalize (((w.alloc (Bx t e)).alloc (Bx t' e')).alloc (Bx 0 0)).alloc TOr = wb at *
  have hs := Or_all ob
  clear ob
  go_region_held3 (fun w0 => OrS w.heap.size (w.heap.size + 2) w.heap.size i j m t e t' e' w w0 ∧ w0.cell? ⟨w.heap.size, 0, none⟩ = some (.int .i64 t) ∧ w0.cell? ⟨w.heap.size, 1, none⟩ = some (.int .i64 e) ∧ w0.cell? ⟨w.heap.size + 1, 0, none⟩ = some (.int .i64 t') ∧ w0.cell? ⟨w.heap.size + 1, 1, none⟩ = some (.int .i64 e') ∧
    w0.cell? ⟨w.heap.size + 3, i * 4 + j, none⟩ = some (.int .i64 (m : Nat)) ∧
    w0.cell? ⟨w.heap.size + 2, 0, none⟩ = some (cval w0 ⟨w.heap.size + 2, 0, none⟩) ∧ w0.cell? ⟨w.heap.size + 2, 1, none⟩ = some (cval w0 ⟨w.heap.size + 2, 1, none⟩) ∧ w0.frozen? ⟨w.heap.size + 2, 0, none⟩ = false ∧ w0.frozen? ⟨w.heap.size + 2, 1, none⟩ = false)
    (first | (go_split_ands; exact Or_all (by assumption)) | (go_split_ands; exact Or_all (Og.drew (by assumption))) | (go_split_ands; exact Or_all (Og.step (by assumption) hb)) | (go_split_ands; exact Or_all (Og.set (Og.set (by assumption) _ _) _ _)))
    (first
      | (go_at_call_of 21 t; refine (H1.out _).mono ?_; rintro x w1 ⟨rfl, hb⟩; have og : OrS _ _ _ _ _ _ _ _ _ _ _ _ := Og.step (And.left (by assumption)) hb)
      | (go_at_call_of 21 t'; refine (H2.out _).mono ?_; rintro x w1 ⟨rfl, hb⟩; have og : OrS _ _ _ _ _ _ _ _ _ _ _ _ := Og.step (And.left (by assumption)) hb)
      | (go_at_call 20; refine (H3.out _).mono ?_; rintro x w1 ⟨rfl, hb⟩; have og : OrS _ _ _ _ _ _ _ _ _ _ _ _ := Og.step (And.left (by assumption)) hb))
  all_goals
    have c0 := (og.own 0 (by decide)).1
    have c1 := (og.own 1 (by decide)).1
    have bl := ((og.set 0 (.int .i64 R)).set 1 (.int .i64 E)).bel
    go_wp2_with fail
    exact bodyPost_ret (v := .agg #[.int .i64 R, .int .i64 E]) (by simp [results, Try.results11, go_sem, c0, c1]) rfl ⟨rfl, bl⟩

theorem refor_any (t e t' e' : Int) (w : World) :
    Calls Try.prog 11 #[Dv t e, Dv t' e'] w fun x w' => x = .returned (Dv (oT t e t' e') (oE t e t' e')) ∧ Below w.heap.size w w' := by
  rcases tabO_eq t e t' e' with ⟨a, b, c⟩ | ⟨a, b, c⟩
  · rw [← b, ← c]
    exact refor_core t e t' e' _ _ _ _ (mk_lt t e) (mk_lt t' e') (mark_any t e) (mark_any t' e') (told_lt _ (by omega) t e t' e') w
  · rw [← b, ← c]
    exact refor_core t e t' e' _ _ _ _ (mk_lt t e) (mk_lt t' e') (mark_any t e) (mark_any t' e') (by rw [a]; exact told_3 t e t' e') w

end Go.Proofs.Ytoghiebgffkhcab
