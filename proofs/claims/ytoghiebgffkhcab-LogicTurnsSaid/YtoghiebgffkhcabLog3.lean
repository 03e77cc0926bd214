/-
  Contracts over the translation: 'and' and 'or' of verdicts, of package logic.
  Conditions: none.
-/
import Derived.Test.YtoghiebgffkhcabLog2
namespace Go.Proofs.Ytoghiebgffkhcab
open Go.RowKit Go.Joins Go.ChangeShapes Go.WideShapes
set_option linter.unusedVariables false

/-- a verdict in its one form -/
def Nrm (p e : Int) : Prop := (p = 0 ∧ e = 0) ∨ (p = 1 ∧ e = 0) ∨ (p = 2 ∧ e = 0) ∨ (p = 0 ∧ (e == 0) = false ∧ (e != 0) = true)

theorem nrm_pT (t e : Int) : Nrm (pT t e) e := by
  rcases kinds t e with ⟨rfl, rfl⟩ | ⟨rfl, rfl⟩ | ⟨⟨h1, h2, h3, h4⟩, rfl⟩ | ⟨h1, h2⟩
  · exact .inl ⟨rfl, rfl⟩
  · exact .inr (.inl ⟨rfl, rfl⟩)
  · exact .inr (.inr (.inl ⟨pT_u h1 h2, rfl⟩))
  · exact .inr (.inr (.inr ⟨pT_e h1, h1, h2⟩))

theorem aT_pT (t e t' e' : Int) : aT (pT t e) e (pT t' e') e' = aT t e t' e' ∧ aE (pT t e) e (pT t' e') e' = aE t e t' e' := by
  rcases kinds t e with ⟨rfl, rfl⟩ | ⟨rfl, rfl⟩ | ⟨⟨h1, h2, h3, h4⟩, rfl⟩ | ⟨h1, h2⟩ <;> rcases kinds t' e' with ⟨rfl, rfl⟩ | ⟨rfl, rfl⟩ | ⟨⟨h1', h2', h3', h4'⟩, rfl⟩ | ⟨h1', h2'⟩ <;>
    simp_all [pT, aT, aE]

/-- a block of two integers -/
abbrev Bx (a b : Int) : Obj := .cells #[.int .i64 a, .int .i64 b] 24
abbrev Cl (b o : Nat) (n : Int) : Nat × Nat × Value := (b, o, .int .i64 n)

theorem five_below (w : World) (a b c d e : Obj) : Below w.heap.size w (((((w.alloc a).alloc b).alloc c).alloc d).alloc e) :=
  (((((Below.refl _ _).alloc (Nat.le_refl _) _).alloc (by simp) _).alloc (by simp; omega) _).alloc (by simp; omega) _).alloc (by simp; omega) _

def AndCells (h : Nat) (t e t' e' : Int) : List (Nat × Nat × Value) := [Cl h 0 t, Cl h 1 e, Cl (h + 1) 0 t', Cl (h + 1) 1 e', Cl (h + 2) 0 0, Cl (h + 2) 1 0, Cl (h + 3) 0 0, Cl (h + 3) 1 0, Cl (h + 4) 0 2, Cl (h + 4) 1 0]

theorem kp_and (t e t' e' : Int) (w : World) : Rg w.heap.size w (((((w.alloc (Bx t e)).alloc (Bx t' e')).alloc (Bx 0 0)).alloc (Bx 0 0)).alloc (Bx 2 0)) (AndCells w.heap.size t e t' e') := by
  refine ⟨five_below _ _ _ _ _ _, by simp; omega, ?_⟩
  unfold Kp AndCells
  simp only [List.forall_mem_cons, List.not_mem_nil, false_implies, implies_true, and_true]
  go_simp

theorem and_set {B h : Nat} {w w1 : World} {t e t' e' : Int} (p q p' q' : Int) (r : Rg B w w1 (AndCells h t e t' e')) (hB : B ≤ h) :
    Rg B w ((((w1.setCell ⟨h, 0, none⟩ (.int .i64 p)).setCell ⟨h, 1, none⟩ (.int .i64 q)).setCell ⟨h + 1, 0, none⟩ (.int .i64 p')).setCell ⟨h + 1, 1, none⟩ (.int .i64 q')) (AndCells h p q p' q') := by
  unfold AndCells at *
  have r1 := r.set (u := .int .i64 p) hB (by simp)
  have r2 := (r1.turn).set (u := .int .i64 q) hB (by simp)
  have r3 := (r2.turn).set (u := .int .i64 p') (by omega) (by simp)
  have r4 := (r3.turn).set (u := .int .i64 q') (by omega) (by simp)
  refine r4.sub fun x hx => ?_
  simp only [List.mem_cons, List.not_mem_nil, or_false] at hx ⊢
  rcases hx with h | h | h | h | h | h | h | h | h | h <;> simp [h]

theorem and_in {h : Nat} {w1 : World} {t e t' e' : Int} (r : Kp w1 (AndCells h t e t' e')) :
    (w1.cell? ⟨h, 0, none⟩ = some (.int .i64 t) ∧ w1.frozen? ⟨h, 0, none⟩ = false) ∧ (w1.cell? ⟨h, 1, none⟩ = some (.int .i64 e) ∧ w1.frozen? ⟨h, 1, none⟩ = false) ∧
    (w1.cell? ⟨h + 1, 0, none⟩ = some (.int .i64 t') ∧ w1.frozen? ⟨h + 1, 0, none⟩ = false) ∧ (w1.cell? ⟨h + 1, 1, none⟩ = some (.int .i64 e') ∧ w1.frozen? ⟨h + 1, 1, none⟩ = false) :=
  ⟨r.hd, r.tl.hd, r.tl.tl.hd, r.tl.tl.tl.hd⟩

theorem and_rest {h : Nat} {w1 : World} {t e t' e' : Int} (r : Kp w1 (AndCells h t e t' e')) :
    ((w1.cell? ⟨h + 2, 0, none⟩ = some (.int .i64 0) ∧ w1.frozen? ⟨h + 2, 0, none⟩ = false) ∧ (w1.cell? ⟨h + 2, 1, none⟩ = some (.int .i64 0) ∧ w1.frozen? ⟨h + 2, 1, none⟩ = false)) ∧
    (w1.cell? ⟨h + 3, 0, none⟩ = some (.int .i64 0) ∧ w1.cell? ⟨h + 3, 1, none⟩ = some (.int .i64 0)) ∧ w1.cell? ⟨h + 4, 0, none⟩ = some (.int .i64 2) ∧ w1.cell? ⟨h + 4, 1, none⟩ = some (.int .i64 0) :=
  ⟨⟨r.tl.tl.tl.tl.hd, r.tl.tl.tl.tl.tl.hd⟩, ⟨r.tl.tl.tl.tl.tl.tl.hd.1, r.tl.tl.tl.tl.tl.tl.tl.hd.1⟩, r.tl.tl.tl.tl.tl.tl.tl.tl.hd.1, r.tl.tl.tl.tl.tl.tl.tl.tl.tl.hd.1⟩

theorem le2 (n : Nat) : n ≤ n + 1 + 1 := by omega
theorem aT_e (e p' e' : Int) (h : (e == 0) = false) (g : ¬ (p' = 0 ∧ e' = 0)) : 0 = aT 0 e p' e' ∧ W2 e e' = aE 0 e p' e' := by
  have h' : ¬ e = 0 := by simpa using h
  have g' : ¬ (((0 : Int) = 0 ∧ e = 0) ∨ (p' = 0 ∧ e' = 0)) := by omega
  unfold aT aE
  rw [if_neg g', if_neg g', if_pos (Or.inl h')]
  exact ⟨rfl, rfl⟩
theorem aT_e' (p e e' : Int) (h : (e' == 0) = false) (g : ¬ (p = 0 ∧ e = 0)) : 0 = aT p e 0 e' ∧ W2 e e' = aE p e 0 e' := by
  have h' : ¬ e' = 0 := by simpa using h
  have g' : ¬ ((p = 0 ∧ e = 0) ∨ ((0 : Int) = 0 ∧ e' = 0)) := by omega
  unfold aT aE
  rw [if_neg g', if_neg g', if_pos (Or.inr h')]
  exact ⟨rfl, rfl⟩
theorem aT_f (p' e' : Int) : 0 = aT 0 0 p' e' ∧ 0 = aE 0 0 p' e' := by unfold aT aE; simp
theorem aT_f' (p e : Int) : 0 = aT p e 0 0 ∧ 0 = aE p e 0 0 := by unfold aT aE; simp
theorem nz {e : Int} (h : (e == 0) = false) (p : Int) : ¬ (p = 0 ∧ e = 0) := by
  have : ¬ e = 0 := by simpa using h
  omega

set_option maxHeartbeats 4000000 in
theorem and_core (t e t' e' p p' : Int) (h1 : ∀ w, Calls Try.prog 19 #[Dv t e] w fun x w' => x = .returned (Dv p e) ∧ Below w.heap.size w w')
    (h2 : ∀ w, Calls Try.prog 19 #[Dv t' e'] w fun x w' => x = .returned (Dv p' e') ∧ Below w.heap.size w w')
    (k1 : Nrm p e) (k2 : Nrm p' e') (w : World) :
    Calls Try.prog 8 #[Dv t e, Dv t' e'] w fun x w' => x = .returned (Dv (aT p e p' e') (aE p e p' e')) ∧ Below w.heap.size w w' := by
  unfold Dv at *
  have H1 := Lib.hid h1
  have H2 := Lib.hid h2
  clear h1 h2
  go_enter Try.func8, Try.ntmps8
  go_upto_region 2 with fail
  go_cut [] (fun wx => Rg w.heap.size w wx (AndCells w.heap.size p e p' e'))
  case first =>
    clear k1 k2
    have rb := kp_and t e t' e' w
    generalize (((((w.alloc (Bx t e)).alloc (Bx t' e')).alloc (Bx 0 0)).alloc (Bx 0 0)).alloc (Bx 2 0)) = wb at *
    have r := rb.drew
    obtain ⟨⟨c1, f1⟩, ⟨c2, f2⟩, ⟨c3, f3⟩, c4, f4⟩ := and_in r.kp
    clear rb
    go_region_with (first
      | (go_at_call_of 19 t; refine (H1.out _).mono ?_; rintro x w1 ⟨rfl, hb1⟩; have rn := Rg.step (by assumption) hb1; clear hb1 c1 f1 c2 f2 c3 f3 c4 f4 r; have r := rn; clear rn; obtain ⟨⟨c1, f1⟩, ⟨c2, f2⟩, ⟨c3, f3⟩, c4, f4⟩ := and_in r.kp)
      | (go_at_call_of 19 t'; refine (H2.out _).mono ?_; rintro x w1 ⟨rfl, hb1⟩; have rn := Rg.step (by assumption) hb1; clear hb1 c1 f1 c2 f2 c3 f3 c4 f4 r; have r := rn; clear rn; obtain ⟨⟨c1, f1⟩, ⟨c2, f2⟩, ⟨c3, f3⟩, c4, f4⟩ := and_in r.kp))
    all_goals
      go_wp2_with fail
      go_meet
      exact and_set _ _ _ _ (by assumption) (Nat.le_refl _)
  case rest =>
    clear H1 H2
    obtain ⟨⟨c1, f1⟩, ⟨c2, f2⟩, ⟨c3, f3⟩, c4, f4⟩ := and_in hcut.kp
    obtain ⟨⟨⟨c5, f5⟩, c6, f6⟩, ⟨c7, c8⟩, c9, c10⟩ := and_rest hcut.kp
    have hb := hcut.bel
    have hw := worse_any e e'
    clear hcut
    rcases k1 with ⟨rfl, rfl⟩ | ⟨rfl, rfl⟩ | ⟨rfl, rfl⟩ | ⟨rfl, n1, n2⟩ <;> rcases k2 with ⟨rfl, rfl⟩ | ⟨rfl, rfl⟩ | ⟨rfl, rfl⟩ | ⟨rfl, m1, m2⟩
    · -- F F
      obtain ⟨hR, hE⟩ : 0 = aT 0 0 0 0 ∧ 0 = aE 0 0 0 0 := aT_f 0 0
      have HR := Lib.hid hR
      have HE := Lib.hid hE
      have HW := Lib.hid hw
      clear hR hE hw
      go_wp2_with (go_at_call 14; refine (HW.out _).mono ?_; rintro x w' ⟨rfl, rfl⟩)
      exact bodyPost_ret (v := .agg #[.int .i64 0, .int .i64 0]) (by simp [results, Try.results8, go_sem, c5, c6]) rfl ⟨ret_d HR.out HE.out, (hb.setCell (le2 _) _).setCell (le2 _) _⟩
    · -- F T
      obtain ⟨hR, hE⟩ : 0 = aT 0 0 1 0 ∧ 0 = aE 0 0 1 0 := aT_f 1 0
      have HR := Lib.hid hR
      have HE := Lib.hid hE
      have HW := Lib.hid hw
      clear hR hE hw
      go_wp2_with (go_at_call 14; refine (HW.out _).mono ?_; rintro x w' ⟨rfl, rfl⟩)
      exact bodyPost_ret (v := .agg #[.int .i64 0, .int .i64 0]) (by simp [results, Try.results8, go_sem, c5, c6]) rfl ⟨ret_d HR.out HE.out, (hb.setCell (le2 _) _).setCell (le2 _) _⟩
    · -- F U
      obtain ⟨hR, hE⟩ : 0 = aT 0 0 2 0 ∧ 0 = aE 0 0 2 0 := aT_f 2 0
      have HR := Lib.hid hR
      have HE := Lib.hid hE
      have HW := Lib.hid hw
      clear hR hE hw
      go_wp2_with (go_at_call 14; refine (HW.out _).mono ?_; rintro x w' ⟨rfl, rfl⟩)
      exact bodyPost_ret (v := .agg #[.int .i64 0, .int .i64 0]) (by simp [results, Try.results8, go_sem, c5, c6]) rfl ⟨ret_d HR.out HE.out, (hb.setCell (le2 _) _).setCell (le2 _) _⟩
    · -- F E
      obtain ⟨hR, hE⟩ : 0 = aT 0 0 0 e' ∧ 0 = aE 0 0 0 e' := aT_f 0 e'
      have HR := Lib.hid hR
      have HE := Lib.hid hE
      have HW := Lib.hid hw
      clear hR hE hw
      go_wp2_with (go_at_call 14; refine (HW.out _).mono ?_; rintro x w' ⟨rfl, rfl⟩)
      exact bodyPost_ret (v := .agg #[.int .i64 0, .int .i64 0]) (by simp [results, Try.results8, go_sem, c5, c6]) rfl ⟨ret_d HR.out HE.out, (hb.setCell (le2 _) _).setCell (le2 _) _⟩
    · -- T F
      obtain ⟨hR, hE⟩ : 0 = aT 1 0 0 0 ∧ 0 = aE 1 0 0 0 := aT_f' 1 0
      have HR := Lib.hid hR
      have HE := Lib.hid hE
      have HW := Lib.hid hw
      clear hR hE hw
      go_wp2_with (go_at_call 14; refine (HW.out _).mono ?_; rintro x w' ⟨rfl, rfl⟩)
      exact bodyPost_ret (v := .agg #[.int .i64 0, .int .i64 0]) (by simp [results, Try.results8, go_sem, c5, c6]) rfl ⟨ret_d HR.out HE.out, (hb.setCell (le2 _) _).setCell (le2 _) _⟩
    · -- T T
      rw [w2_zz] at hw
      obtain ⟨hR, hE⟩ : 1 = aT 1 0 1 0 ∧ 0 = aE 1 0 1 0 := ⟨rfl, rfl⟩
      have HR := Lib.hid hR
      have HE := Lib.hid hE
      have HW := Lib.hid hw
      clear hR hE hw
      go_wp2_with (go_at_call 14; refine (HW.out _).mono ?_; rintro x w' ⟨rfl, rfl⟩)
      exact bodyPost_ret (v := .agg #[.int .i64 1, .int .i64 0]) (by simp [results, Try.results8, go_sem, c5, c6]) rfl ⟨ret_d HR.out HE.out, (hb.setCell (le2 _) _).setCell (le2 _) _⟩
    · -- T U
      rw [w2_zz] at hw
      obtain ⟨hR, hE⟩ : 2 = aT 1 0 2 0 ∧ 0 = aE 1 0 2 0 := ⟨rfl, rfl⟩
      have HR := Lib.hid hR
      have HE := Lib.hid hE
      have HW := Lib.hid hw
      clear hR hE hw
      go_wp2_with (go_at_call 14; refine (HW.out _).mono ?_; rintro x w' ⟨rfl, rfl⟩)
      exact bodyPost_ret (v := .agg #[.int .i64 2, .int .i64 0]) (by simp [results, Try.results8, go_sem, c5, c6]) rfl ⟨ret_d HR.out HE.out, (hb.setCell (le2 _) _).setCell (le2 _) _⟩
    · -- T E
      rw [w2_zl] at hw
      obtain ⟨hR, hE⟩ : 0 = aT 1 0 0 e' ∧ W2 0 e' = aE 1 0 0 e' := aT_e' 1 0 e' m1 (by omega)
      rw [w2_zl] at hE
      have HR := Lib.hid hR
      have HE := Lib.hid hE
      have HW := Lib.hid hw
      clear hR hE hw
      go_wp2_with (go_at_call 14; refine (HW.out _).mono ?_; rintro x w' ⟨rfl, rfl⟩)
      exact bodyPost_ret (v := .agg #[.int .i64 0, .int .i64 e']) (by simp [results, Try.results8, go_sem, c5, c6]) rfl ⟨ret_d HR.out HE.out, (hb.setCell (le2 _) _).setCell (le2 _) _⟩
    · -- U F
      obtain ⟨hR, hE⟩ : 0 = aT 2 0 0 0 ∧ 0 = aE 2 0 0 0 := aT_f' 2 0
      have HR := Lib.hid hR
      have HE := Lib.hid hE
      have HW := Lib.hid hw
      clear hR hE hw
      go_wp2_with (go_at_call 14; refine (HW.out _).mono ?_; rintro x w' ⟨rfl, rfl⟩)
      exact bodyPost_ret (v := .agg #[.int .i64 0, .int .i64 0]) (by simp [results, Try.results8, go_sem, c5, c6]) rfl ⟨ret_d HR.out HE.out, (hb.setCell (le2 _) _).setCell (le2 _) _⟩
    · -- U T
      rw [w2_zz] at hw
      obtain ⟨hR, hE⟩ : 2 = aT 2 0 1 0 ∧ 0 = aE 2 0 1 0 := ⟨rfl, rfl⟩
      have HR := Lib.hid hR
      have HE := Lib.hid hE
      have HW := Lib.hid hw
      clear hR hE hw
      go_wp2_with (go_at_call 14; refine (HW.out _).mono ?_; rintro x w' ⟨rfl, rfl⟩)
      exact bodyPost_ret (v := .agg #[.int .i64 2, .int .i64 0]) (by simp [results, Try.results8, go_sem, c5, c6]) rfl ⟨ret_d HR.out HE.out, (hb.setCell (le2 _) _).setCell (le2 _) _⟩
    · -- U U
      rw [w2_zz] at hw
      obtain ⟨hR, hE⟩ : 2 = aT 2 0 2 0 ∧ 0 = aE 2 0 2 0 := ⟨rfl, rfl⟩
      have HR := Lib.hid hR
      have HE := Lib.hid hE
      have HW := Lib.hid hw
      clear hR hE hw
      go_wp2_with (go_at_call 14; refine (HW.out _).mono ?_; rintro x w' ⟨rfl, rfl⟩)
      exact bodyPost_ret (v := .agg #[.int .i64 2, .int .i64 0]) (by simp [results, Try.results8, go_sem, c5, c6]) rfl ⟨ret_d HR.out HE.out, (hb.setCell (le2 _) _).setCell (le2 _) _⟩
    · -- U E
      rw [w2_zl] at hw
      obtain ⟨hR, hE⟩ : 0 = aT 2 0 0 e' ∧ W2 0 e' = aE 2 0 0 e' := aT_e' 2 0 e' m1 (by omega)
      rw [w2_zl] at hE
      have HR := Lib.hid hR
      have HE := Lib.hid hE
      have HW := Lib.hid hw
      clear hR hE hw
      go_wp2_with (go_at_call 14; refine (HW.out _).mono ?_; rintro x w' ⟨rfl, rfl⟩)
      exact bodyPost_ret (v := .agg #[.int .i64 0, .int .i64 e']) (by simp [results, Try.results8, go_sem, c5, c6]) rfl ⟨ret_d HR.out HE.out, (hb.setCell (le2 _) _).setCell (le2 _) _⟩
    · -- E F
      obtain ⟨hR, hE⟩ : 0 = aT 0 e 0 0 ∧ 0 = aE 0 e 0 0 := aT_f' 0 e
      have HR := Lib.hid hR
      have HE := Lib.hid hE
      have HW := Lib.hid hw
      clear hR hE hw
      go_wp2_with (go_at_call 14; refine (HW.out _).mono ?_; rintro x w' ⟨rfl, rfl⟩)
      exact bodyPost_ret (v := .agg #[.int .i64 0, .int .i64 0]) (by simp [results, Try.results8, go_sem, c5, c6]) rfl ⟨ret_d HR.out HE.out, (hb.setCell (le2 _) _).setCell (le2 _) _⟩
    · -- E T
      rw [w2_zr] at hw
      obtain ⟨hR, hE⟩ : 0 = aT 0 e 1 0 ∧ W2 e 0 = aE 0 e 1 0 := aT_e e 1 0 n1 (by omega)
      rw [w2_zr] at hE
      have HR := Lib.hid hR
      have HE := Lib.hid hE
      have HW := Lib.hid hw
      clear hR hE hw
      go_wp2_with (go_at_call 14; refine (HW.out _).mono ?_; rintro x w' ⟨rfl, rfl⟩)
      exact bodyPost_ret (v := .agg #[.int .i64 0, .int .i64 e]) (by simp [results, Try.results8, go_sem, c5, c6]) rfl ⟨ret_d HR.out HE.out, (hb.setCell (le2 _) _).setCell (le2 _) _⟩
    · -- E U
      rw [w2_zr] at hw
      obtain ⟨hR, hE⟩ : 0 = aT 0 e 2 0 ∧ W2 e 0 = aE 0 e 2 0 := aT_e e 2 0 n1 (by omega)
      rw [w2_zr] at hE
      have HR := Lib.hid hR
      have HE := Lib.hid hE
      have HW := Lib.hid hw
      clear hR hE hw
      go_wp2_with (go_at_call 14; refine (HW.out _).mono ?_; rintro x w' ⟨rfl, rfl⟩)
      exact bodyPost_ret (v := .agg #[.int .i64 0, .int .i64 e]) (by simp [results, Try.results8, go_sem, c5, c6]) rfl ⟨ret_d HR.out HE.out, (hb.setCell (le2 _) _).setCell (le2 _) _⟩
    · -- E E
      have hc : (W2 e e' != 0) = true := by simpa using w2_ne (b := e') (.inl (by simpa using n1))
      obtain ⟨hR, hE⟩ : 0 = aT 0 e 0 e' ∧ (W2 e e') = aE 0 e 0 e' := aT_e e 0 e' n1 (nz m1 0)
      have HR := Lib.hid hR
      have HE := Lib.hid hE
      have HW := Lib.hid hw
      clear hR hE hw
      go_wp2_with (go_at_call 14; refine (HW.out _).mono ?_; rintro x w' ⟨rfl, rfl⟩)
      exact bodyPost_ret (v := .agg #[.int .i64 0, .int .i64 (W2 e e')]) (by simp [results, Try.results8, go_sem, c5, c6]) rfl ⟨ret_d HR.out HE.out, (hb.setCell (le2 _) _).setCell (le2 _) _⟩

theorem and_any (t e t' e' : Int) (w : World) :
    Calls Try.prog 8 #[Dv t e, Dv t' e'] w fun x w' => x = .returned (Dv (aT t e t' e') (aE t e t' e')) ∧ Below w.heap.size w w' := by
  have h := and_core t e t' e' _ _ (plain_any t e) (plain_any t' e') (nrm_pT t e) (nrm_pT t' e') w
  rw [(aT_pT t e t' e').1, (aT_pT t e t' e').2] at h
  exact h

end Go.Proofs.Ytoghiebgffkhcab
