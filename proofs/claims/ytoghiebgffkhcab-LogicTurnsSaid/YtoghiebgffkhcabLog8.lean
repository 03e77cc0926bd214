/-
  Plain laws of verdicts; the boxes of a law over two or three verdicts.
  Conditions: none.
-/
import Derived.Test.YtoghiebgffkhcabLog7
namespace Go.Proofs.Ytoghiebgffkhcab
open Go.RowKit

theorem k4 (t e : Int) : (t = 0 ∧ e = 0) ∨ (t = 1 ∧ e = 0) ∨ (t ≠ 0 ∧ t ≠ 1 ∧ e = 0) ∨ e ≠ 0 := by omega

/-- a verdict by its mark -/
theorem aE_comm (t e t' e' : Int) : aE t' e' t e = aE t e t' e' := by unfold aE; rw [w2_comm e' e]; simp only [or_comm]
theorem aT_comm (t e t' e' : Int) : aT t' e' t e = aT t e t' e' := by
  unfold aT
  by_cases h : (t = 0 ∧ e = 0) ∨ (t' = 0 ∧ e' = 0)
  · rw [if_pos h, if_pos h.symm]
  · rw [if_neg h, if_neg (fun g => h g.symm)]
    by_cases g : e ≠ 0 ∨ e' ≠ 0
    · rw [if_pos g, if_pos g.symm]
    · rw [if_neg g, if_neg (fun k => g k.symm)]
      by_cases k : t = 1 ∧ t' = 1
      · rw [if_pos k, if_pos k.symm]
      · rw [if_neg k, if_neg (fun l => k l.symm)]
theorem oE_comm (t e t' e' : Int) : oE t' e' t e = oE t e t' e' := by unfold oE; rw [w2_comm e' e]; simp only [or_comm]
theorem oT_comm (t e t' e' : Int) : oT t' e' t e = oT t e t' e' := by
  rw [← (or_val t' e' t e).1, ← (or_val t e t' e').1, aT_comm, aE_comm]

theorem a_ff {t e t' e' : Int} (h : (t = 0 ∧ e = 0) ∨ (t' = 0 ∧ e' = 0)) : aT t e t' e' = 0 ∧ aE t e t' e' = 0 := by unfold aT aE; rw [if_pos h, if_pos h]; exact ⟨rfl, rfl⟩
theorem a_er {t e t' e' : Int} (h : ¬ ((t = 0 ∧ e = 0) ∨ (t' = 0 ∧ e' = 0))) (g : e ≠ 0 ∨ e' ≠ 0) : aT t e t' e' = 0 ∧ aE t e t' e' = W2 e e' := by unfold aT aE; rw [if_neg h, if_neg h, if_pos g]; exact ⟨rfl, rfl⟩
theorem a_tt {t e t' e' : Int} (h : ¬ ((t = 0 ∧ e = 0) ∨ (t' = 0 ∧ e' = 0))) (g : ¬ (e ≠ 0 ∨ e' ≠ 0)) : aT t e t' e' = (if t = 1 ∧ t' = 1 then 1 else 2) ∧ aE t e t' e' = 0 := by
  unfold aT aE; rw [if_neg h, if_neg h, if_neg g]
  obtain ⟨h1, h2⟩ : e = 0 ∧ e' = 0 := by omega
  subst h1 h2
  exact ⟨rfl, rfl⟩

theorem a_assoc (t e t' e' u f : Int) : aT (aT t e t' e') (aE t e t' e') u f = aT t e (aT t' e' u f) (aE t' e' u f) ∧ aE (aT t e t' e') (aE t e t' e') u f = aE t e (aT t' e' u f) (aE t' e' u f) := by
  by_cases h1 : t = 0 ∧ e = 0
  · obtain ⟨a, b⟩ := a_ff (t' := t') (e' := e') (.inl h1)
    obtain ⟨c, d⟩ := a_ff (t' := aT t' e' u f) (e' := aE t' e' u f) (.inl h1)
    obtain ⟨p, q⟩ := a_ff (t := 0) (e := 0) (t' := u) (e' := f) (.inl ⟨rfl, rfl⟩)
    rw [a, b, c, d, p, q]; exact ⟨rfl, rfl⟩
  by_cases h2 : t' = 0 ∧ e' = 0
  · obtain ⟨a, b⟩ := a_ff (t := t) (e := e) (.inr h2)
    obtain ⟨c, d⟩ := a_ff (t' := u) (e' := f) (.inl h2)
    obtain ⟨p, q⟩ := a_ff (t := 0) (e := 0) (t' := u) (e' := f) (.inl ⟨rfl, rfl⟩)
    obtain ⟨x, y⟩ := a_ff (t := t) (e := e) (t' := 0) (e' := 0) (.inr ⟨rfl, rfl⟩)
    rw [a, b, c, d, p, q, x, y]; exact ⟨rfl, rfl⟩
  by_cases h3 : u = 0 ∧ f = 0
  · obtain ⟨a, b⟩ := a_ff (t := aT t e t' e') (e := aE t e t' e') (.inr h3)
    obtain ⟨c, d⟩ := a_ff (t := t') (e := e') (.inr h3)
    obtain ⟨x, y⟩ := a_ff (t := t) (e := e) (t' := 0) (e' := 0) (.inr ⟨rfl, rfl⟩)
    rw [a, b, c, d, x, y]; exact ⟨rfl, rfl⟩
  by_cases g12 : e ≠ 0 ∨ e' ≠ 0
  · obtain ⟨a, b⟩ := a_er (t := t) (t' := t') (by omega) g12
    rw [a, b]
    have n12 := w2_ne g12
    obtain ⟨p, q⟩ := a_er (t := 0) (e := W2 e e') (t' := u) (e' := f) (by omega) (.inl n12)
    rw [p, q]
    by_cases g23 : e' ≠ 0 ∨ f ≠ 0
    · obtain ⟨c, d⟩ := a_er (t := t') (t' := u) (by omega) g23
      rw [c, d]
      have n23 := w2_ne g23
      obtain ⟨x, y⟩ := a_er (t := t) (e := e) (t' := 0) (e' := W2 e' f) (by omega) (.inr n23)
      rw [x, y, w2_assoc]; exact ⟨rfl, rfl⟩
    · obtain ⟨c, d⟩ := a_tt (t := t') (t' := u) (by omega) g23
      rw [c, d]
      obtain ⟨z1, z2⟩ : e' = 0 ∧ f = 0 := by omega
      subst z1 z2
      obtain ⟨x, y⟩ := a_er (t := t) (e := e) (t' := if t' = 1 ∧ u = 1 then 1 else 2) (e' := 0) (by split <;> omega) (by omega)
      rw [x, y, w2_zr]; exact ⟨rfl, rfl⟩
  · obtain ⟨a, b⟩ := a_tt (t := t) (t' := t') (by omega) g12
    rw [a, b]
    obtain ⟨z1, z2⟩ : e = 0 ∧ e' = 0 := by omega
    subst z1 z2
    by_cases g3 : f ≠ 0
    · obtain ⟨p, q⟩ := a_er (t := if t = 1 ∧ t' = 1 then 1 else 2) (e := 0) (t' := u) (e' := f) (by split <;> omega) (.inr g3)
      obtain ⟨c, d⟩ := a_er (t := t') (e := 0) (t' := u) (e' := f) (by omega) (.inr g3)
      rw [p, q, c, d]
      obtain ⟨x, y⟩ := a_er (t := t) (e := 0) (t' := 0) (e' := W2 0 f) (by rw [w2_zl]; omega) (.inr (by rw [w2_zl]; exact g3))
      rw [x, y, w2_zl, w2_zl]; exact ⟨rfl, rfl⟩
    · have z3 : f = 0 := by omega
      subst z3
      obtain ⟨p, q⟩ := a_tt (t := if t = 1 ∧ t' = 1 then 1 else 2) (e := 0) (t' := u) (e' := 0) (by split <;> omega) (by omega)
      obtain ⟨c, d⟩ := a_tt (t := t') (e := 0) (t' := u) (e' := 0) (by omega) (by omega)
      rw [p, q, c, d]
      obtain ⟨x, y⟩ := a_tt (t := t) (e := 0) (t' := if t' = 1 ∧ u = 1 then 1 else 2) (e' := 0) (by split <;> omega) (by omega)
      rw [x, y]
      refine ⟨?_, rfl⟩
      by_cases c1 : t = 1 <;> by_cases c2 : t' = 1 <;> by_cases c3 : u = 1 <;> simp [c1, c2, c3]

theorem nn (t e : Int) : nT (nT t e) e = pT t e := by
  rcases kinds t e with ⟨rfl, rfl⟩ | ⟨rfl, rfl⟩ | ⟨⟨h1, h2, h3, h4⟩, rfl⟩ | ⟨h1, h2⟩
  · rfl
  · rfl
  · rw [nT_u h1 h2, pT_u h1 h2]; rfl
  · rw [nT_e h1, pT_e h1]
theorem turn_and (t e t' e' : Int) : oT (nT t e) e (nT t' e') e' = nT (aT t e t' e') (aE t e t' e') ∧ oE (nT t e) e (nT t' e') e' = aE t e t' e' := by
  obtain ⟨h1, h2⟩ := or_val (nT t e) e (nT t' e') e'
  rw [nn, nn] at h1 h2
  obtain ⟨a, b⟩ := aT_pT t e t' e'
  rw [a, b] at h1
  rw [b] at h2
  exact ⟨h1.symm, h2.symm⟩
theorem norm_a (t e t' e' : Int) : pT (aT t e t' e') (aE t e t' e') = aT t e t' e' := by
  by_cases h : (t = 0 ∧ e = 0) ∨ (t' = 0 ∧ e' = 0)
  · obtain ⟨a, b⟩ := a_ff h
    rw [a, b]; rfl
  · by_cases g : e ≠ 0 ∨ e' ≠ 0
    · obtain ⟨a, b⟩ := a_er h g
      rw [a, b]
      unfold pT
      rw [if_pos (w2_ne g)]
    · obtain ⟨a, b⟩ := a_tt h g
      rw [a, b]
      split <;> rfl
theorem o_assoc (t e t' e' u f : Int) : oT (oT t e t' e') (oE t e t' e') u f = oT t e (oT t' e' u f) (oE t' e' u f) ∧ oE (oT t e t' e') (oE t e t' e') u f = oE t e (oT t' e' u f) (oE t' e' u f) := by
  have nx : ∀ t e t' e', nT (oT t e t' e') (oE t e t' e') = aT (nT t e) e (nT t' e') e' := by
    intro t e t' e'
    obtain ⟨h1, h2⟩ := or_val t e t' e'
    rw [← h2, ← h1, nn, norm_a]
  obtain ⟨p1, p2⟩ := or_val (oT t e t' e') (oE t e t' e') u f
  obtain ⟨q1, q2⟩ := or_val t e (oT t' e' u f) (oE t' e' u f)
  obtain ⟨r1, r2⟩ := or_val t e t' e'
  obtain ⟨s1, s2⟩ := or_val t' e' u f
  obtain ⟨x, y⟩ := a_assoc (nT t e) e (nT t' e') e' (nT u f) f
  rw [nx, ← r2] at p1 p2
  rw [nx, ← s2] at q1 q2
  rw [x, y] at p1
  rw [y] at p2
  rw [← r2, ← s2]
  exact ⟨p1.symm.trans q1, p2.symm.trans q2⟩
theorem a_self (t e : Int) : aT t e t e = nT (nT t e) e ∧ aE t e t e = e := by
  rw [nn]
  rcases kinds t e with ⟨rfl, rfl⟩ | ⟨rfl, rfl⟩ | ⟨⟨h1, h2, h3, h4⟩, rfl⟩ | ⟨h1, h2⟩
  · exact ⟨rfl, rfl⟩
  · exact ⟨rfl, rfl⟩
  · simp_all [aT, aE, pT, w2_zz]
  · have : ¬ e = 0 := by simpa using h1
    refine ⟨by simp_all [aT, pT], ?_⟩
    unfold aE W2
    rw [if_neg (by omega), if_neg this, if_neg this]
    omega

abbrev C4 (h : Nat) (t e t' e' : Int) : List (Nat × Nat × Value) := [Cl h 0 t, Cl h 1 e, Cl (h + 1) 0 t', Cl (h + 1) 1 e']
theorem rg_two (t e t' e' : Int) (w : World) : Rg w.heap.size w ((w.alloc (Bx t e)).alloc (Bx t' e')) (C4 w.heap.size t e t' e') := by
  refine ⟨two_below _ _ _, by simp; omega, ?_⟩
  unfold Kp
  simp only [List.forall_mem_cons, List.not_mem_nil, false_implies, implies_true, and_true]
  go_simp
theorem rg_all {B h : Nat} {w w0 : World} {t e t' e' : Int} (x : Rg B w w0 (C4 h t e t' e')) :
    Rg B w w0 (C4 h t e t' e') ∧ w0.cell? ⟨h, 0, none⟩ = some (.int .i64 t) ∧ w0.cell? ⟨h, 1, none⟩ = some (.int .i64 e) ∧ w0.cell? ⟨h + 1, 0, none⟩ = some (.int .i64 t') ∧ w0.cell? ⟨h + 1, 1, none⟩ = some (.int .i64 e') :=
  ⟨x, x.kp.hd.1, x.kp.tl.hd.1, x.kp.tl.tl.hd.1, x.kp.tl.tl.tl.hd.1⟩
abbrev C6 (h : Nat) (t e t' e' u f : Int) : List (Nat × Nat × Value) := [Cl h 0 t, Cl h 1 e, Cl (h + 1) 0 t', Cl (h + 1) 1 e', Cl (h + 2) 0 u, Cl (h + 2) 1 f]
theorem rg_three (t e t' e' u f : Int) (w : World) : Rg w.heap.size w (((w.alloc (Bx t e)).alloc (Bx t' e')).alloc (Bx u f)) (C6 w.heap.size t e t' e' u f) := by
  refine ⟨(two_below _ _ _).alloc (by simp; omega) _, by simp; omega, ?_⟩
  unfold Kp
  simp only [List.forall_mem_cons, List.not_mem_nil, false_implies, implies_true, and_true]
  go_simp
theorem rg_all6 {B h : Nat} {w w0 : World} {t e t' e' u f : Int} (x : Rg B w w0 (C6 h t e t' e' u f)) :
    Rg B w w0 (C6 h t e t' e' u f) ∧ w0.cell? ⟨h, 0, none⟩ = some (.int .i64 t) ∧ w0.cell? ⟨h, 1, none⟩ = some (.int .i64 e) ∧ w0.cell? ⟨h + 1, 0, none⟩ = some (.int .i64 t') ∧ w0.cell? ⟨h + 1, 1, none⟩ = some (.int .i64 e') ∧
    w0.cell? ⟨h + 2, 0, none⟩ = some (.int .i64 u) ∧ w0.cell? ⟨h + 2, 1, none⟩ = some (.int .i64 f) :=
  ⟨x, x.kp.hd.1, x.kp.tl.hd.1, x.kp.tl.tl.hd.1, x.kp.tl.tl.tl.hd.1, x.kp.tl.tl.tl.tl.hd.1, x.kp.tl.tl.tl.tl.tl.hd.1⟩

/-- the list turned about -/
def rv (f : Nat → Int) (k i : Nat) : Int := f (k - 1 - i)
def cn (t : Int) (f : Nat → Int) (i : Nat) : Int := if i = 0 then t else f (i - 1)
theorem rv_step (f : Nat → Int) (k : Nat) : cn (f k) (rv f k) = rv f (k + 1) := by
  funext i
  unfold cn rv
  by_cases h : i = 0
  · subst h; simp
  · rw [if_neg h]; congr 1; omega
theorem dcells_cn (tf ef : Nat → Int) (t e : Int) (m : Nat) : [.int .i64 t, .int .i64 e] ++ dcells tf ef m = dcells (cn t tf) (cn e ef) (m + 1) := dcells_cons tf ef t e m
theorem vs_cn (n : Nat) (tf ef : Nat → Int) (t e : Int) : vs (n + 1) (cn t tf) (cn e ef) = (t, e) :: vs n tf ef := vs_cons n tf ef t e
theorem vs_rv (n : Nat) (tf ef : Nat → Int) : vs n (rv tf n) (rv ef n) = (vs n tf ef).reverse := vs_rev n tf ef
theorem rv_sieve (n : Nat) (tf ef : Nat → Int) : sB (vs n (rv tf n) (rv ef n)) = sB (vs n tf ef) ∧ sE (vs n (rv tf n) (rv ef n)) = sE (vs n tf ef) := by
  rw [vs_rv]; exact ⟨sB_perm (List.reverse_perm _), sE_perm (List.reverse_perm _)⟩

theorem own_one (w : World) (base : Nat) (hb : base ≤ w.heap.size) (t e : Int) : (w.alloc (.cells #[.int .i64 t, .int .i64 e] 24)).ownsRow base 24 2 (.slice (some ⟨w.heap.size, 0, none⟩) 1 1) 1 [.int .i64 t, .int .i64 e] :=
  ⟨rfl, .inr ⟨w.heap.size, 1, _, rfl, hb, heap_alloc_new w _, Nat.le_refl _, by decide, rfl, rfl⟩⟩
theorem own_two (w : World) (o : Obj) (t e : Int) : ((w.alloc o).alloc (.cells #[.int .i64 t, .int .i64 e] 24)).ownsRow w.heap.size 24 2 (.slice (some ⟨w.heap.size + 1, 0, none⟩) 1 1) 1 [.int .i64 t, .int .i64 e] := by
  have h := own_one (w.alloc o) w.heap.size (by simp) t e
  have hs : (w.alloc o).heap.size = w.heap.size + 1 := by simp
  rw [hs] at h
  exact h

theorem isD_nil (w : World) (g : Nat) (tf ef : Nat → Int) : IsD w g 0 0 tf ef := ⟨fun h => absurd h (by decide), fun i hi => absurd hi (by omega), fun i hi => absurd hi (by omega)⟩
theorem isD_one {w : World} {base g cap : Nat} {t e : Int} (h : w.ownsRow base 24 2 (.slice (some ⟨g, 0, none⟩) 1 cap) 1 [.int .i64 t, .int .i64 e]) (tf ef : Nat → Int) : IsD w g 0 1 (cn t tf) (cn e ef) := by
  have h' : w.ownsRow base 24 2 (.slice (some ⟨g, 0, none⟩) 1 cap) 1 (dcells (cn t tf) (cn e ef) 1) := h
  obtain ⟨g', cap', e1, x⟩ := isD_of_owns h' (by simp)
  injection e1 with e1 e2 e3
  injection e1 with e1
  injection e1 with e1
  subst e1
  exact x
theorem kp_one (t e : Int) (w : World) : Rg w.heap.size w (w.alloc (Bx t e)) [Cl w.heap.size 0 t, Cl w.heap.size 1 e] := by
  refine ⟨(Below.refl _ _).alloc (Nat.le_refl _) _, by simp, ?_⟩
  unfold Kp
  simp only [List.forall_mem_cons, List.not_mem_nil, false_implies, implies_true, and_true]
  go_simp

end Go.Proofs.Ytoghiebgffkhcab
