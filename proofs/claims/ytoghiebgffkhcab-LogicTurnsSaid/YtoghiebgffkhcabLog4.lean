/-
  Contracts over the translation: 'not' and 'or' of verdicts, of package logic.
  Conditions: none.
-/
import Derived.Test.YtoghiebgffkhcabLog3
namespace Go.Proofs.Ytoghiebgffkhcab
open Go.RowKit Go.Joins Go.ChangeShapes Go.WideShapes
set_option linter.unusedVariables false

theorem le1 (n : Nat) : n ≤ n + 1 := by omega
theorem not_any (t e : Int) (w : World) :
    Calls Try.prog 12 #[Dv t e] w fun x w' => x = .returned (Dv (nT t e) e) ∧ Below w.heap.size w w' := by
  have h := plain_any t e
  unfold Dv at *
  rcases kinds t e with ⟨rfl, rfl⟩ | ⟨rfl, rfl⟩ | ⟨⟨h1, h2, h3, h4⟩, rfl⟩ | ⟨h1, h2⟩
  · rw [show nT 0 0 = 1 from rfl]
    clear h
    go_enter Try.func12, Try.ntmps12
    go_wp2
    exact bodyPost_ret (v := .agg #[.int .i64 1, .int .i64 0]) (by simp [results, Try.results12, go_sem]) rfl ⟨rfl, two_below _ _ _⟩
  · rw [show nT 1 0 = 0 from rfl]
    clear h
    go_enter Try.func12, Try.ntmps12
    go_wp2
    exact bodyPost_ret (v := .agg #[.int .i64 0, .int .i64 0]) (by simp [results, Try.results12, go_sem]) rfl ⟨rfl, two_below _ _ _⟩
  · rw [pT_u h1 h2] at h
    rw [nT_u h1 h2]
    have H := Lib.hid h
    clear h
    go_enter Try.func12, Try.ntmps12
    go_wp2_with fail
    refine (H.out _).mono ?_
    rintro x w1 ⟨rfl, hb⟩
    obtain ⟨hc, hf⟩ := bcell hb
    go_wp2
    exact bodyPost_ret (v := .agg #[.int .i64 2, .int .i64 0]) (by simp [results, Try.results12, go_sem, hc]) rfl ⟨rfl, (((two_below _ _ _).trans (hb.mono (by simp; omega))).setCell (le1 _) _).setCell (le1 _) _⟩
  · rw [pT_e h1] at h
    rw [nT_e h1]
    have H := Lib.hid h
    clear h
    go_enter Try.func12, Try.ntmps12
    go_wp2_with fail
    refine (H.out _).mono ?_
    rintro x w1 ⟨rfl, hb⟩
    obtain ⟨hc, hf⟩ := bcell hb
    go_wp2
    exact bodyPost_ret (v := .agg #[.int .i64 0, .int .i64 e]) (by simp [results, Try.results12, go_sem, hc]) rfl ⟨rfl, (((two_below _ _ _).trans (hb.mono (by simp; omega))).setCell (le1 _) _).setCell (le1 _) _⟩

theorem or_val (t e t' e' : Int) : nT (aT (nT t e) e (nT t' e') e') (aE (nT t e) e (nT t' e') e') = oT t e t' e' ∧ aE (nT t e) e (nT t' e') e' = oE t e t' e' := by
  rcases kinds t e with ⟨rfl, rfl⟩ | ⟨rfl, rfl⟩ | ⟨⟨h1, h2, h3, h4⟩, rfl⟩ | ⟨h1, h2⟩ <;> rcases kinds t' e' with ⟨rfl, rfl⟩ | ⟨rfl, rfl⟩ | ⟨⟨h1', h2', h3', h4'⟩, rfl⟩ | ⟨h1', h2'⟩ <;>
    simp_all [nT, aT, aE, oT, oE, w2_zl, w2_zr, w2_ne]

/-- what a cell holds -/
def cval (w : World) (a : Addr) : Value := (w.cell? a).getD (.int .i64 0)
theorem cval_of {w : World} {a : Addr} {v : Value} (h : w.cell? a = some v) : w.cell? a = some (cval w a) := by unfold cval; rw [h]; rfl

/-- a world on the way: below it is as w was, these cells stay, and the cells of block g may be written -/
def Og (B g n : Nat) (w wx : World) (l : List (Nat × Nat × Value)) : Prop :=
  Rg B w wx l ∧ B ≤ g ∧ (∀ x ∈ l, x.1 ≠ g) ∧ g < wx.heap.size ∧ ∀ o, o < n → (∃ v, wx.cell? ⟨g, o, none⟩ = some v) ∧ wx.frozen? ⟨g, o, none⟩ = false
theorem Og.step {B g n : Nat} {w w0 w1 : World} {l : List (Nat × Nat × Value)} (h : Og B g n w w0 l) (hb : Below w0.heap.size w0 w1) : Og B g n w w1 l := by
  obtain ⟨hc, hf⟩ := bcell hb
  obtain ⟨a, b, c, d, e⟩ := h
  refine ⟨a.step hb, b, c, Nat.lt_of_lt_of_le d hb.size, fun o ho => ?_⟩
  obtain ⟨⟨v, hv⟩, f⟩ := e o ho
  exact ⟨⟨v, (hc _ _ d).trans hv⟩, (hf _ _ d).trans f⟩
theorem Og.drew {B g n : Nat} {w w0 : World} {l : List (Nat × Nat × Value)} (h : Og B g n w w0 l) : Og B g n w w0.drew l := ⟨h.1.drew, h.2.1, h.2.2.1, h.2.2.2.1, h.2.2.2.2⟩
theorem Og.set {B g n : Nat} {w w0 : World} {l : List (Nat × Nat × Value)} (h : Og B g n w w0 l) (o : Nat) (u : Value) : Og B g n w (w0.setCell ⟨g, o, none⟩ u) l := by
  obtain ⟨⟨a1, a2, a3⟩, b, c, d, e⟩ := h
  refine ⟨⟨a1.setCell b u, by simpa [World.setCell] using a2, fun x hx => ?_⟩, b, c, by simpa [World.setCell] using d, fun o' ho => ?_⟩
  · obtain ⟨p, q, r⟩ := a3 x hx
    refine ⟨by simpa [World.setCell] using p, ?_, by simpa using r⟩
    rw [World.cell?_setCell_other _ _ _ _ (fun e => c x hx (by injection e with e1 e2; exact e1.symm))]
    exact q
  · obtain ⟨⟨v, hv⟩, f⟩ := e o' ho
    refine ⟨?_, by simpa using f⟩
    by_cases ho' : o' = o
    · subst ho'
      exact ⟨u, by go_simp⟩
    · refine ⟨v, ?_⟩
      rw [World.cell?_setCell_other _ _ _ _ (fun e => ho' (by injection e with e1 e2; exact e2.symm))]
      exact hv
theorem Og.bel {B g n : Nat} {w w0 : World} {l : List (Nat × Nat × Value)} (h : Og B g n w w0 l) : Below B w w0 := h.1.1
theorem Og.kp {B g n : Nat} {w w0 : World} {l : List (Nat × Nat × Value)} (h : Og B g n w w0 l) : Kp w0 l := h.1.kp
theorem Og.own {B g n : Nat} {w w0 : World} {l : List (Nat × Nat × Value)} (h : Og B g n w w0 l) (o : Nat) (ho : o < n) : w0.cell? ⟨g, o, none⟩ = some (cval w0 ⟨g, o, none⟩) ∧ w0.frozen? ⟨g, o, none⟩ = false := by
  obtain ⟨⟨v, hv⟩, f⟩ := h.2.2.2.2 o ho
  exact ⟨cval_of hv, f⟩

/-- the state of a function of two verdicts -/
theorem og_two (t e t' e' : Int) (w : World) : Og w.heap.size (w.heap.size + 2) 2 w (((w.alloc (Bx t e)).alloc (Bx t' e')).alloc (Bx 0 0)) [Cl w.heap.size 0 t, Cl w.heap.size 1 e, Cl (w.heap.size + 1) 0 t', Cl (w.heap.size + 1) 1 e'] := by
  refine ⟨⟨((two_below _ _ _).alloc (by simp; omega) _), by simp; omega, ?_⟩, by omega, by simp, by simp, fun o ho => ?_⟩
  · unfold Kp
    simp only [List.forall_mem_cons, List.not_mem_nil, false_implies, implies_true, and_true]
    go_simp
  · match o, ho with
    | 0, _ => exact ⟨⟨.int .i64 0, by go_simp⟩, by go_simp⟩
    | 1, _ => exact ⟨⟨.int .i64 0, by go_simp⟩, by go_simp⟩

theorem og_all {B g h : Nat} {w w0 : World} {t e t' e' : Int} (x : Og B g 2 w w0 [Cl h 0 t, Cl h 1 e, Cl (h + 1) 0 t', Cl (h + 1) 1 e']) :
    Og B g 2 w w0 [Cl h 0 t, Cl h 1 e, Cl (h + 1) 0 t', Cl (h + 1) 1 e'] ∧ w0.cell? ⟨h, 0, none⟩ = some (.int .i64 t) ∧ w0.cell? ⟨h, 1, none⟩ = some (.int .i64 e) ∧
    w0.cell? ⟨h + 1, 0, none⟩ = some (.int .i64 t') ∧ w0.cell? ⟨h + 1, 1, none⟩ = some (.int .i64 e') ∧
    w0.cell? ⟨g, 0, none⟩ = some (cval w0 ⟨g, 0, none⟩) ∧ w0.cell? ⟨g, 1, none⟩ = some (cval w0 ⟨g, 1, none⟩) ∧ w0.frozen? ⟨g, 0, none⟩ = false ∧ w0.frozen? ⟨g, 1, none⟩ = false :=
  ⟨x, x.kp.hd.1, x.kp.tl.hd.1, x.kp.tl.tl.hd.1, x.kp.tl.tl.tl.hd.1, (x.own 0 (by decide)).1, (x.own 1 (by decide)).1, (x.own 0 (by decide)).2, (x.own 1 (by decide)).2⟩

set_option maxHeartbeats 2000000 in
theorem or_any (t e t' e' : Int) (w : World) :
    Calls Try.prog 10 #[Dv t e, Dv t' e'] w fun x w' => x = .returned (Dv (oT t e t' e') (oE t e t' e')) ∧ Below w.heap.size w w' := by
  have HV := Lib.hid (or_val t e t' e')
  have hn := fun t e w => not_any t e w
  have ha := fun t e t' e' w => and_any t e t' e' w
  unfold Dv at *
  have HN := Lib.hid hn
  have HA := Lib.hid ha
  clear hn ha
  go_enter Try.func10, Try.ntmps10
  go_upto_region 1 with fail
  have ob := og_two t e t' e' w
  generalize ((w.alloc (Bx t e)).alloc (Bx t' e')).alloc (Bx 0 0) = wb at *
  have hs := og_all ob
  clear ob
  go_region_held3 (fun w0 => Og w.heap.size (w.heap.size + 2) 2 w w0 [Cl w.heap.size 0 t, Cl w.heap.size 1 e, Cl (w.heap.size + 1) 0 t', Cl (w.heap.size + 1) 1 e'] ∧ w0.cell? ⟨w.heap.size, 0, none⟩ = some (.int .i64 t) ∧ w0.cell? ⟨w.heap.size, 1, none⟩ = some (.int .i64 e) ∧
    w0.cell? ⟨w.heap.size + 1, 0, none⟩ = some (.int .i64 t') ∧ w0.cell? ⟨w.heap.size + 1, 1, none⟩ = some (.int .i64 e') ∧
    w0.cell? ⟨w.heap.size + 2, 0, none⟩ = some (cval w0 ⟨w.heap.size + 2, 0, none⟩) ∧ w0.cell? ⟨w.heap.size + 2, 1, none⟩ = some (cval w0 ⟨w.heap.size + 2, 1, none⟩) ∧ w0.frozen? ⟨w.heap.size + 2, 0, none⟩ = false ∧ w0.frozen? ⟨w.heap.size + 2, 1, none⟩ = false)
    (first | (go_split_ands; exact og_all (by assumption)) | (go_split_ands; exact og_all (Og.drew (by assumption))) | (go_split_ands; exact og_all (Og.step (by assumption) hb)) | (go_split_ands; exact og_all (Og.set (Og.set (by assumption) _ _) _ _)))
    (first | (go_at_call 12; refine (HN.out _ _ _).mono ?_; rintro x w1 ⟨rfl, hb⟩; have og := Og.step (And.left (by assumption)) hb) | (go_at_call 8; refine (HA.out _ _ _ _ _).mono ?_; rintro x w1 ⟨rfl, hb⟩; have og := Og.step (And.left (by assumption)) hb))
  all_goals
    have c0 := (og.own 0 (by decide)).1
    have c1 := (og.own 1 (by decide)).1
    have bl := ((og.set 0 (.int .i64 (nT (aT (nT t e) e (nT t' e') e') (aE (nT t e) e (nT t' e') e')))).set 1 (.int .i64 (aE (nT t e) e (nT t' e') e'))).bel
    go_wp2_with fail
    exact bodyPost_ret (v := .agg #[.int .i64 (nT (aT (nT t e) e (nT t' e') e') (aE (nT t e) e (nT t' e') e')), .int .i64 (aE (nT t e) e (nT t' e') e')]) (by simp [results, Try.results10, go_sem, c0, c1]) rfl ⟨ret_d HV.out.1 HV.out.2, bl⟩

end Go.Proofs.Ytoghiebgffkhcab
