/-
  The document's search for a cycle (haspref11.Cycle): its state, as lists.
  Conditions: none.
-/
import Derived.Test.YtlhipnklljjahaaWt3
namespace Go.Proofs.Ytlhipnklljjahaa
open Go.RowKit Go.Joins Go.ChangeShapes Go.WideShapes
set_option linter.unusedVariables false
set_option linter.unnecessarySimpa false
set_option linter.unusedSimpArgs false

/-- of those met only who they are counts -/
theorem Res.meq {S : Int → List Int} {a : Int} {w : Way} {m o : List Int} (h : Res S a w m o) : ∀ m', (∀ x, x ∈ m ↔ x ∈ m') → Res S a w m' o := by
  induction h with
  | none => intro m' _; exact .none m'
  | found x rem rest met h0 => intro m' _; exact .found x rem rest m' h0
  | pop x rest met out h0 _ ih => intro m' hm; exact .pop x rest m' out h0 (ih m' hm)
  | skip x y r rest met out h0 hy _ ih => intro m' hm; exact .skip x y r rest m' out h0 ((hm y).1 hy) (ih m' hm)
  | enter x y r rest met out h0 hy _ ih =>
    intro m' hm
    exact .enter x y r rest m' out h0 (fun h => hy ((hm y).2 h)) (ih (y :: m') fun z => by rw [List.mem_cons, List.mem_cons, hm])
theorem unmet_eq (E : List Eg) {m m' : List Int} (h : ∀ x, x ∈ m ↔ x ∈ m') : unmet E m = unmet E m' := by
  unfold unmet
  congr 1
  refine List.filter_congr fun e _ => ?_
  have : m.contains e.2 = m'.contains e.2 := by rw [Bool.eq_iff_iff]; simp [h]
  rw [this]

/-- one on the way: who, the last one looked at, and whether none was -/
abbrev Pt := Int × Int × Bool
def remP (E : List Eg) (p : Pt) : List Int := remX E p.1 p.2.1 p.2.2
def wayP (E : List Eg) (P : List Pt) : Way := P.reverse.map fun p => (p.1, remP E p)
theorem wayP_snoc (E : List Eg) (P : List Pt) (p : Pt) : wayP E (P ++ [p]) = (p.1, remP E p) :: wayP E P := by simp [wayP]
theorem nodes_wayP (E : List Eg) (P : List Pt) : nodes (wayP E P) = P.map (·.1) := by simp [nodes, wayP, Function.comp_def]
def msP (E : List Eg) (P : List Pt) (met : List Int) : Nat := unmet E met * (E.length + 2) + (P.map fun p => (remP E p).length + 1).sum
structure CyI (E : List Eg) (a : Int) (P : List Pt) (met : List Int) : Prop where
  res : ∀ o, Res (Sx E) a (wayP E P) met o → Res (Sx E) a [(a, Sx E a)] [a] o
  le : P.length ≤ met.length
  un : met.length + unmet E met ≤ E.length + 1
theorem CyI.start (E : List Eg) (a : Int) : CyI E a [(a, 0, true)] [a] := by
  refine ⟨fun o h => ?_, Nat.le_refl _, ?_⟩
  · have : wayP E [(a, 0, true)] = [(a, Sx E a)] := by simp [wayP, remP, remX_first]
    rw [this] at h
    exact h
  · have := List.length_filter_le (fun e : Eg => !([a] : List Int).contains e.2) E
    unfold unmet
    simp only [List.length_singleton]
    omega
theorem CyI.done {E : List Eg} {a : Int} {met : List Int} (h : CyI E a [] met) : Res (Sx E) a [(a, Sx E a)] [a] [] := h.res _ (.none met)
theorem CyI.found {E : List Eg} {a : Int} {P : List Pt} {p : Pt} {met : List Int} (h : CyI E a (P ++ [p]) met) (hp : (p.1, a) ∈ E) : Res (Sx E) a [(a, Sx E a)] [a] ((P ++ [p]).map (·.1)) := by
  refine h.res _ ?_
  rw [← nodes_wayP E, wayP_snoc]
  exact .found _ _ _ _ ((mem_Sx ..).2 hp)
theorem CyI.pop {E : List Eg} {a : Int} {P : List Pt} {p : Pt} {met : List Int} (h : CyI E a (P ++ [p]) met) (hp : (p.1, a) ∉ E) (hr : remP E p = []) : CyI E a P met ∧ msP E P met < msP E (P ++ [p]) met := by
  refine ⟨⟨fun o ho => h.res o ?_, by have := h.le; simp at this; omega, h.un⟩, ?_⟩
  · rw [wayP_snoc, hr]
    exact .pop _ _ _ _ (fun hc => hp ((mem_Sx ..).1 hc)) ho
  · unfold msP
    simp
theorem remP_next {E : List Eg} {p : Pt} {y : Int} {r : List Int} (h : remP E p = y :: r) : remP E (p.1, y, false) = r := remX_next E p.1 p.2.1 p.2.2 y r h
theorem CyI.skip {E : List Eg} {a : Int} {P : List Pt} {p : Pt} {met : List Int} (h : CyI E a (P ++ [p]) met) (hp : (p.1, a) ∉ E) {y : Int} {r : List Int} (hr : remP E p = y :: r) (hy : y ∈ met) :
    CyI E a (P ++ [(p.1, y, false)]) met ∧ msP E (P ++ [(p.1, y, false)]) met < msP E (P ++ [p]) met := by
  have hn := remP_next hr
  refine ⟨⟨fun o ho => h.res o ?_, by have := h.le; simpa using this, h.un⟩, ?_⟩
  · rw [wayP_snoc, hn] at ho
    rw [wayP_snoc, hr]
    exact .skip _ _ _ _ _ _ (fun hc => hp ((mem_Sx ..).1 hc)) hy ho
  · unfold msP
    simp [hn, hr]
theorem CyI.enter {E : List Eg} {a : Int} {P : List Pt} {p : Pt} {met : List Int} (h : CyI E a (P ++ [p]) met) (hp : (p.1, a) ∉ E) {y : Int} {r : List Int} (hr : remP E p = y :: r) (hy : y ∉ met) :
    CyI E a (P ++ [(p.1, y, false), (y, 0, true)]) (met ++ [y]) ∧ msP E (P ++ [(p.1, y, false), (y, 0, true)]) (met ++ [y]) < msP E (P ++ [p]) met := by
  have hn := remP_next hr
  have hyE : (p.1, y) ∈ E := ((mem_remX ..).1 (show y ∈ remX E p.1 p.2.1 p.2.2 from by
    have : y ∈ remP E p := by rw [hr]; exact List.mem_cons_self ..
    exact this)).1
  have hme : ∀ x, x ∈ met ++ [y] ↔ x ∈ y :: met := fun x => by simp [or_comm]
  have hul := unmet_lt hyE hy
  have hue := unmet_eq E hme
  have hS : (Sx E y).length ≤ E.length := Sx_len y E
  refine ⟨⟨fun o ho => h.res o ?_, ?_, ?_⟩, ?_⟩
  · have e : P ++ [(p.1, y, false), (y, 0, true)] = (P ++ [(p.1, y, false)]) ++ [(y, 0, true)] := by simp
    rw [e, wayP_snoc, wayP_snoc, hn] at ho
    rw [wayP_snoc, hr]
    refine .enter _ _ _ _ _ _ (fun hc => hp ((mem_Sx ..).1 hc)) hy ?_
    have e2 : remP E (y, 0, true) = Sx E y := remX_first E y 0
    rw [e2] at ho
    exact ho.meq _ hme
  · have := h.le; simp at this ⊢; omega
  · have := h.un
    rw [hue]
    simp
    omega
  · have hm : unmet E (y :: met) * (E.length + 2) + (E.length + 2) ≤ unmet E met * (E.length + 2) := by
      have := Nat.mul_le_mul_right (E.length + 2) hul
      rw [Nat.succ_mul] at this
      exact this
    have hrl : (remP E (y, 0, true)).length = (Sx E y).length := by rw [show remP E (y, 0, true) = Sx E y from remX_first E y 0]
    unfold msP
    rw [hue]
    simp only [List.map_append, List.map_cons, List.map_nil, List.sum_append, List.sum_cons, List.sum_nil, hn, hr, hrl, List.length_cons]
    omega
/-- an element of a list, the last one -/
theorem snoc_of {α : Type} {l : List α} (h : 0 < l.length) : ∃ P p, l = P ++ [p] := ⟨l.dropLast, l.getLast (by intro e; rw [e] at h; simp at h), (List.dropLast_concat_getLast _).symm⟩
theorem snoc_at {α : Type} (P : List α) (p : α) : (P ++ [p])[P.length]? = some p := by simp
theorem snoc_cut {α : Type} (P : List α) (p : α) : (P ++ [p]).take P.length = P := by simp
theorem snoc_set {α : Type} (P : List α) (p q : α) : (P ++ [p]).set P.length q = P ++ [q] := by simp

/-- whose truths lie in memory of the call's own -/
def tcells (l : List Bool) : List Value := l.map .bool
def QB (w : World) (B : Nat) (v : Value) (l : List Bool) : Prop := QR w B 4 v (tcells l)
theorem tcells_length (l : List Bool) : (tcells l).length = l.length := by simp [tcells]
theorem wp_pushQB {ops : Array Oper} {rest : List Oper} {o : Oper} {a : Act} {w : World} {Q : Exit → Act → World → Prop} (hgd : o.guard = none) (s x : Operand)
    (ho : o.op = .call { callee := .builtin .append, args := #[s, x], argTypes := #[41, 41] })
    (B : Nat) (v : Value) (l : List Bool) (hs : a.eval s = v) (hown : QB w B v l) (hB : B ≤ w.heap.size) (ad : Addr) (c : Nat) (y : Bool) (hx : a.eval x = .slice (some ad) 1 c) (hy : w.cell? ad = some (.bool y)) (hsz : l.length + 1 ≤ 8796093022208)
    (h : ∀ v' w', QB w' B v' (l ++ [y]) → w.grownBy w' v.ownBlock → NewO w v v' → wpList Try.prog ops Q rest (a.put o.dst v') w') : wpList Try.prog ops Q (o :: rest) a w := by
  obtain ⟨i0, hi, hz0, hz1, hz2⟩ := info_parts infoBl
  obtain ⟨v', w', hr, g1, g2, g3⟩ := QR.push (P := Try.prog) (t := 41) (ty := o.type) hown hB Try.underlying41 hi hz0 hz1 (by omega) rfl ad c _ hy rfl (by rw [tcells_length]; exact hsz)
  refine wpList_plain hgd fun K hK => ?_
  unfold Oper.wp
  simp [execOp, ho, resolve, invoke, builtin, hs, hx, hr, Result.andThen]
  refine hK _ _ (h v' w' ?_ g2 g3)
  unfold QB tcells
  rw [List.map_append]
  exact g1

end Go.Proofs.Ytlhipnklljjahaa
