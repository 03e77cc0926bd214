/-
  The program's search for a cycle: its state as lists, and in memory.
  Conditions: none.
-/
import Derived.Test.YtlhipnklljjahaaWt17
namespace Go.Proofs.Ytlhipnklljjahaa
open Go.RowKit Go.Joins Go.ChangeShapes Go.WideShapes
open Go.MapKept
set_option linter.unusedVariables false
set_option linter.unnecessarySimpa false
set_option linter.unusedSimpArgs false

def wayM (M : Int → List Int) (P : List Int) : Way := P.reverse.map fun x => (x, M x)
theorem wayM_snoc (M : Int → List Int) (P : List Int) (x : Int) : wayM M (P ++ [x]) = (x, M x) :: wayM M P := by simp [wayM]
theorem nodes_wayM (M : Int → List Int) (P : List Int) : nodes (wayM M P) = P := by simp [nodes, wayM, Function.comp_def]
theorem wayM_congr {M M' : Int → List Int} {P : List Int} (h : ∀ x ∈ P, M' x = M x) : wayM M' P = wayM M P := by
  unfold wayM
  refine List.map_congr_left fun x hx => ?_
  rw [h x (List.mem_reverse.1 hx)]
def setM (M : Int → List Int) (x : Int) (l : List Int) : Int → List Int := fun z => if z = x then l else M z
/-- those met are passed over -/
theorem Res.skips {S : Int → List Int} {a x : Int} {rest : Way} {met o : List Int} (ha : a ∉ S x) : ∀ (l r : List Int), (∀ y ∈ l, y ∈ met) → Res S a ((x, r) :: rest) met o → Res S a ((x, l ++ r) :: rest) met o
  | [], r, _, h => h
  | y :: l, r, hl, h => .skip x y (l ++ r) rest met o ha (hl y (List.mem_cons_self ..)) (Res.skips ha l r (fun z hz => hl z (List.mem_cons_of_mem _ hz)) h)
structure SeI (E : List Eg) (a : Int) (M : Int → List Int) (P met : List Int) : Prop where
  res : ∀ o, Res (Sx E) a (wayM M P) met o → Res (Sx E) a [(a, Sx E a)] [a] o
  nd : P.Nodup
  inm : ∀ x ∈ P, x ∈ met
  fresh : ∀ x, x ∉ met → M x = Sx E x
  sub : ∀ x, (M x).Sublist (Sx E x)
  low : ∀ P0 x, P = P0 ++ [x] → ∀ z ∈ P0, a ∉ Sx E z
  top : ∀ P0 x, P = P0 ++ [x] → M x = Sx E x ∨ a ∉ Sx E x
  le : P.length ≤ met.length
  un : met.length + unmet E met ≤ E.length + 1
def msS (E : List Eg) (P met : List Int) : Nat := 2 * unmet E met + P.length
theorem snoc_inj {α : Type} {P Q : List α} {x y : α} (h : P ++ [x] = Q ++ [y]) : P = Q ∧ x = y := by
  have h1 := congrArg List.reverse h
  simp at h1
  exact ⟨h1.2, h1.1⟩
theorem SeI.start (E : List Eg) (a : Int) : SeI E a (Sx E) [a] [a] := by
  refine ⟨fun o h => by simpa [wayM] using h, by simp, fun x hx => hx, fun x _ => rfl, fun x => List.Sublist.refl _, fun P0 x h z hz => ?_, fun P0 x h => .inl rfl, Nat.le_refl _, ?_⟩
  · have := congrArg List.length h
    simp at this
    rw [this] at hz
    simp at hz
  · have := unmet_le E [a]
    simp
    omega
theorem SeI.waits {E : List Eg} {a : Int} {M : Int → List Int} {P met : List Int} {x : Int} (h : SeI E a M (P ++ [x]) met) : a ∈ M x ↔ a ∈ Sx E x := by
  constructor
  · exact fun hc => (h.sub x).subset hc
  · intro hc
    rcases h.top P x rfl with e | e
    · rw [e]; exact hc
    · exact absurd hc e
theorem SeI.found {E : List Eg} {a : Int} {M : Int → List Int} {P met : List Int} {x : Int} (h : SeI E a M (P ++ [x]) met) (ha : a ∈ M x) : Res (Sx E) a [(a, Sx E a)] [a] (P ++ [x]) := by
  refine h.res _ ?_
  have h2 : Res (Sx E) a (wayM M (P ++ [x])) met (nodes (wayM M (P ++ [x]))) := by
    rw [wayM_snoc]
    exact .found _ _ _ _ (h.waits.1 ha)
  rw [nodes_wayM] at h2
  exact h2
theorem SeI.done {E : List Eg} {a : Int} {M : Int → List Int} {met : List Int} (h : SeI E a M [] met) : Res (Sx E) a [(a, Sx E a)] [a] [] := h.res _ (.none met)
theorem SeI.pop {E : List Eg} {a : Int} {M : Int → List Int} {P met : List Int} {x : Int} (h : SeI E a M (P ++ [x]) met) (ha : a ∉ M x) (hl : ∀ y ∈ M x, y ∈ met) : SeI E a (setM M x []) P met ∧ msS E P met < msS E (P ++ [x]) met := by
  have haS : a ∉ Sx E x := fun hc => ha (h.waits.2 hc)
  have hxP : x ∉ P := by
    have := h.nd
    rw [List.nodup_append] at this
    exact fun hc => this.2.2 x hc x (by simp) rfl
  have hw : wayM (setM M x []) P = wayM M P := wayM_congr fun z hz => by unfold setM; rw [if_neg (fun e => hxP (by rw [← e]; exact hz))]
  refine ⟨⟨fun o ho => h.res o ?_, (List.nodup_append.1 h.nd).1, fun z hz => h.inm z (List.mem_append.2 (.inl hz)), fun z hz => ?_, fun z => ?_, fun P0 z e y hy => ?_, fun P0 z e => ?_, by have := h.le; simp at this; omega, h.un⟩, by unfold msS; simp⟩
  · rw [wayM_snoc]
    rw [hw] at ho
    have := Res.skips (S := Sx E) (rest := wayM M P) haS (M x) [] hl (.pop x _ _ _ haS ho)
    rwa [List.append_nil] at this
  · unfold setM
    split
    · rename_i e; subst e; exact absurd (h.inm z (by simp)) hz
    · exact h.fresh z hz
  · unfold setM
    split
    · exact List.nil_sublist _
    · exact h.sub z
  · exact h.low P x rfl y (by rw [e]; exact List.mem_append.2 (.inl hy))
  · exact .inr (h.low P x rfl z (by rw [e]; simp))
theorem SeI.enter {E : List Eg} {a : Int} {M : Int → List Int} {P met : List Int} {x : Int} (h : SeI E a M (P ++ [x]) met) (ha : a ∉ M x) {i : Nat} {y : Int} (hy : (M x)[i]? = some y) (hym : y ∉ met) (hl : ∀ z ∈ (M x).take i, z ∈ met) :
    SeI E a (setM M x ((M x).drop (i + 1))) (P ++ [x] ++ [y]) (met ++ [y]) ∧ msS E (P ++ [x] ++ [y]) (met ++ [y]) < msS E (P ++ [x]) met := by
  have haS : a ∉ Sx E x := fun hc => ha (h.waits.2 hc)
  have hxm : x ∈ met := h.inm x (by simp)
  have hyx : y ≠ x := fun e => hym (by rw [e]; exact hxm)
  have hyE : (x, y) ∈ E := (mem_Sx ..).1 ((h.sub x).subset (List.mem_of_getElem? hy))
  have hxP : x ∉ P := by
    have := h.nd
    rw [List.nodup_append] at this
    exact fun hc => this.2.2 x hc x (by simp) rfl
  have hme : ∀ z, z ∈ met ++ [y] ↔ z ∈ y :: met := fun z => by simp [or_comm]
  have hul := unmet_lt hyE hym
  have hue := unmet_eq E hme
  have hw : wayM (setM M x ((M x).drop (i + 1))) P = wayM M P := wayM_congr fun z hz => by unfold setM; rw [if_neg (fun e => hxP (by rw [← e]; exact hz))]
  have hM1 : setM M x ((M x).drop (i + 1)) y = Sx E y := by unfold setM; rw [if_neg hyx]; exact h.fresh y hym
  have hM2 : setM M x ((M x).drop (i + 1)) x = (M x).drop (i + 1) := by unfold setM; rw [if_pos rfl]
  have hsp : M x = (M x).take i ++ y :: (M x).drop (i + 1) := by
    obtain ⟨hlt, he⟩ := List.getElem?_eq_some_iff.1 hy
    rw [← he, List.getElem_cons_drop]
    exact (List.take_append_drop i _).symm
  refine ⟨⟨fun o ho => h.res o ?_, ?_, fun z hz => ?_, fun z hz => ?_, fun z => ?_, fun P0 z e u hu => ?_, fun P0 z e => ?_, by have := h.le; simp at this ⊢; omega, by have := h.un; rw [hue]; simp; omega⟩, ?_⟩
  · rw [wayM_snoc, wayM_snoc, hw, hM1, hM2] at ho
    rw [wayM_snoc, hsp]
    exact Res.skips haS _ _ hl (.enter _ _ _ _ _ _ haS hym (ho.meq _ hme))
  · rw [List.nodup_append]
    refine ⟨h.nd, by simp, fun z hz u hu e => ?_⟩
    simp at hu
    subst hu e
    exact hym (h.inm z hz)
  · rcases List.mem_append.1 hz with g | g
    · exact List.mem_append.2 (.inl (h.inm z g))
    · exact List.mem_append.2 (.inr g)
  · unfold setM
    rw [if_neg (fun e => hz (List.mem_append.2 (.inl (by rw [e]; exact hxm))))]
    exact h.fresh z (fun hc => hz (List.mem_append.2 (.inl hc)))
  · unfold setM
    split
    · rename_i e; rw [e]; exact (List.drop_sublist _ _).trans (h.sub x)
    · exact h.sub z
  · obtain ⟨e1, e2⟩ := snoc_inj e
    subst e1
    rcases List.mem_append.1 hu with g | g
    · exact h.low P x rfl u g
    · simp at g; rw [g]; exact haS
  · obtain ⟨e1, e2⟩ := snoc_inj e
    subst e2
    exact .inl hM1
  · unfold msS
    rw [hue]
    simp
    omega

/-- a map of lists that are only read -/
structure GrS (B : Nat) (w : World) (b : Nat) (f : Int → Option Value) (n : Nat) (M : Int → List Int) : Prop where
  mp : IMap (.int .i64) ik w b f n
  row : ∀ x, QI w B ((f x).getD nilV) (M x)
theorem GrM.grs {B : Nat} {w : World} {b : Nat} {f : Int → Option Value} {n : Nat} {M : Int → List Int} (h : GrM B w b f n M) : GrS B w b f n M := ⟨h.mp, h.row⟩
theorem GrS.step {B : Nat} {w w1 : World} {b : Nat} {f : Int → Option Value} {n : Nat} {M : Int → List Int} {F : Bl} (h : GrS B w b f n M) (hf : Frm F w w1) (hb : ¬ F b) (hr : ∀ x k, ((f x).getD nilV).ownBlock = some k → ¬ F k) : GrS B w1 b f n M :=
  ⟨h.mp.step hf hb, fun x => (h.row x).step hf (hr x)⟩
theorem GrS.look {B : Nat} {w : World} {b : Nat} {f : Int → Option Value} {n : Nat} {M : Int → List Int} (h : GrS B w b f n M) (x : Int) : (Instr.lookup 33 (.map (some b)) (.int .i64 x) false).run Try.prog w = .ok ((f x).getD nilV) w := by
  have := h.mp.look (P := Try.prog) (t := 33) Try.underlying33 Try.underlying3 ik_key (z := nilV) rfl x false
  simpa using this
/-- another list under a key: one that lies there -/
theorem GrS.put {B : Nat} {w : World} {b : Nat} {f : Int → Option Value} {n : Nat} {M : Int → List Int} (h : GrS B w b f n M) (x : Int) {v : Value} {l : List Int} (q : QI w B v l) :
    ∃ w' n', (Instr.mapUpdate 33 (.map (some b)) (.int .i64 x) v).run Try.prog w = .ok () w' ∧ GrS B w' b (fun k => if k = x then some v else f k) n' (setM M x l) ∧ Frm (fun k => k = b) w w' := by
  obtain ⟨w', hr, m, g, -⟩ := h.mp.put (P := Try.prog) (t := 33) Try.underlying33 Try.underlying3 ik_key ik_inj x v
  have hf : Frm (fun k => k = b) w w' := Frm.grown (Frm.refl _ w) g (fun k hk => by injection hk with hk; exact .inl hk.symm)
  refine ⟨w', _, hr, ⟨m, fun z => ?_⟩, hf⟩
  unfold setM
  split
  · exact q.step hf (fun k hk e => QR.not_map q h.mp (by rw [hk, e]))
  · exact (h.row z).step hf (fun k hk e => QR.not_map (h.row z) h.mp (by rw [hk, e]))
theorem GrS.del {B : Nat} {w : World} {b : Nat} {f : Int → Option Value} {n : Nat} {M : Int → List Int} (h : GrS B w b f n M) (x : Int) (ty : TypeId) :
    ∃ w' n', (Builtin.delete_ #[33, 3] ty #[.map (some b), .int .i64 x]).run Try.prog w = .ok (.tuple #[]) w' ∧ GrS B w' b (fun k => if k = x then none else f k) n' (setM M x []) ∧ Frm (fun k => k = b) w w' := by
  obtain ⟨w', hr, m, g, -⟩ := h.mp.del (P := Try.prog) (t := 33) (ty := ty) Try.underlying33 Try.underlying3 ik_key ik_inj x
  have hf : Frm (fun k => k = b) w w' := Frm.grown (Frm.refl _ w) g (fun k hk => by injection hk with hk; exact .inl hk.symm)
  refine ⟨w', _, hr, ⟨m, fun z => ?_⟩, hf⟩
  unfold setM
  split
  · exact QI.nil _ _
  · exact (h.row z).step hf (fun k hk e => QR.not_map (h.row z) h.mp (by rw [hk, e]))
/-- a set of whole numbers in memory -/
def SetM (w : World) (b : Nat) (met : List Int) : Prop := ∃ f n, IMap (.int .i64) ik w b f n ∧ ∀ x, f x = if x ∈ met then some (.agg #[]) else none
theorem SetM.step {w w1 : World} {b : Nat} {met : List Int} {F : Bl} (h : SetM w b met) (hf : Frm F w w1) (hb : ¬ F b) : SetM w1 b met := by
  obtain ⟨f, n, h1, h2⟩ := h
  exact ⟨f, n, h1.step hf hb, h2⟩
theorem SetM.lt {w : World} {b : Nat} {met : List Int} (h : SetM w b met) : b < w.heap.size := by obtain ⟨f, n, h1, -⟩ := h; exact h1.lt
theorem setm_made (w : World) (b : Nat) (hb : w.heap.size = b) : SetM (w.alloc (.map #[] 0)) b [] := ⟨_, _, imap_made (.int .i64) ik w b hb, fun _ => by simp⟩
theorem SetM.look {w : World} {b : Nat} {met : List Int} (h : SetM w b met) (x : Int) : (Instr.lookup 37 (.map (some b)) (.int .i64 x) true).run Try.prog w = .ok (.tuple #[.agg #[], .bool (decide (x ∈ met))]) w := by
  obtain ⟨f, n, h1, h2⟩ := h
  have := h1.look (P := Try.prog) (t := 37) Try.underlying37 Try.underlying3 ik_key (z := .agg #[]) rfl x true
  rw [h2 x] at this
  rw [this]
  by_cases c : x ∈ met <;> simp [c]
theorem SetM.put {w : World} {b : Nat} {met : List Int} (h : SetM w b met) (x : Int) : ∃ w', (Instr.mapUpdate 37 (.map (some b)) (.int .i64 x) (.agg #[])).run Try.prog w = .ok () w' ∧ SetM w' b (met ++ [x]) ∧ Frm (fun k => k = b) w w' := by
  obtain ⟨f, n, h1, h2⟩ := h
  obtain ⟨w', hr, m, g, -⟩ := h1.put (P := Try.prog) (t := 37) Try.underlying37 Try.underlying3 ik_key ik_inj x (.agg #[])
  refine ⟨w', hr, ⟨_, _, m, fun y => ?_⟩, Frm.grown (Frm.refl _ w) g (fun k hk => by injection hk with hk; exact .inl hk.symm)⟩
  by_cases c : y = x
  · rw [if_pos c, if_pos (by simp [c])]
  · rw [if_neg c, h2]
    simp [c]

/-- the search in memory; w0: the world at its start -/
structure Sm (w0 wx : World) (B sb b mb : Nat) (f : Int → Option Value) (n : Nat) (M : Int → List Int) (v7 : Value) (P met : List Int) : Prop where
  frm : Frm (fun k => k = b) w0 wx
  gr : GrS B wx b f n M
  rl : ∀ x k, ((f x).getD nilV).ownBlock = some k → k < w0.heap.size
  mt : SetM wx mb met
  bxc : wx.heap[sb]? = some (.cells #[.map (some b), .map (some mb), v7] 39 (0, 0))
  wy : QI wx w0.heap.size v7 P
  ab : w0.heap.size ≤ sb ∧ w0.heap.size ≤ mb
  bw : b < w0.heap.size
section
variable {w0 wx wy : World} {B sb b mb n : Nat} {f : Int → Option Value} {M : Int → List Int} {v7 : Value} {P met : List Int}
theorem ty_is : (3 : TypeId) ≠ 39 := by decide
theorem Sm.apart (h : Sm w0 wx B sb b mb f n M v7 P met) {k : Nat} (hk : v7.ownBlock = some k) : k ≠ b ∧ k ≠ mb ∧ k ≠ sb ∧ w0.heap.size ≤ k := by
  obtain ⟨cur, hc⟩ := QR.kind h.wy hk
  obtain ⟨f', n', ⟨es', c2, h3, -⟩, -⟩ := h.mt
  refine ⟨?_, ?_, ?_, (h.wy.lt k hk).1⟩
  · have := (h.wy.lt k hk).1; have := h.bw; omega
  · rintro rfl; rw [hc] at h3; injection h3 with h3; cases h3
  · rintro rfl; have := h.bxc; rw [hc] at this; injection this with this; injection this with e1 e2; exact ty_is e2
theorem Sm.ne (h : Sm w0 wx B sb b mb f n M v7 P met) : sb ≠ mb := by
  rintro rfl
  obtain ⟨f', n', ⟨es', c2, h3, -⟩, -⟩ := h.mt
  have := h.bxc
  rw [h3] at this
  injection this with this
  cases this
theorem Sm.sl (h : Sm w0 wx B sb b mb f n M v7 P met) : sb < wx.heap.size := (Array.getElem?_eq_some_iff.1 h.bxc).1
theorem Sm.below (h : Sm w0 wx B sb b mb f n M v7 P met) (hb : Below wx.heap.size wx wy) : Sm w0 wy B sb b mb f n M v7 P met :=
  ⟨h.frm.step hb, h.gr.step (F := fun _ => False) (Frm.of_below hb) (fun h => h) (fun _ _ _ h => h), h.rl, h.mt.step (F := fun _ => False) (Frm.of_below hb) (fun h => h), (hb.block _ h.sl).trans h.bxc, h.wy.below hb, h.ab, h.bw⟩
theorem Sm.cells (h : Sm w0 wx B sb b mb f n M v7 P met) : wx.cell? ⟨sb, 0, none⟩ = some (.map (some b)) ∧ wx.cell? ⟨sb, 1, none⟩ = some (.map (some mb)) ∧ wx.cell? ⟨sb, 2, none⟩ = some v7 ∧ ∀ i, wx.frozen? ⟨sb, i, none⟩ = false :=
  ⟨by rw [cell_of_block h.bxc]; rfl, by rw [cell_of_block h.bxc]; rfl, by rw [cell_of_block h.bxc]; rfl, fun i => unfrozen_of_block h.bxc i⟩
theorem Sm.meet (h : Sm w0 wx B sb b mb f n M v7 P met) {met' : List Int} (hf : Frm (fun k => k = mb) wx wy) (hm : SetM wy mb met') : Sm w0 wy B sb b mb f n M v7 P met' := by
  have hab := h.ab
  have hbw := h.bw
  refine ⟨h.frm.trans hf (fun k hk => .inr (by omega)), h.gr.step hf (fun e => by omega) (fun x k hk e => ?_), h.rl, hm, (hf.heap h.sl h.ne).trans h.bxc, h.wy.step hf (fun k hk e => (h.apart hk).2.1 e), h.ab, h.bw⟩
  have := h.rl x k hk
  omega
theorem Sm.graph (h : Sm w0 wx B sb b mb f n M v7 P met) {f' : Int → Option Value} {n' : Nat} {M' : Int → List Int} (hf : Frm (fun k => k = b) wx wy) (hg : GrS B wy b f' n' M') (hr : ∀ x k, ((f' x).getD nilV).ownBlock = some k → k < w0.heap.size) : Sm w0 wy B sb b mb f' n' M' v7 P met := by
  have hab := h.ab
  have hbw := h.bw
  exact ⟨h.frm.trans hf (fun k hk => .inl hk), hg, hr, h.mt.step hf (fun e => by omega), (hf.heap h.sl (fun e => by omega)).trans h.bxc, h.wy.step hf (fun k hk e => (h.apart hk).1 e), h.ab, h.bw⟩
/-- the way turned, and handed to the search -/
theorem Sm.way (h : Sm w0 wx B sb b mb f n M v7 P met) {v' : Value} {P' : List Int} (g : wx.grownBy wy v7.ownBlock) (q : QI wy w0.heap.size v' P') : Sm w0 (wy.setCell ⟨sb, 2, none⟩ v') B sb b mb f n M v' P' met := by
  have hab := h.ab
  have hbw := h.bw
  have hf : Frm (fun k => v7.ownBlock = some k) wx wy := Frm.grown (F := fun k => v7.ownBlock = some k) (Frm.refl _ wx) g (fun k hk => .inl hk)
  have hx : wy.heap[sb]? = some (.cells #[.map (some b), .map (some mb), v7] 39 (0, 0)) := (hf.heap h.sl (fun hc => (h.apart hc).2.2.1 rfl)).trans h.bxc
  have hf2 : Frm (fun k => k = sb) wy (wy.setCell ⟨sb, 2, none⟩ v') := Frm.set1 (F := fun k => k = sb) wy rfl 2 v'
  have h1 : GrS B wy b f n M := h.gr.step hf (fun hc => (h.apart hc).1 rfl) (fun x k hk hc => by have := (h.apart hc).2.2.2; have := h.rl x k hk; omega)
  refine ⟨(h.frm.trans hf (fun k hk => .inr (h.apart hk).2.2.2)).trans hf2 (fun k hk => .inr (by omega)), h1.step hf2 (fun e => by omega) (fun x k hk e => by have := h.rl x k hk; omega), h.rl, (h.mt.step hf (fun hc => (h.apart hc).2.1 rfl)).step hf2 (fun e => h.ne e.symm), ?_, q.step hf2 (fun k hk e => ?_), h.ab, h.bw⟩
  · rw [setCell_eq_setRow wy sb 2 _ _ _ v' hx, setRow_heap wy sb _ _ _ _ hx]; rfl
  · obtain ⟨cur, hc⟩ := QR.kind q hk
    rw [e, hx] at hc
    injection hc with hc
    injection hc with e1 e2
    exact ty_is e2.symm
end

end Go.Proofs.Ytlhipnklljjahaa
