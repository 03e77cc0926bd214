/-
  A row of edges copied, and cut to one of each: contracts over the translation.
  Conditions: the edges lie in memory.
-/
import Derived.Test.YtlhipnklljjahaaWt9
namespace Go.Proofs.Ytlhipnklljjahaa
open Go.RowKit Go.Joins Go.ChangeShapes Go.WideShapes
set_option linter.unusedVariables false
set_option linter.unnecessarySimpa false
set_option linter.unusedSimpArgs false

def edcells : List Eg → List Value
  | [] => []
  | e :: r => [.int .i64 e.1, .int .i64 e.2] ++ edcells r
theorem edcells_length (l : List Eg) : (edcells l).length = l.length * 2 := by
  induction l with
  | nil => rfl
  | cons v r ih => simp [edcells, ih]; omega
theorem edcells_app (l r : List Eg) : edcells (l ++ r) = edcells l ++ edcells r := by
  induction l with
  | nil => rfl
  | cons v l ih => simp only [List.cons_append, edcells, ih, List.append_assoc]
theorem edcells_at (l : List Eg) (i : Nat) (p : Eg) (h : l[i]? = some p) : (edcells l)[i * 2]? = some (.int .i64 p.1) ∧ (edcells l)[i * 2 + 1]? = some (.int .i64 p.2) := by
  induction l generalizing i with
  | nil => simp at h
  | cons u l ih =>
    unfold edcells
    cases i with
    | zero =>
      simp only [List.getElem?_cons_zero, Option.some.injEq] at h
      subst h
      exact ⟨rfl, rfl⟩
    | succ i =>
      rw [List.getElem?_cons_succ] at h
      obtain ⟨h1, h2⟩ := ih i h
      have e : ∀ j, ([Value.int .i64 u.1, .int .i64 u.2] ++ edcells l)[(i + 1) * 2 + j]? = (edcells l)[i * 2 + j]? := by
        intro j
        rw [List.getElem?_append_right (by simp; omega)]
        congr 1
        simp
        omega
      exact ⟨(e 0).trans h1, (e 1).trans h2⟩
theorem edcells_one : ∀ (l : List Eg), ∀ u ∈ edcells l, u.oneCell' = true
  | [], u, hu => by cases hu
  | p :: l, u, hu => by
    unfold edcells at hu
    rcases List.mem_append.1 hu with h | h
    · simp only [List.mem_cons, List.not_mem_nil, or_false] at h
      rcases h with rfl | rfl <;> rfl
    · exact edcells_one l u h
theorem edcells_inv {l : List Eg} {j : Nat} {u : Value} (h : (edcells l)[j]? = some u) : ∃ x y, l[j / 2]? = some (x, y) ∧ ((j = j / 2 * 2 ∧ u = .int .i64 x) ∨ (j = j / 2 * 2 + 1 ∧ u = .int .i64 y)) := by
  have hl := (List.getElem?_eq_some_iff.1 h).1
  rw [edcells_length] at hl
  obtain ⟨⟨x, y⟩, hx⟩ : ∃ e, l[j / 2]? = some e := ⟨_, List.getElem?_eq_getElem (by omega)⟩
  obtain ⟨a, b⟩ := edcells_at l _ _ hx
  refine ⟨x, y, hx, ?_⟩
  by_cases c : j = j / 2 * 2
  · left
    refine ⟨c, ?_⟩
    rw [← c, h] at a
    injection a
  · right
    have c' : j = j / 2 * 2 + 1 := by omega
    refine ⟨c', ?_⟩
    rw [← c', h] at b
    injection b
theorem IsEg.news {w : World} {b off : Nat} {E : List Eg} (h : IsEg w b off E) : ∀ j u, (edcells E)[j]? = some u → w.cell? ⟨b, off + j, none⟩ = some u := by
  intro j u hu
  obtain ⟨x, y, hx, ⟨e, rfl⟩ | ⟨e, rfl⟩⟩ := edcells_inv hu
  · have := h.c0 _ x y hx; rw [e]; exact this
  · have := h.c1 _ x y hx; rw [e]; exact this
/-- edges in memory of the call's own -/
def OwEd (w : World) (B : Nat) (v : Value) (l : List Eg) : Prop := w.ownsRow B 27 2 v l.length (edcells l) ∧ v ≠ .slice none 0 0
theorem OwEd.form {w : World} {B : Nat} {v : Value} {l : List Eg} (h : OwEd w B v l) : ∃ g cap, v = .slice (some ⟨g, 0, none⟩) l.length cap ∧ B ≤ g ∧ l.length ≤ cap ∧ cap ≤ maxLen ∧ EdW w g 0 l := by
  obtain ⟨⟨h1, h2⟩, h3⟩ := h
  rcases h2 with ⟨e, _⟩ | ⟨g, cap, cur, e, hb, hg, hn, hc, hs, ht⟩
  · exact absurd e h3
  · have hlt := (Array.getElem?_eq_some_iff.1 hg).1
    have key : ∀ j u, (edcells l)[j]? = some u → w.cell? ⟨g, 0 + j, none⟩ = some u := by
      intro j u hj
      rw [Nat.zero_add, cell_of_block hg j]
      rw [← ht, List.getElem?_take] at hj
      split at hj
      · rw [← Array.getElem?_toList]; exact hj
      · cases hj
    refine ⟨g, cap, e, hb, hn, hc, ⟨⟨fun _ => hlt, fun i x y hx => key _ _ (edcells_at l i _ hx).1, fun i x y hx => key _ _ (edcells_at l i _ hx).2⟩, fun j hj => unfrozen_of_block hg _, hlt⟩⟩
theorem infoEd : (Try.prog.info? 27).map (fun i => (i.zero, i.size, i.bytes)) = some (some (.agg #[.int .i64 0, .int .i64 0]), 2, 16) := by kernel_rfl
theorem clone_any (w : World) (b off cap : Nat) (E : List Eg) (h : IsEg w b off E) (hm : E.length ≤ 4294967296) :
    Calls Try.prog 23 #[.slice (some ⟨b, off, none⟩) E.length cap] w fun e w' => ∃ v', e = .returned v' ∧ OwEd w' w.heap.size v' E ∧ Below w.heap.size w w' := by
  obtain ⟨i0, hi, hz0, hz1, hz2⟩ := info_parts infoEd
  refine (AnyE.slices_Clone clLays i0 _ 2 16 hi hz0 hz1 hz2 rfl (by decide) Try.sizeOf27 b off E.length cap (edcells E) w (edcells_length E) (by unfold maxLen; omega) (by omega) h.news (edcells_one E)).mono ?_
  rintro e w' ⟨v', rfl, h1, h2, h3⟩
  exact ⟨v', rfl, ⟨h1, h2⟩, h3⟩

theorem run_clear_e (w : World) (ty : TypeId) (g o n c : Nat) (hn : 0 < n) (hc : ∀ j, j < n * 2 → (w.cell? ⟨g, o + j, none⟩).isSome = true) (hf : ∀ j, j < n * 2 → w.frozen? ⟨g, o + j, none⟩ = false) :
    ∃ w', (Builtin.clear_ #[22] ty #[.slice (some ⟨g, o, none⟩) n c]).run Try.prog w = .ok (.tuple #[]) w' ∧ Frm (fun k => k = g) w w' ∧ (∀ i, i < o → w'.cell? ⟨g, i, none⟩ = w.cell? ⟨g, i, none⟩) ∧ ∀ a, w'.frozen? a = w.frozen? a := by
  obtain ⟨vs, hvs⟩ : ∃ vs, (Builtin.zeroCells (Value.agg #[.int .i64 0, .int .i64 0]).cells n).toList = vs := ⟨_, rfl⟩
  have hcs : (Value.agg #[.int .i64 0, .int .i64 0]).cells = #[.int .i64 0, .int .i64 0] := rfl
  have hl : vs.length = n * 2 := by rw [← hvs, hcs]; simp [Builtin.zeroCells]
  have h1 : ∀ v ∈ vs, v.oneCell' = true := by
    intro v hv
    rw [← hvs, hcs] at hv
    simp only [Builtin.zeroCells, Array.toList_map, List.mem_map] at hv
    obtain ⟨i, -, rfl⟩ := hv
    rcases Nat.mod_two_eq_zero_or_one i with e | e
    · simp [e, Value.oneCell']
    · simp [e, Value.oneCell']
  have hst := run_storeCells_cells (P := Try.prog) g o vs 0 w (by rw [hl]; simpa using hc) (by rw [hl]; simpa using hf) h1
  obtain ⟨i0, hi, hz0, hz1, hz2⟩ := info_parts infoEd
  have hv : (zeroValue 27).run Try.prog w = .ok (.agg #[.int .i64 0, .int .i64 0]) w := by simp [zeroValue, typeInfo, hi, hz0]
  obtain ⟨m, rfl⟩ : ∃ m, n = m + 1 := ⟨n - 1, by omega⟩
  refine ⟨w.setCells g o vs, ?_, ?_, fun i hi' => World.cell?_setCells_out g vs o w _ (fun _ _ => .inl hi'), fun a => World.frozen?_setCells g vs o w a⟩
  · simp [Builtin.clear_, run_underlying Try.underlying22, hv, hvs, hst]
  · have : ∀ (vs : List Value) (o : Nat) (w : World), Frm (fun k => k = g) w (w.setCells g o vs) := by
      intro vs
      induction vs with
      | nil => intro o w; exact Frm.refl _ w
      | cons v r ih => intro o w; exact (Frm.set1 (F := fun k => k = g) w rfl o v).trans (ih _ _) (New.refl _ _)
    exact this vs o w
theorem EdW.cells {w : World} {g off : Nat} {E : List Eg} (h : EdW w g off E) : ∀ j, j < E.length * 2 → (w.cell? ⟨g, off + j, none⟩).isSome = true := by
  intro j hj
  have hu : ∃ u, (edcells E)[j]? = some u := ⟨_, List.getElem?_eq_getElem (by rw [edcells_length]; exact hj)⟩
  obtain ⟨u, hu⟩ := hu
  rw [h.eg.news j u hu]
  rfl
theorem EdW.put {w : World} {g off : Nat} {E : List Eg} (h : EdW w g off E) (k : Nat) (x y : Int) (hk : k < E.length) : EdW ((w.setCell ⟨g, off + k * 2, none⟩ (.int .i64 x)).setCell ⟨g, off + k * 2 + 1, none⟩ (.int .i64 y)) g off (E.set k (x, y)) := by
  have hs0 := h.cells (k * 2) (by omega)
  have hs1 := h.cells (k * 2 + 1) (by omega)
  rw [← Nat.add_assoc] at hs1
  refine ⟨⟨fun _ => by simpa [World.setCell] using h.lt, fun i a b hi => ?_, fun i a b hi => ?_⟩, fun j hj => ?_, by simpa [World.setCell] using h.lt⟩
  · rw [List.getElem?_set] at hi
    rw [World.cell?_setCell_other _ _ _ _ (fun e => by injection e with e1 e2; omega)]
    by_cases c : k = i
    · subst c
      rw [if_pos rfl, if_pos hk] at hi
      injection hi with hi
      injection hi with h1 h2
      subst h1 h2
      obtain ⟨u, hu⟩ := Option.isSome_iff_exists.1 hs0
      rw [World.cell?_setCell_same _ _ _ hu]
    · rw [if_neg c] at hi
      rw [World.cell?_setCell_other _ _ _ _ (fun e => by injection e with e1 e2; omega)]
      exact h.eg.c0 i a b hi
  · rw [List.getElem?_set] at hi
    by_cases c : k = i
    · subst c
      rw [if_pos rfl, if_pos hk] at hi
      injection hi with hi
      injection hi with h1 h2
      subst h1 h2
      obtain ⟨u, hu⟩ := Option.isSome_iff_exists.1 hs1
      have hu2 : (w.setCell ⟨g, off + k * 2, none⟩ (.int .i64 x)).cell? ⟨g, off + k * 2 + 1, none⟩ = some u := by
        rw [World.cell?_setCell_other _ _ _ _ (fun e => by injection e with e1 e2; omega)]; exact hu
      rw [World.cell?_setCell_same _ _ _ hu2]
    · rw [if_neg c] at hi
      rw [World.cell?_setCell_other _ _ _ _ (fun e => by injection e with e1 e2; omega), World.cell?_setCell_other _ _ _ _ (fun e => by injection e with e1 e2; omega)]
      exact h.eg.c1 i a b hi
  · rw [List.length_set] at hj
    simpa using h.fr j hj

end Go.Proofs.Ytlhipnklljjahaa
