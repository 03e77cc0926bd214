/-
  What a condition is taken apart into, its sources, and lists in order (layer 18): pure.
  Conditions: none.
-/
import Derived.Test.YtccjeclncmogiaaNo2
namespace Go.Proofs.Ytccjeclncmogiaa
set_option linter.unusedVariables false
set_option linter.unusedSimpArgs false

mutual
/-- the parts of a condition -/
def conj : Cd → List Cd
  | .mk op ty args vk vn vs tab col => conjA (.mk op ty args vk vn vs tab col) (decide (op = 17)) args
def conjA (self : Cd) (and : Bool) : List Cd → List Cd
  | [] => [self]
  | a :: r => conjB self and (conj a) r
def conjB (self : Cd) (and : Bool) (x : List Cd) : List Cd → List Cd
  | [] => [self]
  | b :: r => if and = true ∧ r = [] then x ++ conj b else [self]
end
theorem conj_and (ty vk vn tab col : Int) (vs : ByteArray) (a b : Cd) : conj (.mk 17 ty [a, b] vk vn vs tab col) = conj a ++ conj b := by
  simp [conj, conjA, conjB]
theorem conj_one {op ty vk vn tab col : Int} {vs : ByteArray} {args : List Cd} (h : op ≠ 17 ∨ args.length ≠ 2) : conj (.mk op ty args vk vn vs tab col) = [.mk op ty args vk vn vs tab col] := by
  match args, h with
  | [], h => simp [conj, conjA]
  | [a], h => simp [conj, conjA, conjB]
  | [a, b], h =>
    have h1 : op ≠ 17 := by
      rcases h with h | h
      · exact h
      · simp at h
    simp [conj, conjA, conjB, h1]
  | a :: b :: d :: r, h => simp [conj, conjA, conjB]
def Cd.op : Cd → Int
  | .mk op _ _ _ _ _ _ _ => op
def Cd.args : Cd → List Cd
  | .mk _ _ args _ _ _ _ _ => args
/-- no part is an AND of two -/
theorem conj_none : ∀ (N : Nat) (c : Cd), depC c < N → ∀ e ∈ conj c, ¬ (e.op = 17 ∧ e.args.length = 2)
  | 0, c, h => absurd h (by omega)
  | N + 1, .mk op ty args vk vn vs tab col, h => by
    intro e he
    by_cases hc : op = 17 ∧ args.length = 2
    · obtain ⟨rfl, h2⟩ := hc
      match args, h2 with
      | [a, b], _ =>
        rw [depC, depCL, depCL, depCL] at h
        rw [conj_and] at he
        rcases List.mem_append.1 he with he | he
        · exact conj_none N a (by omega) e he
        · exact conj_none N b (by omega) e he
    · rw [conj_one (by
        by_cases h1 : op = 17
        · exact .inr fun h2 => hc ⟨h1, h2⟩
        · exact .inl h1)] at he
      obtain rfl : e = _ := List.mem_singleton.1 he
      exact hc
mutual
/-- over which sources a code goes -/
def tabs : Cd → List Int
  | .mk op _ args _ _ _ tab _ => (if op = 22 then [tab] else []) ++ tabsL args
def tabsL : List Cd → List Int
  | [] => []
  | a :: r => tabs a ++ tabsL r
end
theorem tabsL_snoc : ∀ (l : List Cd) (e : Cd), tabsL (l ++ [e]) = tabsL l ++ tabs e
  | [], e => by simp [tabsL]
  | a :: r, e => by rw [List.cons_append, tabsL, tabsL, tabsL_snoc r e, List.append_assoc]
theorem tabsL_take {l : List Cd} {k : Nat} {e : Cd} (h : l[k]? = some e) : tabsL (l.take (k + 1)) = tabsL (l.take k) ++ tabs e := by
  rw [List.take_add_one, h]
  exact tabsL_snoc _ e
theorem tabs_len : ∀ (N : Nat) (c : Cd), depC c < N → (tabs c).length ≤ szC c
  | 0, c, h => absurd h (by omega)
  | N + 1, .mk op ty args vk vn vs tab col, h => by
    rw [depC] at h
    rw [tabs, szC, List.length_append]
    have hl : ∀ l : List Cd, depCL l < N → (tabsL l).length ≤ szCL l := by
      intro l
      induction l with
      | nil => intro _; simp [tabsL, szCL]
      | cons a r ih =>
        intro hr
        rw [depCL] at hr
        rw [tabsL, szCL, List.length_append]
        have h1 := tabs_len N a (by omega)
        have h2 := ih (by omega)
        omega
    have := hl args (by omega)
    split <;> simp <;> omega
mutual
/-- does a code go over a source? -/
def over (t : Int) : Cd → Bool
  | .mk op _ args _ _ _ tab _ => (decide (op = 22) && decide (tab = t)) || overL t args
def overL (t : Int) : List Cd → Bool
  | [] => false
  | a :: r => over t a || overL t r
end
theorem overL_any (t : Int) : ∀ l : List Cd, overL t l = l.any (over t)
  | [] => by simp [overL]
  | a :: r => by rw [overL, overL_any t r, List.any_cons]
/-- two lists that rise and have the same elements are one -/
theorem rise_eq : ∀ {l r : List Int}, l.Pairwise (fun a b => a < b) → r.Pairwise (fun a b => a < b) → (∀ x, x ∈ l ↔ x ∈ r) → l = r
  | [], [], _, _, _ => rfl
  | [], b :: r, _, _, h => absurd ((h b).2 (List.mem_cons_self ..)) (by simp)
  | a :: l, [], _, _, h => absurd ((h a).1 (List.mem_cons_self ..)) (by simp)
  | a :: l, b :: r, h1, h2, h => by
    rw [List.pairwise_cons] at h1 h2
    have hab : a = b := by
      rcases List.mem_cons.1 ((h a).1 (List.mem_cons_self ..)) with e | e
      · exact e
      · rcases List.mem_cons.1 ((h b).2 (List.mem_cons_self ..)) with e' | e'
        · exact e'.symm
        · have := h1.1 b e'
          have := h2.1 a e
          omega
    subst hab
    congr 1
    refine rise_eq h1.2 h2.2 fun x => ?_
    have hx := h x
    rw [List.mem_cons, List.mem_cons] at hx
    constructor
    · intro hm
      rcases hx.1 (.inr hm) with e | e
      · have := h1.1 x hm
        omega
      · exact e
    · intro hm
      rcases hx.2 (.inr hm) with e | e
      · have := h2.1 x hm
        omega
      · exact e
/-- what stands ahead of x, x where it was met, and what stands behind -/
def addO (x : Int) (l : List Int) : List Int := l.filter (fun y => decide (y < x)) ++ (if l.any (fun y => decide (x < y)) = true then [x] else []) ++ l.filter (fun y => decide (x < y))
/-- a list that rises with one more -/
def addR (l : List Int) (x : Int) : List Int := if x ∈ l then l else l.filter (fun y => decide (y < x)) ++ x :: l.filter (fun y => decide (x < y))
theorem addO_nil (x : Int) : addO x [] = [] := by simp [addO]
theorem any_gt {x : Int} {l : List Int} (h : l.any (fun y => decide (x < y)) = false) : l.filter (fun y => decide (x < y)) = [] := by
  rw [List.filter_eq_nil_iff]
  intro y hy hc
  rw [List.any_eq_false] at h
  exact h y hy hc
/-- one that is greater -/
theorem addO_gt {x y : Int} {l : List Int} (h : x < y) : addO x (l ++ [y]) = (if l.any (fun y => decide (x < y)) = true then addO x l else addO x l ++ [x]) ++ [y] := by
  unfold addO
  rw [List.filter_append, List.filter_append, List.any_append]
  have h1 : [y].filter (fun z => decide (z < x)) = [] := by simp; omega
  have h2 : [y].filter (fun z => decide (x < z)) = [y] := by simp [h]
  have h3 : [y].any (fun z => decide (x < z)) = true := by simp [h]
  rw [h1, h2, h3]
  cases c : l.any (fun y => decide (x < y)) with
  | true => simp
  | false => simp [any_gt c]
/-- one that is less, where none was greater -/
theorem addO_lt {x y : Int} {l : List Int} (h : y < x) (hn : l.any (fun y => decide (x < y)) = false) : addO x (l ++ [y]) = addO x l ++ [y] ∧ (l ++ [y]).any (fun y => decide (x < y)) = false := by
  have h3 : [y].any (fun z => decide (x < z)) = false := by simp; omega
  constructor
  · unfold addO
    rw [List.filter_append, List.filter_append, List.any_append, hn, h3, any_gt hn]
    have h1 : [y].filter (fun z => decide (z < x)) = [y] := by simp [h]
    have h2 : [y].filter (fun z => decide (x < z)) = [] := by simp; omega
    rw [h1, h2]
    simp
  · rw [List.any_append, hn, h3]; rfl
/-- in a list that rises none is greater ahead of one that is less -/
theorem rise_none {x y : Int} {l : List Int} {k : Nat} (hs : l.Pairwise (fun a b => a < b)) (hy : l[k]? = some y) (h : y < x) : (l.take k).any (fun y => decide (x < y)) = false := by
  rw [List.any_eq_false]
  intro z hz
  obtain ⟨j, hj⟩ := List.getElem?_of_mem hz
  rw [List.getElem?_take] at hj
  split at hj
  · rename_i hjk
    have hlk := (List.getElem?_eq_some_iff.1 hy).1
    have h2 := List.pairwise_iff_getElem.1 hs j k (by omega) hlk hjk
    rw [List.getElem?_eq_getElem (by omega)] at hj
    rw [List.getElem?_eq_getElem hlk] at hy
    simp only [Option.some.injEq] at hj hy
    simp
    omega
  · cases hj
theorem addR_end {x : Int} {l : List Int} (h : x ∉ l) : addR l x = if l.any (fun y => decide (x < y)) = true then addO x l else addO x l ++ [x] := by
  unfold addR addO
  rw [if_neg h]
  cases c : l.any (fun y => decide (x < y)) with
  | true => simp
  | false => simp [any_gt c]
theorem addR_mem (l : List Int) (x y : Int) : y ∈ addR l x ↔ y ∈ l ∨ y = x := by
  unfold addR
  split
  · rename_i h
    constructor
    · exact .inl
    · rintro (h1 | rfl)
      · exact h1
      · exact h
  · rw [List.mem_append, List.mem_cons, List.mem_filter, List.mem_filter]
    simp only [decide_eq_true_eq]
    constructor
    · rintro (h | h | h)
      · exact .inl h.1
      · exact .inr h
      · exact .inl h.1
    · rintro (h | h)
      · rcases Int.lt_trichotomy y x with g | g | g
        · exact .inl ⟨h, g⟩
        · exact .inr (.inl g)
        · exact .inr (.inr ⟨h, g⟩)
      · exact .inr (.inl h)
theorem addR_rise {l : List Int} {x : Int} (h : l.Pairwise (fun a b => a < b)) : (addR l x).Pairwise (fun a b => a < b) := by
  unfold addR
  split
  · exact h
  · rw [List.pairwise_append, List.pairwise_cons]
    refine ⟨h.sublist List.filter_sublist, ⟨fun y hy => ?_, h.sublist List.filter_sublist⟩, fun a ha b hb => ?_⟩
    · have := (List.mem_filter.1 hy).2
      simpa using this
    · have h1 := (List.mem_filter.1 ha).2
      simp only [decide_eq_true_eq] at h1
      rcases List.mem_cons.1 hb with rfl | hb
      · exact h1
      · have h2 := (List.mem_filter.1 hb).2
        simp only [decide_eq_true_eq] at h2
        omega
theorem addR_len (l : List Int) (x : Int) : (addR l x).length ≤ l.length + 1 := by
  unfold addR
  split
  · omega
  · rw [List.length_append, List.length_cons]
    have : ∀ r : List Int, (r.filter (fun y => decide (y < x))).length + (r.filter (fun y => decide (x < y))).length ≤ r.length := by
      intro r
      induction r with
      | nil => simp
      | cons a r ih =>
        rw [List.filter_cons, List.filter_cons]
        by_cases h1 : a < x
        · have h2 : ¬ x < a := by omega
          simp [h1, h2]; omega
        · by_cases h2 : x < a
          · simp [h1, h2]; omega
          · simp [h1, h2]; omega
    have := this l
    omega

end Go.Proofs.Ytccjeclncmogiaa
