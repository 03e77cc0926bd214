/-
  Rows of structs of any kind, of the call's own: what lies in their cells, and append.
  Conditions: none.
-/
import Derived.Test.YtccjeclncmogiaaFrm
import Derived.Maps.AppendAt
namespace Go.Proofs.Ytccjeclncmogiaa
open Go.RowKit Go.Joins Go.ChangeShapes Go.WideShapes
set_option linter.unusedVariables false
set_option linter.unusedSimpArgs false

/-- a kind of row: how an element lies in its cells; the types of an element and of a slice of them -/
structure RK (P : Program) (α : Type) where
  enc : α → List Value
  n : Nat
  te : TypeId
  ts : TypeId
  bytes : Nat
  z : Value
  len : ∀ x, (enc x).length = n
  one : ∀ x, ∀ u ∈ enc x, u.oneCell' = true
  pos : 0 < n
  by0 : bytes ≤ 1024
  hu : P.underlying ts = some (.slice te)
  info : (P.info? te).map (fun i => (i.zero, i.size, i.bytes)) = some (some z, n, bytes)
  zc : z.cells.size = n
section
variable {P : Program} {α : Type} (K : RK P α)
def RK.cells (l : List α) : List Value := l.flatMap K.enc
theorem RK.cells_length (l : List α) : (K.cells l).length = l.length * K.n := by
  induction l with
  | nil => simp [RK.cells]
  | cons x r ih =>
    have : K.cells (x :: r) = K.enc x ++ K.cells r := rfl
    rw [this, List.length_append, ih, K.len, List.length_cons, Nat.add_mul]; omega
theorem RK.cells_app (l r : List α) : K.cells (l ++ r) = K.cells l ++ K.cells r := by unfold RK.cells; rw [List.flatMap_append]
theorem RK.cells_nil : K.cells [] = [] := rfl
theorem RK.cells_one (x : α) : K.cells [x] = K.enc x := by unfold RK.cells; simp
theorem RK.cells_at : ∀ (l : List α) (i j : Nat) (x : α), l[i]? = some x → j < K.n → (K.cells l)[i * K.n + j]? = (K.enc x)[j]?
  | [], i, j, x, h, hj => by simp at h
  | y :: r, 0, j, x, h, hj => by
    simp at h
    subst h
    rw [show K.cells (y :: r) = K.enc y ++ K.cells r from rfl, Nat.zero_mul, Nat.zero_add, List.getElem?_append_left (by rw [K.len]; exact hj)]
  | y :: r, i + 1, j, x, h, hj => by
    rw [List.getElem?_cons_succ] at h
    rw [show K.cells (y :: r) = K.enc y ++ K.cells r from rfl, List.getElem?_append_right (by rw [K.len, Nat.add_mul]; omega), K.len, ← RK.cells_at r i j x h hj]
    congr 1
    rw [Nat.add_mul]; omega
theorem RK.cells_mem (l : List α) : ∀ u ∈ K.cells l, u.oneCell' = true := by
  intro u hu
  unfold RK.cells at hu
  obtain ⟨x, -, hx⟩ := List.mem_flatMap.1 hu
  exact K.one x u hx
/-- a slice of them of the call's own: all behind B -/
def OwR (K : RK P α) (w : World) (B : Nat) (v : Value) (l : List α) : Prop := w.ownsRow B K.te K.n v l.length (K.cells l)
variable {K}
theorem OwR.nil (w : World) (B : Nat) : OwR K w B (.slice none 0 0) [] := World.ownsRow_nil w B _ _
theorem OwR.cases {w : World} {B : Nat} {v : Value} {l : List α} (h : OwR K w B v l) : (v = .slice none 0 0 ∧ l = []) ∨
    ∃ (g cap : Nat) (cur : List Value), v = .slice (some ⟨g, 0, none⟩) l.length cap ∧ B ≤ g ∧ w.heap[g]? = some (.cells cur.toArray K.te (0, 0)) ∧ l.length ≤ cap ∧ cap ≤ maxLen ∧ cur.length = cap * K.n ∧ cur.take (l.length * K.n) = K.cells l := by
  rcases h.2 with ⟨rfl, e⟩ | ⟨g, cap, cur, rfl, hb, hg, hn, hc, hs, ht⟩
  · exact .inl ⟨rfl, List.eq_nil_of_length_eq_zero e⟩
  · exact .inr ⟨g, cap, cur.toList, rfl, hb, by simpa using hg, hn, hc, by simpa using hs, ht⟩
theorem OwR.mk {w : World} {B g cap : Nat} {cur : List Value} {l : List α} (hb : B ≤ g) (hg : w.heap[g]? = some (.cells cur.toArray K.te (0, 0))) (hn : l.length ≤ cap) (hc : cap ≤ maxLen) (hs : cur.length = cap * K.n) (ht : cur.take (l.length * K.n) = K.cells l) :
    OwR K w B (.slice (some ⟨g, 0, none⟩) l.length cap) l :=
  ⟨K.cells_length l, .inr ⟨g, cap, cur.toArray, rfl, hb, hg, hn, hc, by simpa using hs, by simpa using ht⟩⟩
/-- a list that was just made, whole -/
theorem OwR.made (w : World) {B : Nat} (hB : B ≤ w.heap.size) (l : List α) (hl : l.length ≤ maxLen) : OwR K (w.alloc (.cells (K.cells l).toArray K.te)) B (.slice (some ⟨w.heap.size, 0, none⟩) l.length l.length) l :=
  OwR.mk hB (heap_alloc_new w _) (Nat.le_refl _) hl (K.cells_length l) (List.take_of_length_le (Nat.le_of_eq (K.cells_length l)))
theorem OwR.le {w : World} {B B' : Nat} {v : Value} {l : List α} (h : OwR K w B v l) (hb : B' ≤ B) : OwR K w B' v l := by
  rcases h.cases with ⟨rfl, rfl⟩ | ⟨g, cap, cur, rfl, h1, h2, h3, h4, h5, h6⟩
  · exact OwR.nil _ _
  · exact OwR.mk (Nat.le_trans hb h1) h2 h3 h4 h5 h6
theorem OwR.lt {w : World} {B : Nat} {v : Value} {l : List α} (h : OwR K w B v l) {k : Nat} (hk : v.ownBlock = some k) : B ≤ k ∧ k < w.heap.size ∧ ∃ cur, w.heap[k]? = some (.cells cur K.te (0, 0)) := by
  rcases h.cases with ⟨rfl, -⟩ | ⟨g, cap, cur, rfl, hb, h2, -⟩
  · simp [Value.ownBlock] at hk
  · simp only [Value.ownBlock, Option.some.injEq] at hk
    subst hk
    exact ⟨hb, (Array.getElem?_eq_some_iff.1 h2).1, _, h2⟩
theorem OwR.step {w w1 : World} {B : Nat} {v : Value} {l : List α} {F : Bl} (h : OwR K w B v l) (hf : Frm F w w1) (hv : ∀ k, v.ownBlock = some k → ¬ F k) : OwR K w1 B v l := hf.ownsRow h hv
theorem OwR.below {w w1 : World} {B : Nat} {v : Value} {l : List α} (h : OwR K w B v l) (hb : Below w.heap.size w w1) : OwR K w1 B v l := h.step (F := fun _ => False) (Frm.of_below hb) (fun _ _ e => e)
theorem OwR.sl {w : World} {B : Nat} {v : Value} {l : List α} (h : OwR K w B v l) : ∃ a c, v = .slice a l.length c ∧ l.length ≤ c ∧ c ≤ maxLen := by
  rcases h.cases with ⟨rfl, rfl⟩ | ⟨g, cap, cur, rfl, -, -, hn, hc, -⟩
  · exact ⟨_, _, rfl, Nat.le_refl _, by decide⟩
  · exact ⟨_, _, rfl, hn, hc⟩
theorem OwR.at {w : World} {B : Nat} {v : Value} {l : List α} (h : OwR K w B v l) {i : Nat} {x : α} (hi : l[i]? = some x) :
    ∃ g cap, v = .slice (some ⟨g, 0, none⟩) l.length cap ∧ B ≤ g ∧ g < w.heap.size ∧ l.length ≤ cap ∧ cap ≤ maxLen ∧ (∀ j u, (K.enc x)[j]? = some u → w.cell? ⟨g, i * K.n + j, none⟩ = some u) ∧ ∀ o, w.frozen? ⟨g, o, none⟩ = false := by
  have hl : i < l.length := (List.getElem?_eq_some_iff.1 hi).1
  rcases h.cases with ⟨-, rfl⟩ | ⟨g, cap, cur, rfl, hb, hg, hn, hc, hs, ht⟩
  · simp at hl
  · refine ⟨g, cap, rfl, hb, (Array.getElem?_eq_some_iff.1 hg).1, hn, hc, fun j u hj => ?_, fun o => unfrozen_of_block hg o⟩
    have hjn : j < K.n := by rw [← K.len x]; exact (List.getElem?_eq_some_iff.1 hj).1
    rw [← K.cells_at l i j x hi hjn, ← ht, List.getElem?_take] at hj
    rw [cell_of_block hg _]
    split at hj
    · simpa using hj
    · cases hj
theorem RK.parts (K : RK P α) : ∃ i0, P.info? K.te = some i0 ∧ i0.zero = some K.z ∧ i0.size = K.n ∧ i0.bytes = K.bytes := by
  have h := K.info
  cases e : P.info? K.te with
  | none => rw [e] at h; simp at h
  | some i0 =>
    rw [e] at h
    simp only [Option.map_some, Option.some.injEq, Prod.mk.injEq] at h
    exact ⟨i0, rfl, h.1, h.2.1, h.2.2⟩
/-- v' lies where v lay, or in new memory -/
def NewR (w : World) (v v' : Value) : Prop := ∀ k, v'.ownBlock = some k → v.ownBlock = some k ∨ w.heap.size ≤ k
theorem OwR.append (w : World) (B : Nat) (v : Value) (l : List α) (hown : OwR K w B v l) (hB : B ≤ w.heap.size) (ad : Addr) (m c : Nat) (rs : List α) (hm : rs.length = m)
    (hnews : ∀ j u, (K.cells rs)[j]? = some u → w.cell? (ad.add j) = some u) (hsz : l.length + m ≤ 4294967297) (ty : TypeId) :
    ∃ v' w', (Builtin.append_ #[K.ts, K.ts] ty #[v, .slice (some ad) m c]).run P w = .ok v' w' ∧ OwR K w' B v' (l ++ rs) ∧ w.grownBy w' v.ownBlock ∧ NewR w v v' := by
  obtain ⟨i0, hi, hz0, hz1, hz2⟩ := K.parts
  have hl : (K.cells rs).length = m * K.n := by rw [K.cells_length, hm]
  have hml : l.length + m ≤ maxLen := by unfold maxLen; omega
  have hby : (l.length + m) * K.bytes ≤ 140737488355328 := Nat.le_trans (Nat.mul_le_mul hsz K.by0) (by decide)
  obtain ⟨v', w', hr, h1, h2, h3, h4⟩ := run_append_own_at (P := P) (w := w) B K.ts ty K.te i0 K.z K.n K.bytes K.hu hi hz0 hz1 hz2 K.zc K.pos v l.length (K.cells l) hown ad m c (K.cells rs) hl hnews (K.cells_mem rs) hml hby hB
  refine ⟨v', w', hr, ?_, h2, fun k hk => ?_⟩
  · unfold OwR
    rw [K.cells_app, List.length_append, hm]
    exact h1
  · rcases h4 with e | e
    · exact .inl (by rw [← e]; exact hk)
    · rw [e] at hk
      injection hk with hk
      exact .inr (Nat.le_of_eq hk)
theorem OwR.wp {ops : Array Oper} {rest : List Oper} {o : Oper} {a : Act} {w : World} {Q : Exit → Act → World → Prop} (hgd : o.guard = none) (s x : Operand)
    (ho : o.op = .call { callee := .builtin .append, args := #[s, x], argTypes := #[K.ts, K.ts] })
    (B : Nat) (v : Value) (l : List α) (hs : a.eval s = v) (hown : OwR K w B v l) (hB : B ≤ w.heap.size) (ad : Addr) (m c : Nat) (rs : List α) (hm : rs.length = m) (hx : a.eval x = .slice (some ad) m c)
    (hnews : ∀ j u, (K.cells rs)[j]? = some u → w.cell? (ad.add j) = some u) (hsz : l.length + m ≤ 4294967297)
    (h : ∀ v' w', OwR K w' B v' (l ++ rs) → w.grownBy w' v.ownBlock → NewR w v v' → wpList P ops Q rest (a.put o.dst v') w') : wpList P ops Q (o :: rest) a w := by
  refine wpList_plain hgd fun K' hK' => ?_
  obtain ⟨v', w', hr, h1, h2, h3⟩ := OwR.append w B v l hown hB ad m c rs hm hnews hsz o.type
  unfold Oper.wp
  simp [execOp, ho, resolve, invoke, builtin, hs, hx, hr, Result.andThen]
  exact hK' _ _ (h v' w' h1 h2 h3)
/-- the cells of a list that was just made -/
theorem OwR.made_cells (w : World) (l : List α) : ∀ j u, (K.cells l)[j]? = some u → (w.alloc (.cells (K.cells l).toArray K.te)).cell? ((⟨w.heap.size, 0, none⟩ : Addr).add j) = some u := by
  intro j u hj
  have ea : (⟨w.heap.size, 0, none⟩ : Addr).add j = ⟨w.heap.size, j, none⟩ := by unfold Addr.add; split <;> simp_all
  rw [ea, cell_of_block (heap_alloc_new w _) j]
  simpa using hj
end

end Go.Proofs.Ytccjeclncmogiaa
