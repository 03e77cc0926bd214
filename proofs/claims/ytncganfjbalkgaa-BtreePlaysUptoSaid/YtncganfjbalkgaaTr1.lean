/-
  Parts of the tree's nodes as they lie in memory, and laws of the walk on slices of them: append, copy, clear, whole rows.
  Conditions: none.
-/
import Derived.Test.YtncganfjbalkgaaFrm
import Derived.Test.YtncganfjbalkgaaVal
import Derived.ArgAppend
import Derived.Lib.AppendZerosOnto
import Derived.Laws.CopyOwn
import Derived.Lib.SliceRun
namespace Go.Proofs.Ytncganfjbalkgaa
open Go.RowKit Go.Joins Go.ChangeShapes Go.WideShapes
set_option linter.unusedVariables false

/-- a part: its key, its number, its child's block -/
abbrev Pv := ByteArray × Int × Option Nat
def kp (k : Option Nat) : Value := .pointer (k.map fun g => (⟨g, 0, none⟩ : Addr))
def pcells : List Pv → List Value
  | [] => []
  | p :: r => [.string p.1, .int .i64 p.2.1, kp p.2.2] ++ pcells r
theorem pcells_length (l : List Pv) : (pcells l).length = l.length * 3 := by
  induction l with
  | nil => rfl
  | cons v r ih => simp [pcells, ih]; omega
theorem pcells_app (l r : List Pv) : pcells (l ++ r) = pcells l ++ pcells r := by
  induction l with
  | nil => rfl
  | cons v l ih => simp only [List.cons_append, pcells, ih, List.append_assoc]
theorem pcells_take (l : List Pv) (k : Nat) : (pcells l).take (k * 3) = pcells (l.take k) := by
  induction l generalizing k with
  | nil => simp [pcells]
  | cons v l ih =>
    cases k with
    | zero => simp [pcells]
    | succ k =>
      rw [show (k + 1) * 3 = k * 3 + 1 + 1 + 1 by omega]
      simp only [pcells, List.cons_append, List.nil_append, List.take_succ_cons, ih]
theorem pcells_drop (l : List Pv) (k : Nat) : (pcells l).drop (k * 3) = pcells (l.drop k) := by
  induction l generalizing k with
  | nil => simp [pcells]
  | cons v l ih =>
    cases k with
    | zero => simp [pcells]
    | succ k =>
      rw [show (k + 1) * 3 = k * 3 + 1 + 1 + 1 by omega]
      simp only [pcells, List.cons_append, List.nil_append, List.drop_succ_cons, ih]
theorem pcells_at (l : List Pv) (i : Nat) (p : Pv) (h : l[i]? = some p) : (pcells l)[i * 3]? = some (.string p.1) ∧ (pcells l)[i * 3 + 1]? = some (.int .i64 p.2.1) ∧ (pcells l)[i * 3 + 2]? = some (kp p.2.2) := by
  induction l generalizing i with
  | nil => simp at h
  | cons u l ih =>
    unfold pcells
    cases i with
    | zero =>
      simp only [List.getElem?_cons_zero, Option.some.injEq] at h
      subst h
      exact ⟨rfl, rfl, rfl⟩
    | succ i =>
      rw [List.getElem?_cons_succ] at h
      obtain ⟨h1, h2, h3⟩ := ih i h
      have e : ∀ j, ([Value.string u.1, .int .i64 u.2.1, kp u.2.2] ++ pcells l)[(i + 1) * 3 + j]? = (pcells l)[i * 3 + j]? := by
        intro j
        rw [List.getElem?_append_right (by simp; omega)]
        congr 1
        simp
        omega
      exact ⟨(e 0).trans h1, (e 1).trans h2, (e 2).trans h3⟩
theorem pcells_one : ∀ (l : List Pv), ∀ u ∈ pcells l, u.oneCell' = true
  | [], u, hu => by cases hu
  | p :: l, u, hu => by
    unfold pcells at hu
    rcases List.mem_append.1 hu with h | h
    · simp only [List.mem_cons, List.not_mem_nil, or_false] at h
      rcases h with rfl | rfl | rfl <;> rfl
    · exact pcells_one l u h

/-- a slice of parts of the call's own: all behind B -/
def OwP (w : World) (B : Nat) (v : Value) (l : List Pv) : Prop := w.ownsRow B 77 3 v l.length (pcells l)
theorem OwP.cases {w : World} {B : Nat} {v : Value} {l : List Pv} (h : OwP w B v l) : (v = .slice none 0 0 ∧ l = []) ∨
    ∃ (g cap : Nat) (cur : List Value), v = .slice (some ⟨g, 0, none⟩) l.length cap ∧ B ≤ g ∧ w.heap[g]? = some (.cells cur.toArray 77 (0, 0)) ∧ l.length ≤ cap ∧ cap ≤ maxLen ∧ cur.length = cap * 3 ∧ cur.take (l.length * 3) = pcells l := by
  rcases h.2 with ⟨rfl, e⟩ | ⟨g, cap, cur, rfl, hb, hg, hn, hc, hs, ht⟩
  · exact .inl ⟨rfl, List.eq_nil_of_length_eq_zero e⟩
  · exact .inr ⟨g, cap, cur.toList, rfl, hb, by simpa using hg, hn, hc, by simpa using hs, ht⟩
theorem OwP.mk {w : World} {B g cap : Nat} {cur : List Value} {l : List Pv} (hb : B ≤ g) (hg : w.heap[g]? = some (.cells cur.toArray 77 (0, 0))) (hn : l.length ≤ cap) (hc : cap ≤ maxLen) (hs : cur.length = cap * 3) (ht : cur.take (l.length * 3) = pcells l) :
    OwP w B (.slice (some ⟨g, 0, none⟩) l.length cap) l :=
  ⟨pcells_length l, .inr ⟨g, cap, cur.toArray, rfl, hb, hg, hn, hc, by simpa using hs, by simpa using ht⟩⟩
theorem OwP.le {w : World} {B B' : Nat} {v : Value} {l : List Pv} (h : OwP w B v l) (hb : B' ≤ B) : OwP w B' v l := ownsRow_le h hb
theorem Frm.owP {F : Bl} {w w1 : World} (h : Frm F w w1) {B : Nat} {v : Value} {l : List Pv} (ho : OwP w B v l) (hf : ∀ k, v.ownBlock = some k → ¬ F k) : OwP w1 B v l := h.ownsRow ho hf
theorem OwP.nil (w : World) (B : Nat) : OwP w B (.slice none 0 0) [] := World.ownsRow_nil w B _ 3
theorem OwP.at {w : World} {B : Nat} {v : Value} {l : List Pv} (h : OwP w B v l) {i : Nat} {p : Pv} (hi : l[i]? = some p) :
    ∃ g cap, v = .slice (some ⟨g, 0, none⟩) l.length cap ∧ l.length ≤ cap ∧ cap ≤ maxLen ∧ w.cell? ⟨g, i * 3, none⟩ = some (.string p.1) ∧ w.cell? ⟨g, i * 3 + 1, none⟩ = some (.int .i64 p.2.1) ∧ w.cell? ⟨g, i * 3 + 2, none⟩ = some (kp p.2.2) ∧ ∀ o, w.frozen? ⟨g, o, none⟩ = false := by
  have hl : i < l.length := (List.getElem?_eq_some_iff.1 hi).1
  rcases h.cases with ⟨-, rfl⟩ | ⟨g, cap, cur, rfl, hb, hg, hn, hc, hs, ht⟩
  · simp at hl
  · have hc : ∀ (j : Nat) (u : Value), (pcells l)[j]? = some u → w.cell? ⟨g, j, none⟩ = some u := by
      intro j u hj
      rw [cell_of_block hg j]
      rw [← ht, List.getElem?_take] at hj
      split at hj
      · simpa using hj
      · cases hj
    obtain ⟨a, b, c⟩ := pcells_at l i p hi
    exact ⟨g, cap, rfl, hn, by assumption, hc _ _ a, hc _ _ b, hc _ _ c, fun o => unfrozen_of_block hg o⟩
/-- what the cells of a slice of parts hold, from place i on -/
theorem OwP.from {w : World} {B g cap n : Nat} {l : List Pv} (h : OwP w B (.slice (some ⟨g, 0, none⟩) n cap) l) (i : Nat) : ∀ j u, (pcells (l.drop i))[j]? = some u → w.cell? ((⟨g, i * 3, none⟩ : Addr).add j) = some u := by
  intro j u hj
  have ea : (⟨g, i * 3, none⟩ : Addr).add j = ⟨g, i * 3 + j, none⟩ := by unfold Addr.add; split <;> simp_all
  rw [ea]
  rcases h.cases with ⟨e, -⟩ | ⟨g', cap', cur, e, hb, hg, hn, hc, hs, ht⟩
  · simp at e
  · simp only [Value.slice.injEq, Option.some.injEq, Addr.mk.injEq, and_true] at e
    obtain ⟨rfl, -, rfl⟩ := e
    rw [← pcells_drop, List.getElem?_drop] at hj
    rw [cell_of_block hg _]
    rw [← ht, List.getElem?_take] at hj
    split at hj
    · simpa using hj
    · cases hj

theorem infoP : (Try.prog.info? 77).map (fun i => (i.zero, i.size, i.bytes)) = some (some (.agg #[.string ByteArray.empty, .int .i64 0, .pointer none]), 3, 32) := by kernel_rfl
def zp : Pv := (ByteArray.empty, 0, none)
theorem zeroCells_p (n : Nat) : (Builtin.zeroCells (Value.agg #[.string ByteArray.empty, .int .i64 0, .pointer none]).cells n).toList = pcells (List.replicate n zp) := by
  have hz : (Value.agg #[.string ByteArray.empty, .int .i64 0, .pointer none]).cells = #[.string ByteArray.empty, .int .i64 0, .pointer none] := rfl
  rw [hz]
  apply List.ext_getElem?
  intro j
  have h3 : j % 3 = 0 ∨ j % 3 = 1 ∨ j % 3 = 2 := by omega
  by_cases hj : j < n * 3
  · have hr : (List.replicate n zp)[j / 3]? = some zp := by rw [List.getElem?_replicate, if_pos (by omega)]
    obtain ⟨a, b, c⟩ := pcells_at _ _ _ hr
    have l : (Builtin.zeroCells #[Value.string ByteArray.empty, .int .i64 0, .pointer none] n).toList[j]? = some (#[Value.string ByteArray.empty, .int .i64 0, .pointer none][j % 3]!) := by
      simp [Builtin.zeroCells, hj]
    rw [l]
    rcases h3 with h | h | h
    · rw [h, show j = j / 3 * 3 by omega, a]; rfl
    · rw [h, show j = j / 3 * 3 + 1 by omega, b]; rfl
    · rw [h, show j = j / 3 * 3 + 2 by omega, c]; rfl
  · rw [List.getElem?_eq_none (by simp [Builtin.zeroCells]; omega), List.getElem?_eq_none (by rw [pcells_length, List.length_replicate]; omega)]

/-- cells that are laid over a row that is known whole -/
theorem setCells_row {w : World} {g o : Nat} {cur : List Value} {t : TypeId} {cs : List Value} (hg : w.heap[g]? = some (.cells cur.toArray t (0, 0))) (hfit : o + cs.length ≤ cur.length) (h1 : ∀ u ∈ cs, u.oneCell' = true) :
    w.setCells g o cs = w.setRow g (splice cur o cs).toArray := by
  have e1 := run_storeCells_at Try.prog g o t cs 0 cur.toArray w hg (by simpa using hfit) h1
  have e2 := run_storeCells_cells (P := Try.prog) g o cs 0 w (fun j hj => by
    rw [cell_of_block hg]
    simp only [Nat.add_zero]
    rw [List.getElem?_toArray, List.getElem?_eq_getElem (by omega)]
    rfl) (fun j hj => unfrozen_of_block hg _) h1
  rw [e1] at e2
  injection e2 with _ e3
  simp only [Nat.add_zero] at e3
  rw [← e3]
  unfold splice
  simp
theorem splice_two {X Y Z cur : List Value} {a : Nat} (hx : cur.take a = X) (ha : X.length = a) (hf : a + Y.length + Z.length ≤ cur.length) :
    (splice (splice cur a Y) (a + Y.length) Z).take (a + Y.length + Z.length) = X ++ Y ++ Z := by
  subst hx
  unfold splice
  have hl : (cur.take a).length = a := ha
  rw [← List.append_assoc, ← List.append_assoc]
  have e1 : (cur.take a ++ Y ++ cur.drop (a + Y.length)).take (a + Y.length) = cur.take a ++ Y := by
    rw [show a + Y.length = (cur.take a ++ Y).length by rw [List.length_append, hl]]
    exact List.take_left
  rw [e1, show a + Y.length + Z.length = (cur.take a ++ Y ++ Z).length by rw [List.length_append, List.length_append, hl]]
  exact List.take_left
theorem splice_two' {X Y Z cur : List Value} {a : Nat} (hx : cur.take a = X) (ha : X.length = a) (hf : a + Y.length + Z.length ≤ cur.length) :
    (splice (splice cur (a + Y.length) Z) a Y).take (a + Y.length + Z.length) = X ++ Y ++ Z := by
  subst hx
  have hl : (cur.take a).length = a := ha
  have hl2 : (cur.take (a + Y.length)).length = a + Y.length := by rw [List.length_take]; omega
  unfold splice
  have e1 : (cur.take (a + Y.length) ++ (Z ++ cur.drop (a + Y.length + Z.length))).take a = cur.take a := by
    rw [List.take_append_of_le_length (by omega), List.take_take]
    congr 1
    omega
  have e2 : (cur.take (a + Y.length) ++ (Z ++ cur.drop (a + Y.length + Z.length))).drop (a + Y.length) = Z ++ cur.drop (a + Y.length + Z.length) := by
    conv => lhs; arg 1; rw [← hl2]
    exact List.drop_left
  rw [e1, e2, ← List.append_assoc, ← List.append_assoc, show a + Y.length + Z.length = (cur.take a ++ Y ++ Z).length by rw [List.length_append, List.length_append, hl]]
  exact List.take_left
theorem splice_one {X Y cur : List Value} {a : Nat} (hx : cur.take a = X) (ha : X.length = a) (hf : a + Y.length ≤ cur.length) : (splice cur a Y).take (a + Y.length) = X ++ Y := by
  subst hx
  unfold splice
  rw [← List.append_assoc, show a + Y.length = (cur.take a ++ Y).length by rw [List.length_append, ha]]
  exact List.take_left
theorem splice_far {cur Y : List Value} {a n : Nat} (hn : n ≤ a) (ha : a ≤ cur.length) : (splice cur a Y).take n = cur.take n := by
  unfold splice
  rw [List.take_append_of_le_length (by rw [List.length_take]; omega), List.take_take]
  congr 1
  omega
theorem grown_setRow (w : World) (g : Nat) (cs : Array Value) : w.grownBy (w.setRow g cs) (some g) :=
  ⟨rfl, rfl, rfl, by simp, fun k _ hk => setRow_other w g k cs (fun e => hk (by rw [e]))⟩

/-- v' lies where v lay, or in new memory -/
def NewB (w : World) (v v' : Value) : Prop := ∀ k, v'.ownBlock = some k → v.ownBlock = some k ∨ w.heap.size ≤ k
theorem run_append_p (w : World) (B : Nat) (v : Value) (l : List Pv) (hown : OwP w B v l) (hB : B ≤ w.heap.size) (ad : Addr) (m c : Nat) (rs : List Pv) (hm : rs.length = m)
    (hnews : ∀ j u, (pcells rs)[j]? = some u → w.cell? (ad.add j) = some u) (hsz : l.length + m ≤ 4294967297) (ty : TypeId) :
    ∃ v' w', (Builtin.append_ #[67, 67] ty #[v, .slice (some ad) m c]).run Try.prog w = .ok v' w' ∧ OwP w' B v' (l ++ rs) ∧ w.grownBy w' v.ownBlock ∧ NewB w v v' := by
  obtain ⟨i0, hi, hz0, hz1, hz2⟩ := info_parts infoP
  have hl : (pcells rs).length = m * 3 := by rw [pcells_length, hm]
  have hml : l.length + m ≤ maxLen := by unfold maxLen; omega
  obtain ⟨v', w', hr, h1, h2, h3⟩ := run_append_own (P := Try.prog) w B 67 ty 77 i0 _ 3 32 Try.underlying67 hi hz0 hz1 hz2 rfl (by decide) v l.length (pcells l) hown ad m c (pcells rs) hl hnews (pcells_one rs) hml (by omega) hB
  refine ⟨v', w', hr, ?_, h2, ?_⟩
  · unfold OwP
    rw [pcells_app, List.length_append, hm]
    exact h1
  · intro k hk
    rcases hown.cases with ⟨rfl, rfl⟩ | ⟨g, cap, cur, rfl, hb, hg, hn, hc, hs, ht⟩
    · obtain ⟨v2, w2, hr2, k1, -, -⟩ := run_append_own (P := Try.prog) w w.heap.size 67 ty 77 i0 _ 3 32 Try.underlying67 hi hz0 hz1 hz2 rfl (by decide) (.slice none 0 0) 0 [] (World.ownsRow_nil w _ _ 3) ad m c (pcells rs) hl hnews (pcells_one rs) (by simpa using hml) (by simp at hsz ⊢; omega) (Nat.le_refl _)
      rw [hr] at hr2
      injection hr2 with e1 e2
      subst e1 e2
      exact .inr (k1.lt k hk).1
    · by_cases hroom : l.length + m ≤ cap
      · have hr2 := run_append_room_cells (P := Try.prog) w 67 ty 77 i0 Try.underlying67 hi g 0 l.length cap ad m c (pcells rs) (by rw [hz1]; exact hl) hnews (pcells_one rs) hroom
          (fun j hj => by rw [cell_of_block hg, hz1]; rw [List.getElem?_toArray, List.getElem?_eq_getElem (by rw [hl] at hj; omega)]; rfl) (fun j hj => unfrozen_of_block hg _)
        rw [hr] at hr2
        injection hr2 with e1 e2
        subst e1
        exact .inl hk
      · obtain ⟨v2, w2, hr2, k1, -⟩ := run_append_arg_grows (P := Try.prog) w 67 ty 77 i0 _ 3 32 Try.underlying67 hi hz0 hz1 hz2 rfl (by decide) ⟨g, 0, none⟩ l.length cap (pcells l) (pcells_length l)
          (hown.from 0) ad m c (pcells rs) hl hnews (by omega) hml (by omega)
        rw [hr] at hr2
        injection hr2 with e1 e2
        subst e1 e2
        exact .inr (k1.lt k hk).1
theorem wp_pushP {ops : Array Oper} {rest : List Oper} {o : Oper} {a : Act} {w : World} {Q : Exit → Act → World → Prop} (hgd : o.guard = none) (s x : Operand)
    (ho : o.op = .call { callee := .builtin .append, args := #[s, x], argTypes := #[67, 67] })
    (B : Nat) (v : Value) (l : List Pv) (hs : a.eval s = v) (hown : OwP w B v l) (hB : B ≤ w.heap.size) (ad : Addr) (m c : Nat) (rs : List Pv) (hm : rs.length = m) (hx : a.eval x = .slice (some ad) m c)
    (hnews : ∀ j u, (pcells rs)[j]? = some u → w.cell? (ad.add j) = some u) (hsz : l.length + m ≤ 4294967297)
    (h : ∀ v' w', OwP w' B v' (l ++ rs) → w.grownBy w' v.ownBlock → NewB w v v' → wpList Try.prog ops Q rest (a.put o.dst v') w') : wpList Try.prog ops Q (o :: rest) a w := by
  refine wpList_plain hgd fun K hK => ?_
  obtain ⟨v', w', hr, h1, h2, h3⟩ := run_append_p w B v l hown hB ad m c rs hm hnews hsz o.type
  unfold Oper.wp
  simp [execOp, ho, resolve, invoke, builtin, hs, hx, hr, Result.andThen]
  exact hK _ _ (h v' w' h1 h2 h3)
theorem step_pushP {ops : Array Oper} {o : Oper} {a : Act} {w : World} {K : Act → World → Prop} {Q : Exit → Act → World → Prop} {E : Prop} (hgd : o.guard = none) (s x : Operand)
    (ho : o.op = .call { callee := .builtin .append, args := #[s, x], argTypes := #[67, 67] })
    (B : Nat) (v : Value) (l : List Pv) (hs : a.eval s = v) (hown : OwP w B v l) (hB : B ≤ w.heap.size) (ad : Addr) (m c : Nat) (rs : List Pv) (hm : rs.length = m) (hx : a.eval x = .slice (some ad) m c)
    (hnews : ∀ j u, (pcells rs)[j]? = some u → w.cell? (ad.add j) = some u) (hsz : l.length + m ≤ 4294967297)
    (h : ∀ v' w', OwP w' B v' (l ++ rs) → w.grownBy w' v.ownBlock → NewB w v v' → K (a.put o.dst v') w') : if Region.wanted o (yielded ops a.tmps) = true then Oper.wp Try.prog o a w K Q else E := by
  have hw : Region.wanted o (yielded ops a.tmps) = true := by simp [Region.wanted, hgd]
  rw [if_pos hw]
  obtain ⟨v', w', hr, h1, h2, h3⟩ := run_append_p w B v l hown hB ad m c rs hm hnews hsz o.type
  unfold Oper.wp
  simp [execOp, ho, resolve, invoke, builtin, hs, hx, hr, Result.andThen]
  exact h v' w' h1 h2 h3

/-- copy between slices of parts, onto a row that is known whole -/
theorem run_copy_p (w : World) (ty : TypeId) (g o dLen dCap : Nat) (a : Addr) (sLen sCap : Nat) (cur : List Value) (t : TypeId) (rs : List Pv)
    (hg : w.heap[g]? = some (.cells cur.toArray t (0, 0))) (hn : rs.length = Nat.min sLen dLen)
    (hsrc : ∀ j v, (pcells rs)[j]? = some v → w.cell? (a.add j) = some v) (hfit : o + rs.length * 3 ≤ cur.length) :
    (Builtin.copy_ #[67, 67] ty #[.slice (some ⟨g, o, none⟩) dLen dCap, .slice (some a) sLen sCap]).run Try.prog w = .ok (goInt rs.length) (w.setRow g (splice cur o (pcells rs)).toArray) := by
  have hl := run_loadCells_list (P := Try.prog) w a (pcells rs) hsrc
  have hst := run_storeCells_at Try.prog g o t (pcells rs) 0 cur.toArray w hg (by rw [pcells_length]; simpa using hfit) (pcells_one rs)
  obtain ⟨i0, hi, hz0, hz1, hz2⟩ := info_parts infoP
  rw [pcells_length] at hl
  have hu := Try.underlying67
  simp [Builtin.copy_, run_underlying hu, Builtin.lenOf, Builtin.firstCells, sizeOf, typeInfo, hi, hz1, ← hn, hl, hst, splice]
theorem wp_copyP {ops : Array Oper} {rest : List Oper} {o : Oper} {a : Act} {w : World} {Q : Exit → Act → World → Prop} (hgd : o.guard = none) (d s : Operand)
    (ho : o.op = .call { callee := .builtin .copy, args := #[d, s], argTypes := #[67, 67] }) (g off dLen dCap : Nat) (ad : Addr) (sLen sCap : Nat)
    (hd : a.eval d = .slice (some ⟨g, off, none⟩) dLen dCap) (hs : a.eval s = .slice (some ad) sLen sCap) (cur : List Value) (t : TypeId) (hg : w.heap[g]? = some (.cells cur.toArray t (0, 0))) (rs : List Pv) (hn : rs.length = Nat.min sLen dLen)
    (hsrc : ∀ j v, (pcells rs)[j]? = some v → w.cell? (ad.add j) = some v) (hfit : off + rs.length * 3 ≤ cur.length)
    (h : ∀ w', w' = w.setRow g (splice cur off (pcells rs)).toArray → wpList Try.prog ops Q rest (a.put o.dst (goInt rs.length)) w') : wpList Try.prog ops Q (o :: rest) a w := by
  refine wpList_plain hgd fun K hK => ?_
  have hrun := run_copy_p w o.type g off dLen dCap ad sLen sCap cur t rs hg hn hsrc hfit
  unfold Oper.wp
  simp [execOp, ho, resolve, invoke, builtin, hd, hs, hrun, Result.andThen]
  exact hK _ _ (h _ rfl)
theorem step_copyP {ops : Array Oper} {o : Oper} {a : Act} {w : World} {K : Act → World → Prop} {Q : Exit → Act → World → Prop} {E : Prop} (hgd : o.guard = none) (d s : Operand)
    (ho : o.op = .call { callee := .builtin .copy, args := #[d, s], argTypes := #[67, 67] }) (g off dLen dCap : Nat) (ad : Addr) (sLen sCap : Nat)
    (hd : a.eval d = .slice (some ⟨g, off, none⟩) dLen dCap) (hs : a.eval s = .slice (some ad) sLen sCap) (cur : List Value) (t : TypeId) (hg : w.heap[g]? = some (.cells cur.toArray t (0, 0))) (rs : List Pv) (hn : rs.length = Nat.min sLen dLen)
    (hsrc : ∀ j v, (pcells rs)[j]? = some v → w.cell? (ad.add j) = some v) (hfit : off + rs.length * 3 ≤ cur.length)
    (h : ∀ w', w' = w.setRow g (splice cur off (pcells rs)).toArray → K (a.put o.dst (goInt rs.length)) w') : if Region.wanted o (yielded ops a.tmps) = true then Oper.wp Try.prog o a w K Q else E := by
  have hw : Region.wanted o (yielded ops a.tmps) = true := by simp [Region.wanted, hgd]
  rw [if_pos hw]
  have hrun := run_copy_p w o.type g off dLen dCap ad sLen sCap cur t rs hg hn hsrc hfit
  unfold Oper.wp
  simp [execOp, ho, resolve, invoke, builtin, hd, hs, hrun, Result.andThen]
  exact h _ rfl
/-- clear of a piece of a row that is known whole -/
theorem run_clear_p (w : World) (ty : TypeId) (g o n c : Nat) (cur : List Value) (t : TypeId) (hg : w.heap[g]? = some (.cells cur.toArray t (0, 0))) (hn : 0 < n) (hfit : o + n * 3 ≤ cur.length) :
    (Builtin.clear_ #[67] ty #[.slice (some ⟨g, o, none⟩) n c]).run Try.prog w = .ok (.tuple #[]) (w.setRow g (splice cur o (pcells (List.replicate n zp))).toArray) := by
  have hst := run_storeCells_at Try.prog g o t (pcells (List.replicate n zp)) 0 cur.toArray w hg (by rw [pcells_length, List.length_replicate]; simpa using hfit) (pcells_one _)
  obtain ⟨i0, hi, hz0, hz1, hz2⟩ := info_parts infoP
  have hz := zeroCells_p n
  have hv : (zeroValue 77).run Try.prog w = .ok (.agg #[.string ByteArray.empty, .int .i64 0, .pointer none]) w := by simp [zeroValue, typeInfo, hi, hz0]
  obtain ⟨m, rfl⟩ : ∃ m, n = m + 1 := ⟨n - 1, by omega⟩
  simp [Builtin.clear_, run_underlying Try.underlying67, hv, hz, hst, splice]

end Go.Proofs.Ytncganfjbalkgaa
