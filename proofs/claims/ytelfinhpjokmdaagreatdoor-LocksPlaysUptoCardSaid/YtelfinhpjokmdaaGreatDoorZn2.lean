/-
  Texts of mine put together, in build order.
  Conditions: as each declaration says.
-/
import Derived.ArgAppend
import Derived.Lib.AppendZerosOnto
import Derived.Laws.CopyOwn
import Derived.Lib.SliceRun
import Derived.Lib.Overlaps
import Derived.Deep.RegionLaw
import Derived.StillTailTactics
import Derived.WalkKit
import Derived.Lib.Hide
import Derived.Below
import Derived.BigQuiet
import Derived.Deep.AppendLies
import Derived.Laws.AppendOwnNone
import Derived.Maps.OwnOps
import Derived.Test.YtelfinhpjokmdaaGreatDoorZn1
namespace Go.Proofs.YtelfinhpjokmdaaGreatDoor
set_option maxRecDepth 100000
open Go.RowKit Go.Joins Go.ChangeShapes Go.WideShapes
set_option linter.unusedVariables false

/-- a part: its key, its number, its child's block -/
abbrev Lv := Lk (List UInt8)
def lcells : List Lv → List Value
  | [] => []
  | p :: r => [.int .i64 p.txn, .string ⟨p.res.toArray⟩, .int .i64 p.mode] ++ lcells r
theorem lcells_length (l : List Lv) : (lcells l).length = l.length * 3 := by
  induction l with
  | nil => rfl
  | cons v r ih => simp [lcells, ih]; omega
theorem lcells_app (l r : List Lv) : lcells (l ++ r) = lcells l ++ lcells r := by
  induction l with
  | nil => rfl
  | cons v l ih => simp only [List.cons_append, lcells, ih, List.append_assoc]
theorem lcells_take (l : List Lv) (k : Nat) : (lcells l).take (k * 3) = lcells (l.take k) := by
  induction l generalizing k with
  | nil => simp [lcells]
  | cons v l ih =>
    cases k with
    | zero => simp [lcells]
    | succ k =>
      rw [show (k + 1) * 3 = k * 3 + 1 + 1 + 1 by omega]
      simp only [lcells, List.cons_append, List.nil_append, List.take_succ_cons, ih]
theorem lcells_drop (l : List Lv) (k : Nat) : (lcells l).drop (k * 3) = lcells (l.drop k) := by
  induction l generalizing k with
  | nil => simp [lcells]
  | cons v l ih =>
    cases k with
    | zero => simp [lcells]
    | succ k =>
      rw [show (k + 1) * 3 = k * 3 + 1 + 1 + 1 by omega]
      simp only [lcells, List.cons_append, List.nil_append, List.drop_succ_cons, ih]
theorem lcells_at (l : List Lv) (i : Nat) (p : Lv) (h : l[i]? = some p) : (lcells l)[i * 3]? = some (.int .i64 p.txn) ∧ (lcells l)[i * 3 + 1]? = some (.string ⟨p.res.toArray⟩) ∧ (lcells l)[i * 3 + 2]? = some (.int .i64 p.mode) := by
  induction l generalizing i with
  | nil => simp at h
  | cons u l ih =>
    unfold lcells
    cases i with
    | zero =>
      simp only [List.getElem?_cons_zero, Option.some.injEq] at h
      subst h
      exact ⟨rfl, rfl, rfl⟩
    | succ i =>
      rw [List.getElem?_cons_succ] at h
      obtain ⟨h1, h2, h3⟩ := ih i h
      have e : ∀ j, ([Value.int .i64 u.txn, .string ⟨u.res.toArray⟩, .int .i64 u.mode] ++ lcells l)[(i + 1) * 3 + j]? = (lcells l)[i * 3 + j]? := by
        intro j
        rw [List.getElem?_append_right (by simp; omega)]
        congr 1
        simp
        omega
      exact ⟨(e 0).trans h1, (e 1).trans h2, (e 2).trans h3⟩
theorem lcells_one : ∀ (l : List Lv), ∀ u ∈ lcells l, u.oneCell' = true
  | [], u, hu => by cases hu
  | p :: l, u, hu => by
    unfold lcells at hu
    rcases List.mem_append.1 hu with h | h
    · simp only [List.mem_cons, List.not_mem_nil, or_false] at h
      rcases h with rfl | rfl | rfl <;> rfl
    · exact lcells_one l u h

/-- a slice of locks of the call's own: all behind B -/
def OwL (w : World) (B : Nat) (v : Value) (l : List Lv) : Prop := w.ownsRow B 42 3 v l.length (lcells l)
theorem OwL.cases {w : World} {B : Nat} {v : Value} {l : List Lv} (h : OwL w B v l) : (v = .slice none 0 0 ∧ l = []) ∨
    ∃ (g cap : Nat) (cur : List Value), v = .slice (some ⟨g, 0, none⟩) l.length cap ∧ B ≤ g ∧ w.heap[g]? = some (.cells cur.toArray 42 (0, 0)) ∧ l.length ≤ cap ∧ cap ≤ maxLen ∧ cur.length = cap * 3 ∧ cur.take (l.length * 3) = lcells l := by
  rcases h.2 with ⟨rfl, e⟩ | ⟨g, cap, cur, rfl, hb, hg, hn, hc, hs, ht⟩
  · exact .inl ⟨rfl, List.eq_nil_of_length_eq_zero e⟩
  · exact .inr ⟨g, cap, cur.toList, rfl, hb, by simpa using hg, hn, hc, by simpa using hs, ht⟩
theorem OwL.mk {w : World} {B g cap : Nat} {cur : List Value} {l : List Lv} (hb : B ≤ g) (hg : w.heap[g]? = some (.cells cur.toArray 42 (0, 0))) (hn : l.length ≤ cap) (hc : cap ≤ maxLen) (hs : cur.length = cap * 3) (ht : cur.take (l.length * 3) = lcells l) :
    OwL w B (.slice (some ⟨g, 0, none⟩) l.length cap) l :=
  ⟨lcells_length l, .inr ⟨g, cap, cur.toArray, rfl, hb, hg, hn, hc, by simpa using hs, by simpa using ht⟩⟩
theorem OwL.le {w : World} {B B' : Nat} {v : Value} {l : List Lv} (h : OwL w B v l) (hb : B' ≤ B) : OwL w B' v l := ownsRow_le h hb
theorem Frm.owL {F : Bl} {w w1 : World} (h : Frm F w w1) {B : Nat} {v : Value} {l : List Lv} (ho : OwL w B v l) (hf : ∀ k, v.ownBlock = some k → ¬ F k) : OwL w1 B v l := h.ownsRow ho hf
theorem OwL.nil (w : World) (B : Nat) : OwL w B (.slice none 0 0) [] := World.ownsRow_nil w B _ 3
theorem OwL.at {w : World} {B : Nat} {v : Value} {l : List Lv} (h : OwL w B v l) {i : Nat} {p : Lv} (hi : l[i]? = some p) :
    ∃ g cap, v = .slice (some ⟨g, 0, none⟩) l.length cap ∧ l.length ≤ cap ∧ cap ≤ maxLen ∧ w.cell? ⟨g, i * 3, none⟩ = some (.int .i64 p.txn) ∧ w.cell? ⟨g, i * 3 + 1, none⟩ = some (.string ⟨p.res.toArray⟩) ∧ w.cell? ⟨g, i * 3 + 2, none⟩ = some (.int .i64 p.mode) ∧ ∀ o, w.frozen? ⟨g, o, none⟩ = false := by
  have hl : i < l.length := (List.getElem?_eq_some_iff.1 hi).1
  rcases h.cases with ⟨-, rfl⟩ | ⟨g, cap, cur, rfl, hb, hg, hn, hc, hs, ht⟩
  · simp at hl
  · have hc : ∀ (j : Nat) (u : Value), (lcells l)[j]? = some u → w.cell? ⟨g, j, none⟩ = some u := by
      intro j u hj
      rw [cell_of_block hg j]
      rw [← ht, List.getElem?_take] at hj
      split at hj
      · simpa using hj
      · cases hj
    obtain ⟨a, b, c⟩ := lcells_at l i p hi
    exact ⟨g, cap, rfl, hn, by assumption, hc _ _ a, hc _ _ b, hc _ _ c, fun o => unfrozen_of_block hg o⟩
/-- what the cells of a slice of locks hold, from place i on -/
theorem OwL.from {w : World} {B g cap n : Nat} {l : List Lv} (h : OwL w B (.slice (some ⟨g, 0, none⟩) n cap) l) (i : Nat) : ∀ j u, (lcells (l.drop i))[j]? = some u → w.cell? ((⟨g, i * 3, none⟩ : Addr).add j) = some u := by
  intro j u hj
  have ea : (⟨g, i * 3, none⟩ : Addr).add j = ⟨g, i * 3 + j, none⟩ := by unfold Addr.add; split <;> simp_all
  rw [ea]
  rcases h.cases with ⟨e, -⟩ | ⟨g', cap', cur, e, hb, hg, hn, hc, hs, ht⟩
  · simp at e
  · simp only [Value.slice.injEq, Option.some.injEq, Addr.mk.injEq, and_true] at e
    obtain ⟨rfl, -, rfl⟩ := e
    rw [← lcells_drop, List.getElem?_drop] at hj
    rw [cell_of_block hg _]
    rw [← ht, List.getElem?_take] at hj
    split at hj
    · simpa using hj
    · cases hj

theorem infoL : (Tryz.prog.info? 42).map (fun i => (i.zero, i.size, i.bytes)) = some (some (.agg #[.int .i64 0, .string ByteArray.empty, .int .i64 0]), 3, 32) := by kernel_rfl
def zl : Lv := ⟨0, [], 0⟩
theorem zeroCells_l (n : Nat) : (Builtin.zeroCells (Value.agg #[.int .i64 0, .string ByteArray.empty, .int .i64 0]).cells n).toList = lcells (List.replicate n zl) := by
  have hz : (Value.agg #[.int .i64 0, .string ByteArray.empty, .int .i64 0]).cells = #[.int .i64 0, .string ByteArray.empty, .int .i64 0] := rfl
  rw [hz]
  apply List.ext_getElem?
  intro j
  have h3 : j % 3 = 0 ∨ j % 3 = 1 ∨ j % 3 = 2 := by omega
  by_cases hj : j < n * 3
  · have hr : (List.replicate n zl)[j / 3]? = some zl := by rw [List.getElem?_replicate, if_pos (by omega)]
    obtain ⟨a, b, c⟩ := lcells_at _ _ _ hr
    have l : (Builtin.zeroCells #[Value.int .i64 0, .string ByteArray.empty, .int .i64 0] n).toList[j]? = some (#[Value.int .i64 0, .string ByteArray.empty, .int .i64 0][j % 3]!) := by
      simp [Builtin.zeroCells, hj]
    rw [l]
    rcases h3 with h | h | h
    · rw [h, show j = j / 3 * 3 by omega, a]; rfl
    · rw [h, show j = j / 3 * 3 + 1 by omega, b]; rfl
    · rw [h, show j = j / 3 * 3 + 2 by omega, c]; rfl
  · rw [List.getElem?_eq_none (by simp [Builtin.zeroCells]; omega), List.getElem?_eq_none (by rw [lcells_length, List.length_replicate]; omega)]

/-- cells that are laid over a row that is known whole -/
theorem setCells_row {w : World} {g o : Nat} {cur : List Value} {t : TypeId} {cs : List Value} (hg : w.heap[g]? = some (.cells cur.toArray t (0, 0))) (hfit : o + cs.length ≤ cur.length) (h1 : ∀ u ∈ cs, u.oneCell' = true) :
    w.setCells g o cs = w.setRow g (splice cur o cs).toArray := by
  have e1 := run_storeCells_at Tryz.prog g o t cs 0 cur.toArray w hg (by simpa using hfit) h1
  have e2 := run_storeCells_cells (P := Tryz.prog) g o cs 0 w (fun j hj => by
    rw [cell_of_block hg]
    simp only [Nat.add_zero]
    rw [List.getElem?_toArray, List.getElem?_eq_getElem (by omega)]
    rfl) (fun j hj => unfrozen_of_block hg _) h1
  rw [e1] at e2
  injection e2 with _ e3
  simp only [Nat.add_zero] at e3
  rw [← e3]
  unfold splice
  simp
theorem splice_two {X Y Z cur : List Value} {a : Nat} (hx : cur.take a = X) (ha : X.length = a) (hf : a + Y.length + Z.length ≤ cur.length) :
    (splice (splice cur a Y) (a + Y.length) Z).take (a + Y.length + Z.length) = X ++ Y ++ Z := by
  subst hx
  unfold splice
  have hl : (cur.take a).length = a := ha
  rw [← List.append_assoc, ← List.append_assoc]
  have e1 : (cur.take a ++ Y ++ cur.drop (a + Y.length)).take (a + Y.length) = cur.take a ++ Y := by
    rw [show a + Y.length = (cur.take a ++ Y).length by rw [List.length_append, hl]]
    exact List.take_left
  rw [e1, show a + Y.length + Z.length = (cur.take a ++ Y ++ Z).length by rw [List.length_append, List.length_append, hl]]
  exact List.take_left
theorem splice_two' {X Y Z cur : List Value} {a : Nat} (hx : cur.take a = X) (ha : X.length = a) (hf : a + Y.length + Z.length ≤ cur.length) :
    (splice (splice cur (a + Y.length) Z) a Y).take (a + Y.length + Z.length) = X ++ Y ++ Z := by
  subst hx
  have hl : (cur.take a).length = a := ha
  have hl2 : (cur.take (a + Y.length)).length = a + Y.length := by rw [List.length_take]; omega
  unfold splice
  have e1 : (cur.take (a + Y.length) ++ (Z ++ cur.drop (a + Y.length + Z.length))).take a = cur.take a := by
    rw [List.take_append_of_le_length (by omega), List.take_take]
    congr 1
    omega
  have e2 : (cur.take (a + Y.length) ++ (Z ++ cur.drop (a + Y.length + Z.length))).drop (a + Y.length) = Z ++ cur.drop (a + Y.length + Z.length) := by
    conv => lhs; arg 1; rw [← hl2]
    exact List.drop_left
  rw [e1, e2, ← List.append_assoc, ← List.append_assoc, show a + Y.length + Z.length = (cur.take a ++ Y ++ Z).length by rw [List.length_append, List.length_append, hl]]
  exact List.take_left
theorem splice_one {X Y cur : List Value} {a : Nat} (hx : cur.take a = X) (ha : X.length = a) (hf : a + Y.length ≤ cur.length) : (splice cur a Y).take (a + Y.length) = X ++ Y := by
  subst hx
  unfold splice
  rw [← List.append_assoc, show a + Y.length = (cur.take a ++ Y).length by rw [List.length_append, ha]]
  exact List.take_left
theorem splice_far {cur Y : List Value} {a n : Nat} (hn : n ≤ a) (ha : a ≤ cur.length) : (splice cur a Y).take n = cur.take n := by
  unfold splice
  rw [List.take_append_of_le_length (by rw [List.length_take]; omega), List.take_take]
  congr 1
  omega
theorem grown_setRow (w : World) (g : Nat) (cs : Array Value) : w.grownBy (w.setRow g cs) (some g) :=
  ⟨rfl, rfl, rfl, by simp, fun k _ hk => setRow_other w g k cs (fun e => hk (by rw [e]))⟩

/-- v' lies where v lay, or in new memory -/
def NewB (w : World) (v v' : Value) : Prop := ∀ k, v'.ownBlock = some k → v.ownBlock = some k ∨ w.heap.size ≤ k
theorem run_append_l (w : World) (B : Nat) (v : Value) (l : List Lv) (hown : OwL w B v l) (hB : B ≤ w.heap.size) (ad : Addr) (m c : Nat) (rs : List Lv) (hm : rs.length = m)
    (hnews : ∀ j u, (lcells rs)[j]? = some u → w.cell? (ad.add j) = some u) (hsz : l.length + m ≤ 4294967297) (ty : TypeId) :
    ∃ v' w', (Builtin.append_ #[27, 27] ty #[v, .slice (some ad) m c]).run Tryz.prog w = .ok v' w' ∧ OwL w' B v' (l ++ rs) ∧ w.grownBy w' v.ownBlock ∧ NewB w v v' := by
  obtain ⟨i0, hi, hz0, hz1, hz2⟩ := info_parts infoL
  have hl : (lcells rs).length = m * 3 := by rw [lcells_length, hm]
  have hml : l.length + m ≤ maxLen := by unfold maxLen; omega
  obtain ⟨v', w', hr, h1, h2, h3⟩ := run_append_own (P := Tryz.prog) w B 27 ty 42 i0 _ 3 32 Tryz.underlying27 hi hz0 hz1 hz2 rfl (by decide) v l.length (lcells l) hown ad m c (lcells rs) hl hnews (lcells_one rs) hml (by omega) hB
  refine ⟨v', w', hr, ?_, h2, ?_⟩
  · unfold OwL
    rw [lcells_app, List.length_append, hm]
    exact h1
  · intro k hk
    rcases hown.cases with ⟨rfl, rfl⟩ | ⟨g, cap, cur, rfl, hb, hg, hn, hc, hs, ht⟩
    · obtain ⟨v2, w2, hr2, k1, -, -⟩ := run_append_own (P := Tryz.prog) w w.heap.size 27 ty 42 i0 _ 3 32 Tryz.underlying27 hi hz0 hz1 hz2 rfl (by decide) (.slice none 0 0) 0 [] (World.ownsRow_nil w _ _ 3) ad m c (lcells rs) hl hnews (lcells_one rs) (by simpa using hml) (by simp at hsz ⊢; omega) (Nat.le_refl _)
      rw [hr] at hr2
      injection hr2 with e1 e2
      subst e1 e2
      exact .inr (k1.lt k hk).1
    · by_cases hroom : l.length + m ≤ cap
      · have hr2 := run_append_room_cells (P := Tryz.prog) w 27 ty 42 i0 Tryz.underlying27 hi g 0 l.length cap ad m c (lcells rs) (by rw [hz1]; exact hl) hnews (lcells_one rs) hroom
          (fun j hj => by rw [cell_of_block hg, hz1]; rw [List.getElem?_toArray, List.getElem?_eq_getElem (by rw [hl] at hj; omega)]; rfl) (fun j hj => unfrozen_of_block hg _)
        rw [hr] at hr2
        injection hr2 with e1 e2
        subst e1
        exact .inl hk
      · obtain ⟨v2, w2, hr2, k1, -⟩ := run_append_arg_grows (P := Tryz.prog) w 27 ty 42 i0 _ 3 32 Tryz.underlying27 hi hz0 hz1 hz2 rfl (by decide) ⟨g, 0, none⟩ l.length cap (lcells l) (lcells_length l)
          (hown.from 0) ad m c (lcells rs) hl hnews (by omega) hml (by omega)
        rw [hr] at hr2
        injection hr2 with e1 e2
        subst e1 e2
        exact .inr (k1.lt k hk).1
theorem wp_pushL {ops : Array Oper} {rest : List Oper} {o : Oper} {a : Act} {w : World} {Q : Exit → Act → World → Prop} (hgd : o.guard = none) (s x : Operand)
    (ho : o.op = .call { callee := .builtin .append, args := #[s, x], argTypes := #[27, 27] })
    (B : Nat) (v : Value) (l : List Lv) (hs : a.eval s = v) (hown : OwL w B v l) (hB : B ≤ w.heap.size) (ad : Addr) (m c : Nat) (rs : List Lv) (hm : rs.length = m) (hx : a.eval x = .slice (some ad) m c)
    (hnews : ∀ j u, (lcells rs)[j]? = some u → w.cell? (ad.add j) = some u) (hsz : l.length + m ≤ 4294967297)
    (h : ∀ v' w', OwL w' B v' (l ++ rs) → w.grownBy w' v.ownBlock → NewB w v v' → wpList Tryz.prog ops Q rest (a.put o.dst v') w') : wpList Tryz.prog ops Q (o :: rest) a w := by
  refine wpList_plain hgd fun K hK => ?_
  obtain ⟨v', w', hr, h1, h2, h3⟩ := run_append_l w B v l hown hB ad m c rs hm hnews hsz o.type
  unfold Oper.wp
  simp [execOp, ho, resolve, invoke, builtin, hs, hx, hr, Result.andThen]
  exact hK _ _ (h v' w' h1 h2 h3)
theorem step_pushL {ops : Array Oper} {o : Oper} {a : Act} {w : World} {K : Act → World → Prop} {Q : Exit → Act → World → Prop} {E : Prop} (hgd : o.guard = none) (s x : Operand)
    (ho : o.op = .call { callee := .builtin .append, args := #[s, x], argTypes := #[27, 27] })
    (B : Nat) (v : Value) (l : List Lv) (hs : a.eval s = v) (hown : OwL w B v l) (hB : B ≤ w.heap.size) (ad : Addr) (m c : Nat) (rs : List Lv) (hm : rs.length = m) (hx : a.eval x = .slice (some ad) m c)
    (hnews : ∀ j u, (lcells rs)[j]? = some u → w.cell? (ad.add j) = some u) (hsz : l.length + m ≤ 4294967297)
    (h : ∀ v' w', OwL w' B v' (l ++ rs) → w.grownBy w' v.ownBlock → NewB w v v' → K (a.put o.dst v') w') : if Region.wanted o (yielded ops a.tmps) = true then Oper.wp Tryz.prog o a w K Q else E := by
  have hw : Region.wanted o (yielded ops a.tmps) = true := by simp [Region.wanted, hgd]
  rw [if_pos hw]
  obtain ⟨v', w', hr, h1, h2, h3⟩ := run_append_l w B v l hown hB ad m c rs hm hnews hsz o.type
  unfold Oper.wp
  simp [execOp, ho, resolve, invoke, builtin, hs, hx, hr, Result.andThen]
  exact h v' w' h1 h2 h3

/-- copy between slices of locks, onto a row that is known whole -/
theorem run_copy_p (w : World) (ty : TypeId) (g o dLen dCap : Nat) (a : Addr) (sLen sCap : Nat) (cur : List Value) (t : TypeId) (rs : List Lv)
    (hg : w.heap[g]? = some (.cells cur.toArray t (0, 0))) (hn : rs.length = Nat.min sLen dLen)
    (hsrc : ∀ j v, (lcells rs)[j]? = some v → w.cell? (a.add j) = some v) (hfit : o + rs.length * 3 ≤ cur.length) :
    (Builtin.copy_ #[27, 27] ty #[.slice (some ⟨g, o, none⟩) dLen dCap, .slice (some a) sLen sCap]).run Tryz.prog w = .ok (goInt rs.length) (w.setRow g (splice cur o (lcells rs)).toArray) := by
  have hl := run_loadCells_list (P := Tryz.prog) w a (lcells rs) hsrc
  have hst := run_storeCells_at Tryz.prog g o t (lcells rs) 0 cur.toArray w hg (by rw [lcells_length]; simpa using hfit) (lcells_one rs)
  obtain ⟨i0, hi, hz0, hz1, hz2⟩ := info_parts infoL
  rw [lcells_length] at hl
  have hu := Tryz.underlying27
  simp [Builtin.copy_, run_underlying hu, Builtin.lenOf, Builtin.firstCells, sizeOf, typeInfo, hi, hz1, ← hn, hl, hst, splice]
theorem wp_copyL {ops : Array Oper} {rest : List Oper} {o : Oper} {a : Act} {w : World} {Q : Exit → Act → World → Prop} (hgd : o.guard = none) (d s : Operand)
    (ho : o.op = .call { callee := .builtin .copy, args := #[d, s], argTypes := #[27, 27] }) (g off dLen dCap : Nat) (ad : Addr) (sLen sCap : Nat)
    (hd : a.eval d = .slice (some ⟨g, off, none⟩) dLen dCap) (hs : a.eval s = .slice (some ad) sLen sCap) (cur : List Value) (t : TypeId) (hg : w.heap[g]? = some (.cells cur.toArray t (0, 0))) (rs : List Lv) (hn : rs.length = Nat.min sLen dLen)
    (hsrc : ∀ j v, (lcells rs)[j]? = some v → w.cell? (ad.add j) = some v) (hfit : off + rs.length * 3 ≤ cur.length)
    (h : ∀ w', w' = w.setRow g (splice cur off (lcells rs)).toArray → wpList Tryz.prog ops Q rest (a.put o.dst (goInt rs.length)) w') : wpList Tryz.prog ops Q (o :: rest) a w := by
  refine wpList_plain hgd fun K hK => ?_
  have hrun := run_copy_p w o.type g off dLen dCap ad sLen sCap cur t rs hg hn hsrc hfit
  unfold Oper.wp
  simp [execOp, ho, resolve, invoke, builtin, hd, hs, hrun, Result.andThen]
  exact hK _ _ (h _ rfl)
theorem step_copyL {ops : Array Oper} {o : Oper} {a : Act} {w : World} {K : Act → World → Prop} {Q : Exit → Act → World → Prop} {E : Prop} (hgd : o.guard = none) (d s : Operand)
    (ho : o.op = .call { callee := .builtin .copy, args := #[d, s], argTypes := #[27, 27] }) (g off dLen dCap : Nat) (ad : Addr) (sLen sCap : Nat)
    (hd : a.eval d = .slice (some ⟨g, off, none⟩) dLen dCap) (hs : a.eval s = .slice (some ad) sLen sCap) (cur : List Value) (t : TypeId) (hg : w.heap[g]? = some (.cells cur.toArray t (0, 0))) (rs : List Lv) (hn : rs.length = Nat.min sLen dLen)
    (hsrc : ∀ j v, (lcells rs)[j]? = some v → w.cell? (ad.add j) = some v) (hfit : off + rs.length * 3 ≤ cur.length)
    (h : ∀ w', w' = w.setRow g (splice cur off (lcells rs)).toArray → K (a.put o.dst (goInt rs.length)) w') : if Region.wanted o (yielded ops a.tmps) = true then Oper.wp Tryz.prog o a w K Q else E := by
  have hw : Region.wanted o (yielded ops a.tmps) = true := by simp [Region.wanted, hgd]
  rw [if_pos hw]
  have hrun := run_copy_p w o.type g off dLen dCap ad sLen sCap cur t rs hg hn hsrc hfit
  unfold Oper.wp
  simp [execOp, ho, resolve, invoke, builtin, hd, hs, hrun, Result.andThen]
  exact h _ rfl
/-- clear of a piece of a row that is known whole -/
theorem run_clear_p (w : World) (ty : TypeId) (g o n c : Nat) (cur : List Value) (t : TypeId) (hg : w.heap[g]? = some (.cells cur.toArray t (0, 0))) (hn : 0 < n) (hfit : o + n * 3 ≤ cur.length) :
    (Builtin.clear_ #[27] ty #[.slice (some ⟨g, o, none⟩) n c]).run Tryz.prog w = .ok (.tuple #[]) (w.setRow g (splice cur o (lcells (List.replicate n zl))).toArray) := by
  have hst := run_storeCells_at Tryz.prog g o t (lcells (List.replicate n zl)) 0 cur.toArray w hg (by rw [lcells_length, List.length_replicate]; simpa using hfit) (lcells_one _)
  obtain ⟨i0, hi, hz0, hz1, hz2⟩ := info_parts infoL
  have hz := zeroCells_l n
  have hv : (zeroValue 42).run Tryz.prog w = .ok (.agg #[.int .i64 0, .string ByteArray.empty, .int .i64 0]) w := by simp [zeroValue, typeInfo, hi, hz0]
  obtain ⟨m, rfl⟩ : ∃ m, n = m + 1 := ⟨n - 1, by omega⟩
  simp [Builtin.clear_, run_underlying Tryz.underlying27, hv, hz, hst, splice]

end Go.Proofs.YtelfinhpjokmdaaGreatDoor

namespace Go.Proofs.YtelfinhpjokmdaaGreatDoor
set_option maxRecDepth 100000
open Go.RowKit Go.Joins Go.ChangeShapes Go.WideShapes
set_option linter.unusedVariables false

/-- append with room, onto a row that is known whole, as a step of a region -/
theorem step_roomP {ops : Array Oper} {o : Oper} {a : Act} {w : World} {K : Act → World → Prop} {Q : Exit → Act → World → Prop} {E : Prop} (hgd : o.guard = none) (s x : Operand)
    (ho : o.op = .call { callee := .builtin .append, args := #[s, x], argTypes := #[27, 27] })
    (g n cap : Nat) (cur : List Value) (hs : a.eval s = .slice (some ⟨g, 0, none⟩) n cap) (hg : w.heap[g]? = some (.cells cur.toArray 42 (0, 0))) (hc : cur.length = cap * 3)
    (ad : Addr) (m c : Nat) (rs : List Lv) (hx : a.eval x = .slice (some ad) m c) (hm : rs.length = m)
    (hnews : ∀ j u, (lcells rs)[j]? = some u → w.cell? (ad.add j) = some u) (hroom : n + m ≤ cap)
    (h : ∀ w', w' = w.setRow g (splice cur (n * 3) (lcells rs)).toArray → K (a.put o.dst (.slice (some ⟨g, 0, none⟩) (n + m) cap)) w') : if Region.wanted o (yielded ops a.tmps) = true then Oper.wp Tryz.prog o a w K Q else E := by
  obtain ⟨i0, hi, hz0, hz1, hz2⟩ := info_parts infoL
  have hl : (lcells rs).length = m * 3 := by rw [lcells_length, hm]
  refine step_append_room hgd s x _ ho 42 i0 3 Tryz.underlying27 hi hz1 g 0 n cap hs ad m c (lcells rs) hx hl hnews (lcells_one rs) hroom
    (fun j hj => ⟨by rw [cell_of_block hg]; rw [List.getElem?_toArray, List.getElem?_eq_getElem (by rw [hl] at hj; omega)]; rfl, unfrozen_of_block hg _⟩) ?_
  rw [Nat.zero_add]
  exact h _ (setCells_row hg (by rw [hl, hc]; omega) (lcells_one rs))

set_option maxHeartbeats 4000000 in
set_option maxRecDepth 100000 in
theorem del_any (B : Nat) (w : World) (v : Value) (l : List Lv) (hown : OwL w B v l) (hsz : l.length ≤ 4294967296) (i j : Nat) (hij : i < j) (hj : j ≤ l.length) :
    Calls Tryz.prog 59 #[v, .int .i64 i, .int .i64 j] w fun e w' => ∃ v', e = .returned v' ∧ OwL w' B v' (l.take i ++ l.drop j) ∧ v'.ownBlock = v.ownBlock ∧ w.grownBy w' v.ownBlock := by
  rcases hown.cases with ⟨-, rfl⟩ | ⟨g, cap, cur, rfl, hb, hg, hn, hc, hs, ht⟩
  · simp at hj; omega
  generalize hP : (fun (e : Ending) (w' : World) => ∃ v', e = .returned v' ∧ OwL w' B v' (l.take i ++ l.drop j) ∧ v'.ownBlock = (Value.slice (some ⟨g, 0, none⟩) l.length cap).ownBlock ∧ w.grownBy w' (Value.slice (some ⟨g, 0, none⟩) l.length cap).ownBlock) = P
  have hlen : (l.take i ++ l.drop j).length = i + (l.length - j) := by rw [List.length_append, List.length_take, List.length_drop]; omega
  have hd : (l.drop j).length = l.length - j := List.length_drop
  obtain ⟨cur1, hcur1⟩ : ∃ c, c = splice cur (i * 3) (lcells (l.drop j)) := ⟨_, rfl⟩
  obtain ⟨cur2, hcur2⟩ : ∃ c, c = splice cur1 ((i + (l.length - j)) * 3) (lcells (List.replicate (l.length - (i + (l.length - j))) zl)) := ⟨_, rfl⟩
  obtain ⟨W1, hW1⟩ : ∃ W1, W1 = w.drew.setRow g cur1.toArray := ⟨_, rfl⟩
  have hgd : w.drew.heap[g]? = some (.cells cur.toArray 42 (0, 0)) := hg
  have hg1 : W1.heap[g]? = some (.cells cur1.toArray 42 (0, 0)) := by rw [hW1]; exact setRow_heap _ _ _ _ _ _ hgd
  have l1 : cur1.length = cap * 3 := by rw [hcur1, length_splice _ _ _ (by rw [lcells_length, hd]; omega), hs]
  have l2 : cur2.length = cap * 3 := by rw [hcur2, length_splice _ _ _ (by rw [lcells_length, List.length_replicate]; omega), l1]
  have hpost : ∀ w', w' = W1.setRow g cur2.toArray → P (.returned (.slice (some ⟨g, 0, none⟩) (i + (l.length - j)) cap)) w' := by
    intro w' hw'
    rw [← hP]
    refine ⟨_, rfl, ?_, rfl, ?_⟩
    · rw [← hlen]
      refine OwL.mk (cur := cur2) hb ?_ (by omega) hc l2 ?_
      · rw [hw']; exact setRow_heap _ _ _ _ _ _ hg1
      · rw [hlen, hcur2, splice_far (Nat.le_refl _) (by rw [l1]; omega), hcur1, lcells_app, show (i + (l.length - j)) * 3 = i * 3 + (lcells (l.drop j)).length by rw [lcells_length, hd]; omega]
        refine splice_one ?_ ?_ (by rw [lcells_length, hd]; omega)
        · rw [← lcells_take, ← ht, List.take_take]; congr 1; omega
        · rw [lcells_length, List.length_take]; omega
    · rw [hw', hW1]
      exact ⟨rfl, rfl, rfl, by simp, fun k hk hne => by
        have : k ≠ g := fun e => hne (by rw [e]; rfl)
        rw [setRow_other _ _ _ _ this, setRow_other _ _ _ _ this]; rfl⟩
  have hcl : ∀ ty, (Builtin.clear_ #[27] ty #[.slice (some ⟨g, (i + (l.length - j)) * 3, none⟩) (l.length - (i + (l.length - j))) (cap - (i + (l.length - j)))]).run Tryz.prog W1 = .ok (.tuple #[]) (W1.setRow g cur2.toArray) := by
    intro ty
    rw [hcur2]
    exact run_clear_p W1 ty g _ _ _ cur1 _ hg1 (by omega) (by rw [l1]; omega)
  obtain ⟨A, hA, hsrc⟩ : ∃ A : Addr, (if cap = j then some (⟨g, 0, none⟩ : Addr) else some ⟨g, j * 3, none⟩) = some A ∧ Hid (∀ t u, (lcells (l.drop j))[t]? = some u → w.drew.cell? (A.add t) = some u) := by
    by_cases h : cap = j
    · refine ⟨⟨g, 0, none⟩, by simp [h], fun t u hu => ?_⟩
      rw [List.drop_eq_nil_of_le (by omega)] at hu
      simp [lcells] at hu
    · exact ⟨⟨g, j * 3, none⟩, by simp [h], hown.from j⟩
  have HP := Lib.hid hpost
  have HG := Lib.hid hgd
  have HS := Lib.hid hs
  have HD := Lib.hid hd
  have HW := Lib.hid (show W1 = w.drew.setRow g (splice cur (i * 3) (lcells (l.drop j))).toArray by rw [hW1, hcur1])
  have HC2 := Lib.hid l2
  have hhi : l.length ≤ cap := hn
  have hne : ¬ cap = i + (l.length - j) := by omega
  have hij2 : ¬ (i : Int) = (j : Int) := by omega
  have hic : i ≤ cap := by omega
  have hjc : j ≤ cap := by omega
  have hkc : i + (l.length - j) ≤ cap := by omega
  generalize l.length = n at *
  unfold maxLen at hc
  clear hpost hP hgd hs hd hg hg1 l1 l2 hcur1 hcur2 hW1 ht hlen hown
  go_enter Tryz.func59, Tryz.ntmps59
  go_wp2_with fail
  go_region_law (refine step_roomP rfl (.tmp 22) (.tmp 25) rfl g i cap cur (by simp [Act.eval, Act.put]) HG.out HS.out A (n - j) (cap - j) (l.drop j) (by simp [Act.eval, Act.put]) HD.out hsrc.out (by omega) ?_; rw [← HW.out]; rintro w1 rfl)
  go_wp2
  exact HP.out _ rfl

end Go.Proofs.YtelfinhpjokmdaaGreatDoor

namespace Go.Proofs.YtelfinhpjokmdaaGreatDoor
set_option maxRecDepth 100000
open Go.RowKit Go.Joins Go.ChangeShapes Go.WideShapes
set_option linter.unusedVariables false

set_option maxHeartbeats 1000000 in
set_option maxRecDepth 100000 in
theorem clone_any (w : World) (g off m c : Nat) (rs : List Lv) (hm : rs.length = m) (hnews : ∀ j u, (lcells rs)[j]? = some u → w.cell? ((⟨g, off, none⟩ : Addr).add j) = some u) (hsz : m ≤ 4294967296) :
    Calls Tryz.prog 42 #[.slice (some ⟨g, off, none⟩) m c] w fun e w' => ∃ v', e = .returned v' ∧ OwL w' w.heap.size v' rs ∧ Below w.heap.size w w' := by
  generalize hP : (fun (e : Ending) (w' : World) => ∃ v', e = .returned v' ∧ OwL w' w.heap.size v' rs ∧ Below w.heap.size w w') = P
  have hpost : ∀ v' w', OwL w' w.heap.size v' rs → Below w.heap.size w w' → P (.returned v') w' := by
    intro v' w' h1 h2; rw [← hP]; exact ⟨v', rfl, h1, h2⟩
  have HP := Lib.hid hpost
  obtain ⟨W1, hW1⟩ : ∃ W1, W1 = w.alloc (.cells #[] 42) := ⟨_, rfl⟩
  have HO := Lib.hid (show OwL W1 w.heap.size (.slice (some ⟨w.heap.size, 0, none⟩) 0 0) [] by rw [hW1]; exact World.ownsRow_made w #[] 0 (Nat.le_refl _) (by decide) rfl)
  have hb : Below w.heap.size w W1 := by rw [hW1]; exact (Below.refl _ _).alloc (Nat.le_refl _) _
  have HB := Lib.hid hb
  have HN := Lib.hid (show ∀ j u, (lcells rs)[j]? = some u → W1.cell? ((⟨g, off, none⟩ : Addr).add j) = some u by rw [hW1]; exact fun j u h => Lib.cell?_alloc_some _ (hnews j u h))
  have HW := Lib.hid hW1
  have HM := Lib.hid hm
  have heq : (binOp .eql 27 (.slice (some ⟨g, off, none⟩) m c) (.slice none 0 0)).run Tryz.prog w = .ok (.bool false) w := Lib.run_eql_slice_nil w _ _ _ _ _ _ _ Tryz.underlying27
  clear hpost hP hnews hb hW1 hm
  go_enter Tryz.func42, Tryz.ntmps42
  go_wp2_with (first | (at_builtin; rw [← HW.out]; refine wp_pushL rfl (.tmp 5) (.tmp 6) rfl w.heap.size (.slice (some ⟨w.heap.size, 0, none⟩) 0 0) [] rfl HO.out HB.out.size ⟨g, off, none⟩ m c rs HM.out rfl HN.out (by simp; omega) ?_; intro v1 w1 hown1 hgrow1 hnew1; have HX := Lib.hid (And.intro hown1 (HB.out.grown hgrow1 HB.out.size (fun k hk => (HO.out.lt k hk).1))); clear hown1 hgrow1 hnew1))
  exact HP.out _ _ (by have := HX.out.1; simpa using this) HX.out.2

/-- a part that has just been laid in a block of its own -/
def BoxL (w : World) (gv : Nat) (p : Lv) : Prop := w.heap[gv]? = some (.cells #[.int .i64 p.txn, .string ⟨p.res.toArray⟩, .int .i64 p.mode] 42 (0, 0))
theorem BoxL.news {w : World} {gv : Nat} {p : Lv} (h : BoxL w gv p) : ∀ j u, (lcells [p])[j]? = some u → w.cell? ((⟨gv, 0, none⟩ : Addr).add j) = some u :=
  World.news_of_block (cs := #[.int .i64 p.txn, .string ⟨p.res.toArray⟩, .int .i64 p.mode]) h

theorem insert_row {l : List Lv} {p : Lv} {i : Nat} (hi : i ≤ l.length) : (l.take i ++ p :: l.drop i).length = l.length + 1 := by
  rw [List.length_append, List.length_cons, List.length_take, List.length_drop]; omega

/-- at the end -/
theorem ins_end (B : Nat) (w : World) (hB : B ≤ w.heap.size) (v : Value) (l : List Lv) (hown : OwL w B v l) (hsz : l.length ≤ 4294967296) (p : Lv) (gv : Nat) (hv : BoxL w gv p) :
    Calls Tryz.prog 52 #[v, .int .i64 (l.length : Nat), .slice (some ⟨gv, 0, none⟩) 1 1] w fun e w' => ∃ v', e = .returned v' ∧ OwL w' B v' (l ++ [p]) ∧ w.grownBy w' v.ownBlock ∧ NewB w v v' := by
  generalize hP : (fun (e : Ending) (w' : World) => ∃ v', e = .returned v' ∧ OwL w' B v' (l ++ [p]) ∧ w.grownBy w' v.ownBlock ∧ NewB w v v') = P
  have hpost : ∀ v' w', OwL w' B v' (l ++ [p]) → w.grownBy w' v.ownBlock → NewB w v v' → P (.returned v') w' := by
    intro v' w' h1 h2 h3; rw [← hP]; exact ⟨v', rfl, h1, h2, h3⟩
  have HP := Lib.hid hpost
  have HO := Lib.hid hown
  have HN := Lib.hid hv.news
  have hf : ∃ a cap, v = .slice a l.length cap ∧ l.length ≤ cap := by
    rcases hown.cases with ⟨rfl, rfl⟩ | ⟨g, cap, cur, rfl, hb, hg, hn, hc, hs, ht⟩
    · exact ⟨none, 0, rfl, Nat.le_refl _⟩
    · exact ⟨_, cap, rfl, hn⟩
  obtain ⟨a, cap, rfl, hcap⟩ := hf
  obtain ⟨n, hn⟩ : ∃ n, l.length = n := ⟨_, rfl⟩
  have HL := Lib.hid hn
  rw [hn] at HP HO hsz hcap ⊢
  clear hpost hP hown hv hn
  go_enter Tryz.func52, Tryz.ntmps52
  go_wp2_with (first | (at_builtin; refine wp_pushL rfl (.tmp 23) (.tmp 24) rfl B _ l rfl HO.out hB ⟨gv, 0, none⟩ 1 1 [p] rfl rfl HN.out (by rw [HL.out]; omega) ?_; intro v1 w1 hown1 hgrow1 hnew1; have HX := Lib.hid (And.intro hown1 (And.intro hgrow1 hnew1)); clear hown1 hgrow1 hnew1))
  all_goals exact HP.out _ _ HX.out.1 HX.out.2.1 HX.out.2.2

set_option maxHeartbeats 4000000 in
set_option maxRecDepth 100000 in
/-- there is room -/
theorem ins_room (B : Nat) (w : World) (g cap : Nat) (l : List Lv) (hown : OwL w B (.slice (some ⟨g, 0, none⟩) l.length cap) l) (hsz : l.length ≤ 4294967296) (i : Nat) (hi : i < l.length) (hr : l.length + 1 ≤ cap) (p : Lv) (gv : Nat) (hv : BoxL w gv p) (hne : gv ≠ g) :
    Calls Tryz.prog 52 #[.slice (some ⟨g, 0, none⟩) l.length cap, .int .i64 i, .slice (some ⟨gv, 0, none⟩) 1 1] w fun e w' => ∃ v', e = .returned v' ∧ OwL w' B v' (l.take i ++ p :: l.drop i) ∧ w.grownBy w' (some g) ∧ v'.ownBlock = some g := by
  obtain ⟨cur, hb, hg, hc, hs, ht⟩ : ∃ cur : List Value, B ≤ g ∧ w.heap[g]? = some (.cells cur.toArray 42 (0, 0)) ∧ cap ≤ maxLen ∧ cur.length = cap * 3 ∧ cur.take (l.length * 3) = lcells l := by
    rcases hown.cases with ⟨e, -⟩ | ⟨g', cap', cur, e, hb, hg, hn, hc, hs, ht⟩
    · simp at e
    · simp only [Value.slice.injEq, Option.some.injEq, Addr.mk.injEq, and_true, true_and] at e
      obtain ⟨rfl, rfl⟩ := e
      exact ⟨cur, hb, hg, hc, hs, ht⟩
  generalize hP : (fun (e : Ending) (w' : World) => ∃ v', e = .returned v' ∧ OwL w' B v' (l.take i ++ p :: l.drop i) ∧ w.grownBy w' (some g) ∧ v'.ownBlock = some g) = P
  have hd : (l.drop i).length = l.length - i := List.length_drop
  have hlen := insert_row (p := p) (Nat.le_of_lt hi)
  obtain ⟨cur1, hcur1⟩ : ∃ c, c = splice cur ((i + 1) * 3) (lcells (l.drop i)) := ⟨_, rfl⟩
  obtain ⟨cur2, hcur2⟩ : ∃ c, c = splice cur1 (i * 3) (lcells [p]) := ⟨_, rfl⟩
  obtain ⟨W1, hW1⟩ : ∃ W1, W1 = w.drew.setRow g cur1.toArray := ⟨_, rfl⟩
  have hgd : w.drew.heap[g]? = some (.cells cur.toArray 42 (0, 0)) := hg
  have hg1 : W1.heap[g]? = some (.cells cur1.toArray 42 (0, 0)) := by rw [hW1]; exact setRow_heap _ _ _ _ _ _ hgd
  have l1 : cur1.length = cap * 3 := by rw [hcur1, length_splice _ _ _ (by rw [lcells_length, hd]; omega), hs]
  have l2 : cur2.length = cap * 3 := by rw [hcur2, length_splice _ _ _ (by rw [lcells_length, List.length_singleton]; omega), l1]
  have hpost : ∀ w', w' = W1.setRow g cur2.toArray → P (.returned (.slice (some ⟨g, 0, none⟩) (l.length + 1) cap)) w' := by
    intro w' hw'
    rw [← hP]
    refine ⟨_, rfl, ?_, ?_, rfl⟩
    · rw [← hlen]
      refine OwL.mk (cur := cur2) hb ?_ (by rw [hlen]; omega) hc l2 ?_
      · rw [hw']; exact setRow_heap _ _ _ _ _ _ hg1
      · rw [hlen, show l.take i ++ p :: l.drop i = l.take i ++ [p] ++ l.drop i by simp, lcells_app, lcells_app, hcur2, hcur1]
        have := splice_two' (X := lcells (l.take i)) (Y := lcells [p]) (Z := lcells (l.drop i)) (cur := cur) (a := i * 3) (by rw [← lcells_take, ← ht, List.take_take]; congr 1; omega) (by rw [lcells_length, List.length_take]; omega) (by rw [lcells_length, lcells_length, hd, List.length_singleton]; omega)
        rw [lcells_length, lcells_length, hd, List.length_singleton, show i * 3 + 1 * 3 + (l.length - i) * 3 = (l.length + 1) * 3 by omega, show i * 3 + 1 * 3 = (i + 1) * 3 by omega] at this
        exact this
    · rw [hw', hW1]
      exact ⟨rfl, rfl, rfl, by simp, fun k hk hne => by
        have : k ≠ g := fun e => hne (by rw [e])
        rw [setRow_other _ _ _ _ this, setRow_other _ _ _ _ this]; rfl⟩
  have hov : ∀ lb cb, (callFunc 69 #[.slice (some ⟨gv, 0, none⟩) 1 1, .slice (some ⟨g, (i + 1) * 3, none⟩) lb cb]).run Tryz.prog w = .ok (.value (.bool false)) w := fun lb cb => by
    rw [run_callFunc_extern (fn := Tryz.f69) (by kernel_rfl) (by kernel_rfl) (by kernel_rfl) (by kernel_rfl) (e := Extern.SlicesOverlaps.overlaps #[27, 27] #[4]) (by kernel_rfl),
      Lib.run_overlaps_apart w 27 4 42 Tryz.underlying27 3 (fun w => by first | rfl | kernel_rfl) ⟨gv, 0, none⟩ ⟨g, (i + 1) * 3, none⟩ 1 1 lb cb hne 42 42 3 (cap * 3) (by unfold World.shape?; rw [hv]; rfl) (by unfold World.shape?; rw [hg]; simp [hs]) (by omega) (unfrozen_of_block hv _) (unfrozen_of_block hv _)]
    rfl
  have HP := Lib.hid hpost
  have HG := Lib.hid hgd
  have HG1 := Lib.hid hg1
  have HS := Lib.hid hs
  have HL1 := Lib.hid l1
  have HD := Lib.hid hd
  have HW := Lib.hid (show W1 = w.drew.setRow g (splice cur ((i + 1) * 3) (lcells (l.drop i))).toArray by rw [hW1, hcur1])
  have HC2 := Lib.hid hcur2
  have HSR := Lib.hid (show ∀ j u, (lcells (l.drop i))[j]? = some u → w.drew.cell? ((⟨g, i * 3, none⟩ : Addr).add j) = some u from hown.from i)
  have HVN := Lib.hid (show ∀ j u, (lcells [p])[j]? = some u → W1.cell? ((⟨gv, 0, none⟩ : Addr).add j) = some u by
    intro j u h
    rw [hW1]
    have := hv.news j u h
    have ea : (⟨gv, 0, none⟩ : Addr).add j = ⟨gv, j, none⟩ := add0 gv j
    rw [ea] at this ⊢
    rw [cell_setRow_other _ _ _ _ hne]
    exact this)
  have h1 : i ≤ l.length := by omega
  have h2 : i ≤ cap := by omega
  have h3 : i + 1 ≤ l.length + 1 := by omega
  have h4 : i + 1 ≤ cap := by omega
  have h5 : ¬ cap = i := by omega
  have h6 : ¬ cap = i + 1 := by omega
  have h7 : ¬ (i : Int) = (l.length : Int) := by omega
  have h8 : l.length + 1 ≤ cap := hr
  have h9 : ¬ ((cap : Int) < (l.length : Int) + 1) := by omega
  generalize l.length = n at *
  unfold maxLen at hc
  have hw1 : IntKind.i64.wrap ((i : Int) + 1) = (i : Int) + 1 := IntWalk.i64_in _ (by omega)
  have hw2 : (0 : Int) ≤ (i : Int) + 1 := by omega
  have hw3 : ((i : Int) + 1).toNat = i + 1 := by omega
  have hw4 : (i : Int) ≤ (n : Int) := by omega
  have hw5 : (i : Int) ≤ (n : Int) + 1 := by omega
  clear hpost hP hgd hs hd hg hg1 l1 l2 hcur1 hcur2 hW1 ht hlen hown hv
  go_enter Tryz.func52, Tryz.ntmps52
  go_wp2_with (simp only [hov])
  go_region_law (refine step_copyL rfl (.tmp 73) (.tmp 76) rfl g ((i + 1) * 3) _ _ ⟨g, i * 3, none⟩ _ _ (by simp [Act.eval, Act.put]; exact ⟨rfl, rfl⟩) (by simp [Act.eval, Act.put]; exact ⟨rfl, rfl⟩) cur _ HG.out (l.drop i) (by rw [HD.out]; simp only [Nat.min_def]; split <;> omega) HSR.out (by rw [HD.out, HS.out]; omega) ?_; rw [← HW.out]; rintro w1 rfl)
  go_wp2_with (refine wp_copyL rfl (.tmp 80) (.tmp 81) rfl g (i * 3) _ _ ⟨gv, 0, none⟩ _ _ rfl rfl cur1 _ HG1.out [p] (by simp only [Nat.min_def, List.length_singleton]; split <;> omega) HVN.out (by rw [HL1.out, List.length_singleton]; omega) ?_; rw [← HC2.out]; rintro w2 rfl)
  exact HP.out _ rfl

set_option maxHeartbeats 4000000 in
set_option maxRecDepth 100000 in
/-- there is no room -/
theorem ins_grow (B : Nat) (w : World) (hB : B ≤ w.heap.size) (g cap : Nat) (l : List Lv) (hown : OwL w B (.slice (some ⟨g, 0, none⟩) l.length cap) l) (hsz : l.length ≤ 4294967296) (i : Nat) (hi : i < l.length) (hr : cap < l.length + 1) (p : Lv) (gv : Nat) (hv : BoxL w gv p) :
    Calls Tryz.prog 52 #[.slice (some ⟨g, 0, none⟩) l.length cap, .int .i64 i, .slice (some ⟨gv, 0, none⟩) 1 1] w fun e w' => ∃ v', e = .returned v' ∧ OwL w' B v' (l.take i ++ p :: l.drop i) ∧ w.grownBy w' none ∧ ∀ k, v'.ownBlock = some k → w.heap.size ≤ k := by
  obtain ⟨cur0, hb, hg, hc, hs, ht, hn⟩ : ∃ cur : List Value, B ≤ g ∧ w.heap[g]? = some (.cells cur.toArray 42 (0, 0)) ∧ cap ≤ maxLen ∧ cur.length = cap * 3 ∧ cur.take (l.length * 3) = lcells l ∧ l.length ≤ cap := by
    rcases hown.cases with ⟨e, -⟩ | ⟨g', cap', cur, e, hb, hg, hn, hc, hs, ht⟩
    · simp at e
    · simp only [Value.slice.injEq, Option.some.injEq, Addr.mk.injEq, and_true, true_and] at e
      obtain ⟨rfl, rfl⟩ := e
      exact ⟨cur, hb, hg, hc, hs, ht, hn⟩
  generalize hP : (fun (e : Ending) (w' : World) => ∃ v', e = .returned v' ∧ OwL w' B v' (l.take i ++ p :: l.drop i) ∧ w.grownBy w' none ∧ ∀ k, v'.ownBlock = some k → w.heap.size ≤ k) = P
  have hd : (l.drop i).length = l.length - i := List.length_drop
  have hlen := insert_row (p := p) (Nat.le_of_lt hi)
  have hgl : g < w.heap.size := (Array.getElem?_eq_some_iff.1 hg).1
  have hvl : gv < w.heap.size := (Array.getElem?_eq_some_iff.1 hv).1
  -- the new row
  obtain ⟨i0, hi0, hz0, hz1, hz2⟩ := info_parts infoL
  have hold : (Builtin.firstCells i0.size i (.slice (some ⟨g, 0, none⟩) i cap)).run Tryz.prog w.drew = .ok (lcells (l.take i)).toArray w.drew :=
    run_firstCells_some w.drew _ i ⟨g, 0, none⟩ i cap _ (by rw [lcells_length, hz1, List.length_take]; omega) (fun j u hj => by
      rw [← lcells_take, List.getElem?_take] at hj
      split at hj
      · have := hown.from 0 j u hj
        exact this
      · cases hj)
  obtain ⟨k, hk⟩ : ∃ k, k = l.length + 1 - i := ⟨_, rfl⟩
  have hge := grownCap_ge w (i + k) cap 42
  have hcm : grownCap w (i + k) cap 42 ≤ maxLen := grownCap_le_maxLen w (i + k) cap _ (by unfold maxLen; omega)
  have hrun0 : ∀ ty, _ := fun ty => Lib.run_append_grow_zeros (P := Tryz.prog) w 27 3 ty 42 i0 _ .i64 .i64 Tryz.underlying27 Tryz.underlying3 hi0 hz0 (some ⟨g, 0, none⟩) i cap _ hold k (by omega) (by omega) (by omega) (by omega) (by rw [hz2]; omega) (growslice_fits (by omega) (by rw [hz2]; omega))
  obtain ⟨c1, hc1⟩ : ∃ c, c = grownCap w (i + k) cap 42 := ⟨_, rfl⟩
  obtain ⟨cur, hcur⟩ : ∃ cur : List Value, cur = lcells (l.take i) ++ lcells (List.replicate k zl) ++ lcells (List.replicate (c1 - (i + k)) zl) := ⟨_, rfl⟩
  obtain ⟨W0, hW0⟩ : ∃ W0, W0 = w.drew.alloc (.cells cur.toArray 42) := ⟨_, rfl⟩
  have hrun : ∀ ty, (Builtin.append_ #[27, 3] ty #[.slice (some ⟨g, 0, none⟩) i cap, .int .i64 ((l.length : Int) + 1 - (i : Int))]).run Tryz.prog w = .ok (.slice (some ⟨w.heap.size, 0, none⟩) (l.length + 1) c1) W0 := by
    intro ty
    have := hrun0 ty
    rw [← hc1] at this
    rw [show ((l.length : Int) + 1 - (i : Int)) = ((k : Nat) : Int) by omega, this, hW0, hcur, show i + k = l.length + 1 by omega]
    congr 3
    apply Array.toList_inj.1
    simp only [Array.toList_append, zeroCells_l, List.append_assoc]
  rw [← hc1, show i + k = l.length + 1 by omega] at hge
  have hg0 : W0.heap[w.heap.size]? = some (.cells cur.toArray 42 (0, 0)) := by rw [hW0]; exact heap_alloc_new w.drew _
  have hs0 : cur.length = c1 * 3 := by
    rw [hcur, List.length_append, List.length_append, lcells_length, lcells_length, lcells_length, List.length_take, List.length_replicate, List.length_replicate]; omega
  have ht0 : cur.take (i * 3) = lcells (l.take i) := by
    rw [hcur, List.append_assoc, show i * 3 = (lcells (l.take i)).length by rw [lcells_length, List.length_take]; omega]
    exact List.take_left
  obtain ⟨cur1, hcur1⟩ : ∃ c, c = splice cur (i * 3) (lcells [p]) := ⟨_, rfl⟩
  obtain ⟨cur2, hcur2⟩ : ∃ c, c = splice cur1 ((i + 1) * 3) (lcells (l.drop i)) := ⟨_, rfl⟩
  obtain ⟨W1, hW1⟩ : ∃ W1, W1 = W0.setRow w.heap.size cur1.toArray := ⟨_, rfl⟩
  have hg1 : W1.drew.heap[w.heap.size]? = some (.cells cur1.toArray 42 (0, 0)) := by rw [hW1]; exact setRow_heap _ _ _ _ _ _ hg0
  have l1 : cur1.length = c1 * 3 := by rw [hcur1, length_splice _ _ _ (by rw [lcells_length, List.length_singleton]; omega), hs0]
  have l2 : cur2.length = c1 * 3 := by rw [hcur2, length_splice _ _ _ (by rw [lcells_length, hd]; omega), l1]
  have hpost : ∀ w', w' = W1.drew.setRow w.heap.size cur2.toArray → P (.returned (.slice (some ⟨w.heap.size, 0, none⟩) (l.length + 1) c1)) w' := by
    intro w' hw'
    rw [← hP]
    refine ⟨_, rfl, ?_, ?_, ?_⟩
    · rw [← hlen]
      refine OwL.mk (cur := cur2) hB ?_ (by rw [hlen]; omega) (by rw [hc1]; exact hcm) l2 ?_
      · rw [hw']; exact setRow_heap _ _ _ _ _ _ hg1
      · rw [hlen, show l.take i ++ p :: l.drop i = l.take i ++ [p] ++ l.drop i by simp, lcells_app, lcells_app, hcur2, hcur1]
        have := splice_two (X := lcells (l.take i)) (Y := lcells [p]) (Z := lcells (l.drop i)) (cur := cur) (a := i * 3) ht0 (by rw [lcells_length, List.length_take]; omega) (by rw [lcells_length, lcells_length, hd, List.length_singleton]; omega)
        rw [lcells_length, lcells_length, hd, List.length_singleton, show i * 3 + 1 * 3 + (l.length - i) * 3 = (l.length + 1) * 3 by omega, show i * 3 + 1 * 3 = (i + 1) * 3 by omega] at this
        exact this
    · rw [hw', hW1, hW0]
      exact ⟨rfl, rfl, rfl, by simp, fun k hk hne => by
        have h1 : k ≠ w.heap.size := by omega
        rw [setRow_other _ _ _ _ h1]
        show (World.setRow _ _ _).heap[k]? = _
        rw [setRow_other _ _ _ _ h1]
        exact heap_alloc_old w.drew _ hk⟩
    · intro k hk
      simp only [Value.ownBlock, Option.some.injEq] at hk
      omega
  have HP := Lib.hid hpost
  have HG0 := Lib.hid hg0
  have HG1 := Lib.hid hg1
  have HS := Lib.hid hs0
  have HL1 := Lib.hid l1
  have HD := Lib.hid hd
  have HW := Lib.hid (show W1 = W0.setRow w.heap.size (splice cur (i * 3) (lcells [p])).toArray by rw [hW1, hcur1])
  have HC2 := Lib.hid hcur2
  have hcell : ∀ b, b < w.heap.size → W0.heap[b]? = w.heap[b]? := by intro b hb; rw [hW0]; exact heap_alloc_old w.drew _ hb
  have HVN := Lib.hid (show ∀ j u, (lcells [p])[j]? = some u → W0.cell? ((⟨gv, 0, none⟩ : Addr).add j) = some u by
    intro j u h
    have := hv.news j u h
    rw [add0] at this ⊢
    rw [← this]
    exact World.cell?_of_block (a := ⟨gv, j, none⟩) (hcell gv hvl))
  have HSR := Lib.hid (show ∀ j u, (lcells (l.drop i))[j]? = some u → W1.drew.cell? ((⟨g, i * 3, none⟩ : Addr).add j) = some u by
    intro j u h
    have := hown.from i j u h
    have ea : (⟨g, i * 3, none⟩ : Addr).add j = ⟨g, i * 3 + j, none⟩ := by unfold Addr.add; split <;> simp_all
    rw [ea] at this ⊢
    rw [← this]
    refine World.cell?_of_block (a := ⟨g, i * 3 + j, none⟩) ?_
    show W1.heap[g]? = w.heap[g]?
    rw [hW1, setRow_other _ _ _ _ (by omega), hcell g hgl])
  have h1 : i ≤ l.length := by omega
  have h2 : i ≤ cap := by omega
  have h3 : i + 1 ≤ l.length + 1 := by omega
  have h4 : i + 1 ≤ c1 := by omega
  have h4b : i ≤ c1 := by omega
  have h5 : ¬ c1 = i := by omega
  have h6 : ¬ c1 = i + 1 := by omega
  have h5b : ¬ cap = i := by omega
  have h7 : ¬ (i : Int) = (l.length : Int) := by omega
  have h9 : (cap : Int) < (l.length : Int) + 1 := by omega
  clear hrun0 hcm hc1 hk hi0 hz0 hz1 hz2 hold hcell
  generalize l.length = n at *
  unfold maxLen at hc
  have hw1 : IntKind.i64.wrap ((i : Int) + 1) = (i : Int) + 1 := IntWalk.i64_in _ (by omega)
  have hw2 : (0 : Int) ≤ (i : Int) + 1 := by omega
  have hw3 : ((i : Int) + 1).toNat = i + 1 := by omega
  have hw4 : (i : Int) ≤ (n : Int) := by omega
  have hw5 : (i : Int) ≤ (n : Int) + 1 := by omega
  clear hpost hP hs hd hg hg0 hg1 hs0 ht0 l1 l2 hcur hcur1 hcur2 hW1 hW0 ht hlen hown hv
  have HR := Lib.hid hrun
  clear hrun
  go_enter Tryz.func52, Tryz.ntmps52
  go_wp2_with (first | (at_builtin; refine Lib.wpList_append_run _ rfl (.tmp 34) (.tmp 39) _ _ rfl _ _ rfl rfl _ _ (HR.out _) ?_) | (refine wp_copyL rfl (.tmp 43) (.tmp 44) rfl w.heap.size (i * 3) _ _ ⟨gv, 0, none⟩ _ _ rfl rfl cur _ HG0.out [p] (by simp only [Nat.min_def, List.length_singleton]; split <;> omega) HVN.out (by rw [HS.out, List.length_singleton]; omega) ?_; rw [← HW.out]; rintro w2 rfl))
  go_region_law (refine step_copyL rfl (.tmp 50) (.tmp 53) rfl w.heap.size ((i + 1) * 3) _ _ ⟨g, i * 3, none⟩ _ _ (by simp [Act.eval, Act.put]; exact ⟨rfl, rfl⟩) (by simp [Act.eval, Act.put]; exact ⟨rfl, rfl⟩) cur1 _ HG1.out (l.drop i) (by rw [HD.out]; simp only [Nat.min_def]; split <;> omega) HSR.out (by rw [HD.out, HL1.out]; omega) ?_; rw [← HC2.out]; rintro w1 rfl)
  go_wp2
  exact HP.out _ rfl

/-- slices.Insert -/
theorem ins_any (B : Nat) (w : World) (hB : B ≤ w.heap.size) (v : Value) (l : List Lv) (hown : OwL w B v l) (hsz : l.length ≤ 4294967296) (i : Nat) (hi : i ≤ l.length) (p : Lv) (gv : Nat) (hv : BoxL w gv p) (hne : v.ownBlock ≠ some gv) :
    Calls Tryz.prog 52 #[v, .int .i64 i, .slice (some ⟨gv, 0, none⟩) 1 1] w fun e w' => ∃ v', e = .returned v' ∧ OwL w' B v' (l.take i ++ p :: l.drop i) ∧ w.grownBy w' v.ownBlock ∧ NewB w v v' := by
  by_cases c : i = l.length
  · subst c
    rw [List.take_of_length_le (Nat.le_refl _), List.drop_eq_nil_of_le (Nat.le_refl _)]
    exact ins_end B w hB v l hown hsz p gv hv
  · rcases hown.cases with ⟨rfl, rfl⟩ | ⟨g, cap, cur, rfl, hb, hg, hn, hc, hs, ht⟩
    · simp at hi c; omega
    · by_cases r : l.length + 1 ≤ cap
      · refine (ins_room B w g cap l hown hsz i (by omega) r p gv hv (fun e => hne (by rw [e]; rfl))).mono ?_
        rintro e w' ⟨v', rfl, h1, h2, h3⟩
        exact ⟨v', rfl, h1, h2, fun k hk => .inl (by rw [h3] at hk; exact hk)⟩
      · refine (ins_grow B w hB g cap l hown hsz i (by omega) (by omega) p gv hv).mono ?_
        rintro e w' ⟨v', rfl, h1, h2, h3⟩
        exact ⟨v', rfl, h1, ⟨h2.os, h2.tape, h2.output, h2.size, fun k hk _ => h2.block k hk (by simp)⟩, fun k hk => .inr (h3 k hk)⟩

end Go.Proofs.YtelfinhpjokmdaaGreatDoor

namespace Go.Proofs.YtelfinhpjokmdaaGreatDoor
set_option maxRecDepth 100000
open Go.RowKit

/-- cells that lie in a world, not frozen -/
def Kp (w : World) (l : List (Nat × Nat × Value)) : Prop := ∀ x ∈ l, x.1 < w.heap.size ∧ w.cell? ⟨x.1, x.2.1, none⟩ = some x.2.2 ∧ w.frozen? ⟨x.1, x.2.1, none⟩ = false

theorem Kp.below {w w1 : World} {l : List (Nat × Nat × Value)} (h : Kp w l) (hb : Below w.heap.size w w1) : Kp w1 l := by
  obtain ⟨hc, hf⟩ := bcell hb
  intro x hx
  obtain ⟨a, b, c⟩ := h x hx
  exact ⟨Nat.lt_of_lt_of_le a hb.size, (hc _ _ a).trans b, (hf _ _ a).trans c⟩
theorem Kp.drew {w : World} {l : List (Nat × Nat × Value)} (h : Kp w l) : Kp w.drew l := h
theorem Kp.hd {w : World} {b o : Nat} {v : Value} {l : List (Nat × Nat × Value)} (h : Kp w ((b, o, v) :: l)) : w.cell? ⟨b, o, none⟩ = some v ∧ w.frozen? ⟨b, o, none⟩ = false := (h _ (List.mem_cons_self ..)).2
theorem Kp.lt {w : World} {b o : Nat} {v : Value} {l : List (Nat × Nat × Value)} (h : Kp w ((b, o, v) :: l)) : b < w.heap.size := (h _ (List.mem_cons_self ..)).1
theorem Kp.tl {w : World} {x : Nat × Nat × Value} {l : List (Nat × Nat × Value)} (h : Kp w (x :: l)) : Kp w l := fun y hy => h y (List.mem_cons_of_mem _ hy)
theorem Kp.two {w : World} {b o b' o' : Nat} {v v' : Value} {l : List (Nat × Nat × Value)} (h : Kp w ((b, o, v) :: (b', o', v') :: l)) :
    (w.cell? ⟨b, o, none⟩ = some v ∧ w.frozen? ⟨b, o, none⟩ = false) ∧ w.cell? ⟨b', o', none⟩ = some v' ∧ w.frozen? ⟨b', o', none⟩ = false := ⟨h.hd, h.tl.hd⟩

/-- a world on the way: below B it is as w was, and it has these cells -/
def Rg (B : Nat) (w wx : World) (l : List (Nat × Nat × Value)) : Prop := Below B w wx ∧ B ≤ wx.heap.size ∧ Kp wx l
theorem Rg.step {B : Nat} {w w0 w1 : World} {l : List (Nat × Nat × Value)} (h : Rg B w w0 l) (hb : Below w0.heap.size w0 w1) : Rg B w w1 l :=
  ⟨h.1.trans (hb.mono h.2.1), Nat.le_trans h.2.1 hb.size, h.2.2.below hb⟩
theorem Rg.drew {B : Nat} {w w0 : World} {l : List (Nat × Nat × Value)} (h : Rg B w w0 l) : Rg B w w0.drew l := ⟨h.1.drew, h.2.1, h.2.2⟩
theorem Rg.kp {B : Nat} {w w0 : World} {l : List (Nat × Nat × Value)} (h : Rg B w w0 l) : Kp w0 l := h.2.2
theorem Rg.bel {B : Nat} {w w0 : World} {l : List (Nat × Nat × Value)} (h : Rg B w w0 l) : Below B w w0 := h.1
theorem Rg.sub {B : Nat} {w w0 : World} {l l' : List (Nat × Nat × Value)} (h : Rg B w w0 l) (hs : ∀ x ∈ l', x ∈ l) : Rg B w w0 l' := ⟨h.1, h.2.1, fun x hx => h.2.2 x (hs x hx)⟩
theorem Rg.set {B : Nat} {w w0 : World} {b o : Nat} {v u : Value} {l : List (Nat × Nat × Value)} (h : Rg B w w0 ((b, o, v) :: l)) (hB : B ≤ b) (hne : ∀ x ∈ l, ¬ (x.1 = b ∧ x.2.1 = o)) :
    Rg B w (w0.setCell ⟨b, o, none⟩ u) ((b, o, u) :: l) := by
  obtain ⟨hc, hf⟩ := h.2.2.hd
  have hl := h.2.2.lt
  refine ⟨h.1.setCell hB u, by simpa [World.setCell] using h.2.1, fun x hx => ?_⟩
  rcases List.mem_cons.1 hx with rfl | hx
  · refine ⟨by simpa [World.setCell] using hl, ?_, ?_⟩
    · go_simp
    · simpa using hf
  · obtain ⟨a, c, d⟩ := h.2.2 x (List.mem_cons_of_mem _ hx)
    refine ⟨by simpa [World.setCell] using a, ?_, by simpa using d⟩
    rw [World.cell?_setCell_other _ _ _ _ (fun e => hne x hx (by injection e with e1 e2; exact ⟨e1.symm, e2.symm⟩))]
    exact c
theorem Kp.alloc {w : World} {l : List (Nat × Nat × Value)} (h : Kp w l) (o : Obj) : Kp (w.alloc o) l := h.below ((Below.refl _ _).alloc (Nat.le_refl _) _)
theorem Rg.alloc {B : Nat} {w w0 : World} {l : List (Nat × Nat × Value)} (h : Rg B w w0 l) (o : Obj) : Rg B w (w0.alloc o) l := h.step ((Below.refl _ _).alloc (Nat.le_refl _) _)
/-- the first cell goes to the end -/
theorem Rg.turn {B : Nat} {w w0 : World} {x : Nat × Nat × Value} {l : List (Nat × Nat × Value)} (h : Rg B w w0 (x :: l)) : Rg B w w0 (l ++ [x]) :=
  h.sub fun y hy => by rcases List.mem_append.1 hy with h | h; exact List.mem_cons_of_mem _ h; simp at h; subst h; exact List.mem_cons_self ..

/-- what a cell holds -/
def cval (w : World) (a : Addr) : Value := (w.cell? a).getD (.int .i64 0)
theorem cval_of {w : World} {a : Addr} {v : Value} (h : w.cell? a = some v) : w.cell? a = some (cval w a) := by unfold cval; rw [h]; rfl

/-- a world on the way: below it is as w was, these cells stay, and the cells of block g may be written -/
def Og (B g n : Nat) (w wx : World) (l : List (Nat × Nat × Value)) : Prop :=
  Rg B w wx l ∧ B ≤ g ∧ (∀ x ∈ l, x.1 ≠ g) ∧ g < wx.heap.size ∧ ∀ o, o < n → (∃ v, wx.cell? ⟨g, o, none⟩ = some v) ∧ wx.frozen? ⟨g, o, none⟩ = false
theorem Og.step {B g n : Nat} {w w0 w1 : World} {l : List (Nat × Nat × Value)} (h : Og B g n w w0 l) (hb : Below w0.heap.size w0 w1) : Og B g n w w1 l := by
  obtain ⟨hc, hf⟩ := bcell hb
  obtain ⟨a, b, c, d, e⟩ := h
  refine ⟨a.step hb, b, c, Nat.lt_of_lt_of_le d hb.size, fun o ho => ?_⟩
  obtain ⟨⟨v, hv⟩, f⟩ := e o ho
  exact ⟨⟨v, (hc _ _ d).trans hv⟩, (hf _ _ d).trans f⟩
theorem Og.drew {B g n : Nat} {w w0 : World} {l : List (Nat × Nat × Value)} (h : Og B g n w w0 l) : Og B g n w w0.drew l := ⟨h.1.drew, h.2.1, h.2.2.1, h.2.2.2.1, h.2.2.2.2⟩
theorem Og.set {B g n : Nat} {w w0 : World} {l : List (Nat × Nat × Value)} (h : Og B g n w w0 l) (o : Nat) (u : Value) : Og B g n w (w0.setCell ⟨g, o, none⟩ u) l := by
  obtain ⟨⟨a1, a2, a3⟩, b, c, d, e⟩ := h
  refine ⟨⟨a1.setCell b u, by simpa [World.setCell] using a2, fun x hx => ?_⟩, b, c, by simpa [World.setCell] using d, fun o' ho => ?_⟩
  · obtain ⟨p, q, r⟩ := a3 x hx
    refine ⟨by simpa [World.setCell] using p, ?_, by simpa using r⟩
    rw [World.cell?_setCell_other _ _ _ _ (fun e => c x hx (by injection e with e1 e2; exact e1.symm))]
    exact q
  · obtain ⟨⟨v, hv⟩, f⟩ := e o' ho
    refine ⟨?_, by simpa using f⟩
    by_cases ho' : o' = o
    · subst ho'
      exact ⟨u, by go_simp⟩
    · refine ⟨v, ?_⟩
      rw [World.cell?_setCell_other _ _ _ _ (fun e => ho' (by injection e with e1 e2; exact e2.symm))]
      exact hv
theorem Og.bel {B g n : Nat} {w w0 : World} {l : List (Nat × Nat × Value)} (h : Og B g n w w0 l) : Below B w w0 := h.1.1
theorem Og.kp {B g n : Nat} {w w0 : World} {l : List (Nat × Nat × Value)} (h : Og B g n w w0 l) : Kp w0 l := h.1.kp
theorem Og.own {B g n : Nat} {w w0 : World} {l : List (Nat × Nat × Value)} (h : Og B g n w w0 l) (o : Nat) (ho : o < n) : w0.cell? ⟨g, o, none⟩ = some (cval w0 ⟨g, o, none⟩) ∧ w0.frozen? ⟨g, o, none⟩ = false := by
  obtain ⟨⟨v, hv⟩, f⟩ := h.2.2.2.2 o ho
  exact ⟨cval_of hv, f⟩

end Go.Proofs.YtelfinhpjokmdaaGreatDoor

namespace Go.Proofs.YtelfinhpjokmdaaGreatDoor
set_option maxRecDepth 100000
open Go.RowKit Go.Joins Go.ChangeShapes Go.WideShapes
set_option linter.unusedVariables false
set_option linter.unusedSimpArgs false

/-- whole numbers in memory -/
structure IsN (w : World) (b off : Nat) (l : List Int) : Prop where
  hb : 0 < l.length → b < w.heap.size
  c : ∀ (i : Nat) (x : Int), l[i]? = some x → w.cell? ⟨b, off + i, none⟩ = some (.int .i64 x)
theorem IsN.below {w w' : World} {b off : Nat} {l : List Int} (h : IsN w b off l) (hw : Below w.heap.size w w') : IsN w' b off l := by
  obtain ⟨hc, _⟩ := bcell hw
  refine ⟨fun hl => Nat.lt_of_lt_of_le (h.hb hl) hw.size, fun i x hx => ?_⟩
  have hl : 0 < l.length := by have := (List.getElem?_eq_some_iff.1 hx).1; omega
  rw [hc _ _ (h.hb hl)]
  exact h.c i x hx
theorem Frm.isN {F : Bl} {w w1 : World} (h : Frm F w w1) {b off : Nat} {l : List Int} (hb : IsN w b off l) (hf : 0 < l.length → ¬ F b) : IsN w1 b off l := by
  refine ⟨fun hl => Nat.lt_of_lt_of_le (hb.hb hl) h.size, fun i x hx => ?_⟩
  have hl : 0 < l.length := by have := (List.getElem?_eq_some_iff.1 hx).1; omega
  rw [h.cell (hb.hb hl) (hf hl)]
  exact hb.c i x hx
theorem IsN.drop {w : World} {b off : Nat} {l : List Int} (h : IsN w b off l) (n : Nat) : IsN w b (off + n) (l.drop n) :=
  ⟨fun hl => h.hb (by rw [List.length_drop] at hl; omega), fun i x hx => by rw [List.getElem?_drop] at hx; rw [Nat.add_assoc]; exact h.c _ x hx⟩
theorem IsN.nil (w : World) (b off : Nat) : IsN w b off [] := ⟨fun h => absurd h (by simp), fun i x hx => by simp at hx⟩
def icells (l : List Int) : List Value := l.map fun n : Int => .int .i64 n
theorem icells_length (l : List Int) : (icells l).length = l.length := by simp [icells]
theorem icells_app (l r : List Int) : icells (l ++ r) = icells l ++ icells r := List.map_append
theorem icells_at {l : List Int} {i : Nat} {x : Int} (h : l[i]? = some x) : (icells l)[i]? = some (.int .i64 x) := by simp only [icells, List.getElem?_map, h, Option.map_some]
theorem icells_take (l : List Int) (n : Nat) : icells (l.take n) = (icells l).take n := by simp [icells, List.map_take]
theorem icells_drop (l : List Int) (n : Nat) : icells (l.drop n) = (icells l).drop n := by simp [icells, List.map_drop]
theorem icells_set (l : List Int) (n : Nat) (x : Int) : icells (l.set n x) = (icells l).set n (.int .i64 x) := by simp [icells, List.map_set]

/-- a list of values of one cell each, in memory of the call's own -/
def QR (w : World) (B : Nat) (e : TypeId) (v : Value) (xs : List Value) : Prop :=
  (v = .slice none 0 0 ∧ xs = []) ∨ ∃ g o cap cur, v = .slice (some ⟨g, o, none⟩) xs.length cap ∧ B ≤ g ∧ w.heap[g]? = some (.cells cur e (0, 0)) ∧ xs.length ≤ cap ∧ cap ≤ maxLen ∧ o + cap ≤ cur.size ∧ ∀ i u, xs[i]? = some u → cur[o + i]? = some u
theorem QR.nil (w : World) (B : Nat) (e : TypeId) : QR w B e (.slice none 0 0) [] := .inl ⟨rfl, rfl⟩
theorem QR.of_own {w : World} {B : Nat} {e : TypeId} {v : Value} {n : Nat} {xs : List Value} (h : w.ownsRow B e 1 v n xs) : QR w B e v xs := by
  obtain ⟨h1, h2⟩ := h
  rw [Nat.mul_one] at h1
  subst h1
  rcases h2 with ⟨rfl, e⟩ | ⟨g, cap, cur, rfl, hb, hg, hn, hc, hs, ht⟩
  · exact .inl ⟨rfl, List.eq_nil_of_length_eq_zero e⟩
  · refine .inr ⟨g, 0, cap, cur, rfl, hb, hg, hn, hc, by omega, fun i u hu => ?_⟩
    rw [← ht, List.getElem?_take] at hu
    split at hu
    · rw [Nat.zero_add]; simpa using hu
    · cases hu
theorem QR.made {w : World} {B : Nat} (hB : B ≤ w.heap.size) (e : TypeId) (cs : List Value) (hm : cs.length ≤ maxLen) : QR (w.alloc (.cells cs.toArray e)) B e (.slice (some ⟨w.heap.size, 0, none⟩) cs.length cs.length) cs :=
  .inr ⟨_, 0, cs.length, _, rfl, hB, heap_alloc_new w _, Nat.le_refl _, hm, by simp, fun i u hu => by simpa using hu⟩
theorem QR.le {w : World} {B B' : Nat} {e : TypeId} {v : Value} {xs : List Value} (h : QR w B e v xs) (hb : B' ≤ B) : QR w B' e v xs := by
  rcases h with h | ⟨g, o, cap, cur, h1, h2, h3⟩
  · exact .inl h
  · exact .inr ⟨g, o, cap, cur, h1, Nat.le_trans hb h2, h3⟩
theorem QR.lt {w : World} {B : Nat} {e : TypeId} {v : Value} {xs : List Value} (h : QR w B e v xs) : ∀ k, v.ownBlock = some k → B ≤ k ∧ k < w.heap.size := by
  intro k hk
  rcases h with ⟨rfl, _⟩ | ⟨g, o, cap, cur, rfl, h2, h3, _⟩
  · simp [Value.ownBlock] at hk
  · simp only [Value.ownBlock, Option.some.injEq] at hk
    subst hk
    exact ⟨h2, (Array.getElem?_eq_some_iff.1 h3).1⟩
theorem QR.step {w w1 : World} {F : Bl} {B : Nat} {e : TypeId} {v : Value} {xs : List Value} (h : QR w B e v xs) (hf : Frm F w w1) (hv : ∀ k, v.ownBlock = some k → ¬ F k) : QR w1 B e v xs := by
  rcases h with h | ⟨g, o, cap, cur, rfl, h2, h3, h4⟩
  · exact .inl h
  · exact .inr ⟨g, o, cap, cur, rfl, h2, (hf.heap (Array.getElem?_eq_some_iff.1 h3).1 (hv g rfl)).trans h3, h4⟩
theorem QR.below {w w1 : World} {B : Nat} {e : TypeId} {v : Value} {xs : List Value} (h : QR w B e v xs) (hb : Below w.heap.size w w1) : QR w1 B e v xs := h.step (F := fun _ => False) (Frm.of_below hb) (fun _ _ h => h)
theorem QR.form {w : World} {B : Nat} {e : TypeId} {v : Value} {xs : List Value} (h : QR w B e v xs) : ∃ a cap, v = .slice a xs.length cap ∧ xs.length ≤ cap ∧ cap ≤ maxLen ∧ (a = none ∧ xs = [] ∧ cap = 0 ∨ ∃ g o, a = some ⟨g, o, none⟩ ∧ B ≤ g ∧ g < w.heap.size ∧ (∀ i, w.frozen? ⟨g, i, none⟩ = false) ∧ ∀ i u, xs[i]? = some u → w.cell? ⟨g, o + i, none⟩ = some u) := by
  rcases h with ⟨rfl, rfl⟩ | ⟨g, o, cap, cur, rfl, h2, h3, h4, h5, h6, h7⟩
  · exact ⟨none, 0, rfl, Nat.le_refl _, by decide, .inl ⟨rfl, rfl, rfl⟩⟩
  · exact ⟨_, cap, rfl, h4, h5, .inr ⟨g, o, rfl, h2, (Array.getElem?_eq_some_iff.1 h3).1, fun i => unfrozen_of_block h3 i, fun i u hu => by rw [cell_of_block h3 _]; exact h7 i u hu⟩⟩
/-- where it is not empty -/
theorem QR.at {w : World} {B : Nat} {e : TypeId} {v : Value} {xs : List Value} (h : QR w B e v xs) (hn : 0 < xs.length) : ∃ g o cap, v = .slice (some ⟨g, o, none⟩) xs.length cap ∧ xs.length ≤ cap ∧ cap ≤ maxLen ∧ B ≤ g ∧ g < w.heap.size ∧ (∀ i, w.frozen? ⟨g, i, none⟩ = false) ∧ ∀ i u, xs[i]? = some u → w.cell? ⟨g, o + i, none⟩ = some u := by
  obtain ⟨a, cap, rfl, h1, h2, ⟨-, rfl, -⟩ | ⟨g, o, rfl, h3⟩⟩ := h.form
  · simp at hn
  · exact ⟨g, o, cap, rfl, h1, h2, h3⟩
theorem QR.cut {w : World} {B : Nat} {e : TypeId} {a : Option Addr} {n cap : Nat} {xs : List Value} (h : QR w B e (.slice a n cap) xs) (m : Nat) (hm : m ≤ xs.length) : QR w B e (.slice a m cap) (xs.take m) := by
  rcases h with ⟨e1, rfl⟩ | ⟨g, o, c, cur, e1, h2, h3, h4, h5, h6, h7⟩
  · injection e1 with e1 e2 e3
    subst e1 e3
    have : m = 0 := by simpa using hm
    subst this
    exact .inl ⟨rfl, rfl⟩
  · injection e1 with e1 e2 e3
    subst e1 e2 e3
    have hl : (xs.take m).length = m := by rw [List.length_take]; omega
    refine .inr ⟨g, o, cap, cur, by rw [hl], h2, h3, by omega, h5, h6, fun i u hu => ?_⟩
    rw [List.getElem?_take] at hu
    split at hu
    · exact h7 i u hu
    · cases hu
theorem QR.drop {w : World} {B : Nat} {e : TypeId} {g o n cap : Nat} {xs : List Value} (h : QR w B e (.slice (some ⟨g, o, none⟩) n cap) xs) (m : Nat) (hm : m ≤ n) (o' : Nat) (ho : o' = o + m ∨ (o' = o ∧ cap = m)) : QR w B e (.slice (some ⟨g, o', none⟩) (n - m) (cap - m)) (xs.drop m) := by
  rcases h with ⟨e1, rfl⟩ | ⟨g', o1, c, cur, e1, h2, h3, h4, h5, h6, h7⟩
  · cases e1
  · injection e1 with e1 e2 e3
    injection e1 with e1
    injection e1 with e1 e4
    subst e1 e2 e3 e4
    have hl : (xs.drop m).length = xs.length - m := List.length_drop
    refine .inr ⟨g, o', cap - m, cur, by rw [hl], h2, h3, by omega, by omega, by omega, fun i u hu => ?_⟩
    rw [List.getElem?_drop] at hu
    rcases ho with rfl | ⟨rfl, rfl⟩
    · rw [Nat.add_assoc]; exact h7 _ u hu
    · have := (List.getElem?_eq_some_iff.1 hu).1; omega
theorem QR.set {w : World} {B : Nat} {e : TypeId} {g o n cap : Nat} {xs : List Value} (h : QR w B e (.slice (some ⟨g, o, none⟩) n cap) xs) (j : Nat) (x : Value) (hj : j < xs.length) : QR (w.setCell ⟨g, o + j, none⟩ x) B e (.slice (some ⟨g, o, none⟩) n cap) (xs.set j x) := by
  rcases h with ⟨e1, rfl⟩ | ⟨g', o1, c, cur, e1, h2, h3, h4, h5, h6, h7⟩
  · cases e1
  · injection e1 with e1 e2 e3
    injection e1 with e1
    injection e1 with e1 e4
    subst e1 e2 e3 e4
    refine .inr ⟨g, o, cap, cur.set (o + j) x (by omega), by rw [List.length_set], h2, ?_, by rw [List.length_set]; exact h4, h5, by simpa using h6, fun i u hu => ?_⟩
    · rw [setCell_eq_setRow w g (o + j) cur _ _ x h3, setRow_heap w g _ _ _ _ h3]
      simp [Array.setIfInBounds, show o + j < cur.size by omega]
    · rw [List.getElem?_set] at hu
      rw [Array.getElem?_set]
      by_cases c : j = i
      · subst c
        rw [if_pos rfl] at hu ⊢
        rw [if_pos hj] at hu
        exact hu
      · rw [if_neg c] at hu
        rw [if_neg (by omega)]
        exact h7 i u hu
/-- a list's other blocks stay, when one is lengthened -/
def NewO (w : World) (v v' : Value) : Prop := ∀ k, v'.ownBlock = some k → v.ownBlock = some k ∨ w.heap.size ≤ k
theorem QR.push {P : Program} {w : World} {B : Nat} {e : TypeId} {v : Value} {xs : List Value} (h : QR w B e v xs) (hB : B ≤ w.heap.size) {t ty : TypeId} {i : TypeInfo} {z : Value} (ht : P.underlying t = some (.slice e)) (hi : P.info? e = some i) (hz : i.zero = some z)
    (hs : i.size = 1) (hby : i.bytes ≤ 8) (hzs : z.cells.size = 1) (ad : Addr) (c : Nat) (x : Value) (hx : w.cell? ad = some x) (h1 : x.oneCell' = true) (hsz : xs.length + 1 ≤ 8796093022208) :
    ∃ v' w', (Builtin.append_ #[t, t] ty #[v, .slice (some ad) 1 c]).run P w = .ok v' w' ∧ QR w' B e v' (xs ++ [x]) ∧ w.grownBy w' v.ownBlock ∧ NewO w v v' := by
  have hnews : ∀ j u, [x][j]? = some u → w.cell? (ad.add j) = some u := by
    intro j u hj
    cases j with
    | zero =>
      simp at hj
      subst hj
      obtain ⟨b, o, s⟩ := ad
      have hsn : s = none := by simpa using World.cell?_spot hx
      subst hsn
      simpa [Addr.add] using hx
    | succ j => simp at hj
  have hml : xs.length + 1 ≤ maxLen := by unfold maxLen; omega
  have hb2 : (xs.length + 1) * i.bytes ≤ 140737488355328 := by
    have := Nat.mul_le_mul_left (xs.length + 1) hby
    omega
  have hone : ∀ u ∈ [x], u.oneCell' = true := by intro u hu; simp at hu; rw [hu]; exact h1
  rcases h with ⟨rfl, rfl⟩ | ⟨g, o, cap, cur, rfl, h2, h3, h4, h5, h6, h7⟩
  · obtain ⟨v', w', hr, g1, g2, g3⟩ := run_append_own (P := P) w w.heap.size t ty e i z 1 i.bytes ht hi hz hs rfl hzs (by decide) (.slice none 0 0) 0 [] (World.ownsRow_nil w _ e 1) ad 1 c [x] rfl hnews hone (by simpa using hml) (by simpa using hb2) (Nat.le_refl _)
    refine ⟨v', w', hr, (QR.of_own g1).le hB, g2, fun k hk => .inr (g1.lt k hk).1⟩
  · by_cases hroom : xs.length + 1 ≤ cap
    · have hcs : cur[o + xs.length]? = some (cur[o + xs.length]'(by omega)) := Array.getElem?_eq_getElem _
      have hr := run_append_room_cells (P := P) w t ty e i ht hi g o xs.length cap ad 1 c [x] (by simp [hs]) hnews hone hroom
        (fun j hj => by
          have hj0 : j = 0 := by simpa using hj
          subst hj0
          rw [hs, Nat.mul_one, Nat.add_zero, cell_of_block h3, hcs]; rfl) (fun j hj => unfrozen_of_block h3 _)
      refine ⟨_, _, hr, ?_, ?_, fun k hk => .inl hk⟩
      · have hw : w.setCells g (o + xs.length * i.size) [x] = w.setCell ⟨g, o + xs.length, none⟩ x := by rw [hs, Nat.mul_one]; rfl
        rw [hw]
        refine .inr ⟨g, o, cap, cur.set (o + xs.length) x (by omega), by simp, h2, ?_, by simpa using hroom, h5, by simpa using h6, fun i' u hu => ?_⟩
        · rw [setCell_eq_setRow w g (o + xs.length) cur _ _ x h3, setRow_heap w g _ _ _ _ h3]
          simp [Array.setIfInBounds, show o + xs.length < cur.size by omega]
        · rw [Array.getElem?_set]
          by_cases c : i' < xs.length
          · rw [List.getElem?_append_left c] at hu
            rw [if_neg (by omega)]
            exact h7 i' u hu
          · have hi' : i' = xs.length := by
              have := (List.getElem?_eq_some_iff.1 hu).1
              simp at this
              omega
            subst hi'
            rw [if_pos rfl]
            simpa using hu
      · refine ⟨rfl, rfl, rfl, by simp [World.setCells, World.setCell], fun k hk hne => ?_⟩
        exact heap_setCell_other w ⟨g, _, none⟩ k x (fun e => hne (by simp [Value.ownBlock, e]))
    · obtain ⟨v', w', hr, g1, g2⟩ := run_append_arg_grows (P := P) w t ty e i z 1 i.bytes ht hi hz hs rfl hzs (by decide) ⟨g, o, none⟩ xs.length cap xs (by simp)
        (fun j u hj => by
          have ea : (⟨g, o, none⟩ : Addr).add j = ⟨g, o + j, none⟩ := by unfold Addr.add; split <;> simp_all
          rw [ea, cell_of_block h3]
          exact h7 j u hj) ad 1 c [x] rfl hnews (by omega) hml hb2
      exact ⟨v', w', hr, (QR.of_own g1).le hB, ⟨g2.os, g2.tape, g2.output, g2.size, fun k hk _ => g2.block k hk (by simp)⟩, fun k hk => .inr (g1.lt k hk).1⟩

theorem infoI : (Tryz.prog.info? 3).map (fun i => (i.zero, i.size, i.bytes)) = some (some (.int .i64 0), 1, 8) := by kernel_rfl
theorem infoBl : (Tryz.prog.info? 4).map (fun i => (i.zero, i.size, i.bytes)) = some (some (.bool false), 1, 1) := by kernel_rfl
/-- whole numbers in memory of the call's own -/
def QI (w : World) (B : Nat) (v : Value) (l : List Int) : Prop := QR w B 3 v (icells l)
theorem QI.isN {w : World} {B : Nat} {v : Value} {l : List Int} (h : QI w B v l) : ∃ a b o cap, v = .slice a l.length cap ∧ l.length ≤ cap ∧ cap ≤ maxLen ∧ (l.length = 0 ∨ a = some ⟨b, o, none⟩) ∧ IsN w b o l := by
  obtain ⟨a, cap, e, h1, h2, h3⟩ := QR.form h
  rw [icells_length] at e h1
  rcases h3 with ⟨rfl, h4, -⟩ | ⟨g, o, rfl, -, h5, -, h6⟩
  · have : l = [] := by cases l with | nil => rfl | cons x l => simp [icells] at h4
    subst this
    exact ⟨none, 0, 0, cap, e, h1, h2, .inl rfl, IsN.nil _ _ _⟩
  · exact ⟨_, g, o, cap, e, h1, h2, .inr rfl, ⟨fun _ => h5, fun i x hx => h6 i _ (icells_at hx)⟩⟩
theorem wp_pushQ {ops : Array Oper} {rest : List Oper} {o : Oper} {a : Act} {w : World} {Q : Exit → Act → World → Prop} (hgd : o.guard = none) (s x : Operand)
    (ho : o.op = .call { callee := .builtin .append, args := #[s, x], argTypes := #[35, 35] })
    (B : Nat) (v : Value) (l : List Int) (hs : a.eval s = v) (hown : QI w B v l) (hB : B ≤ w.heap.size) (ad : Addr) (c : Nat) (y : Int) (hx : a.eval x = .slice (some ad) 1 c) (hy : w.cell? ad = some (.int .i64 y)) (hsz : l.length + 1 ≤ 8796093022208)
    (h : ∀ v' w', QI w' B v' (l ++ [y]) → w.grownBy w' v.ownBlock → NewO w v v' → wpList Tryz.prog ops Q rest (a.put o.dst v') w') : wpList Tryz.prog ops Q (o :: rest) a w := by
  obtain ⟨i0, hi, hz0, hz1, hz2⟩ := info_parts infoI
  obtain ⟨v', w', hr, g1, g2, g3⟩ := QR.push (P := Tryz.prog) (t := 35) (ty := o.type) hown hB Tryz.underlying35 hi hz0 hz1 (by omega) rfl ad c _ hy rfl (by rw [icells_length]; exact hsz)
  refine wpList_plain hgd fun K hK => ?_
  unfold Oper.wp
  simp [execOp, ho, resolve, invoke, builtin, hs, hx, hr, Result.andThen]
  refine hK _ _ (h v' w' ?_ g2 g3)
  unfold QI
  rw [icells_app]
  exact g1
theorem step_pushQ {ops : Array Oper} {o : Oper} {a : Act} {w : World} {K : Act → World → Prop} {Q : Exit → Act → World → Prop} {E : Prop} (hgd : o.guard = none) (s x : Operand)
    (ho : o.op = .call { callee := .builtin .append, args := #[s, x], argTypes := #[35, 35] })
    (B : Nat) (v : Value) (l : List Int) (hs : a.eval s = v) (hown : QI w B v l) (hB : B ≤ w.heap.size) (ad : Addr) (c : Nat) (y : Int) (hx : a.eval x = .slice (some ad) 1 c) (hy : w.cell? ad = some (.int .i64 y)) (hsz : l.length + 1 ≤ 8796093022208)
    (h : ∀ v' w', QI w' B v' (l ++ [y]) → w.grownBy w' v.ownBlock → NewO w v v' → K (a.put o.dst v') w') : if Region.wanted o (yielded ops a.tmps) = true then Oper.wp Tryz.prog o a w K Q else E := by
  have hw : Region.wanted o (yielded ops a.tmps) = true := by simp [Region.wanted, hgd]
  rw [if_pos hw]
  obtain ⟨i0, hi, hz0, hz1, hz2⟩ := info_parts infoI
  obtain ⟨v', w', hr, g1, g2, g3⟩ := QR.push (P := Tryz.prog) (t := 35) (ty := o.type) hown hB Tryz.underlying35 hi hz0 hz1 (by omega) rfl ad c _ hy rfl (by rw [icells_length]; exact hsz)
  unfold Oper.wp
  simp [execOp, ho, resolve, invoke, builtin, hs, hx, hr, Result.andThen]
  refine h v' w' ?_ g2 g3
  unfold QI
  rw [icells_app]
  exact g1
theorem QI.nil (w : World) (B : Nat) : QI w B (.slice none 0 0) [] := QR.nil w B _
theorem QI.below {w w1 : World} {B : Nat} {v : Value} {l : List Int} (h : QI w B v l) (hb : Below w.heap.size w w1) : QI w1 B v l := QR.below h hb
theorem QI.step {w w1 : World} {F : Bl} {B : Nat} {v : Value} {l : List Int} (h : QI w B v l) (hf : Frm F w w1) (hv : ∀ k, v.ownBlock = some k → ¬ F k) : QI w1 B v l := QR.step h hf hv
theorem QI.lt {w : World} {B : Nat} {v : Value} {l : List Int} (h : QI w B v l) : ∀ k, v.ownBlock = some k → B ≤ k ∧ k < w.heap.size := QR.lt h

end Go.Proofs.YtelfinhpjokmdaaGreatDoor

namespace Go.Proofs.YtelfinhpjokmdaaGreatDoor
set_option maxRecDepth 100000
open Go.RowKit Go.Joins Go.ChangeShapes Go.WideShapes
open Go.MapKept
set_option linter.unusedVariables false
set_option linter.unusedSimpArgs false

/-- block b is a map: under key k stands f k; n keys -/
def IMap {K : Type} (d : TypeDesc) (enc : K → Value) (w : World) (b : Nat) (f : K → Option Value) (n : Nat) : Prop :=
  ∃ es clock, w.heap[b]? = some (.map es clock) ∧ Stamped es clock ∧ (∀ x ∈ es.toList, ∃ k, x.key = enc k) ∧ (∀ k v, f k = some v ↔ ∃ e ∈ es.toList, e.key = enc k ∧ e.val = v) ∧ es.size = n
theorem IMap.lt {K : Type} {d : TypeDesc} {enc : K → Value} {w : World} {b n : Nat} {f : K → Option Value} (h : IMap d enc w b f n) : b < w.heap.size := by
  obtain ⟨es, clock, h1, -⟩ := h
  exact (Array.getElem?_eq_some_iff.1 h1).1
theorem IMap.heap {K : Type} {d : TypeDesc} {enc : K → Value} {w w1 : World} {b n : Nat} {f : K → Option Value} (h : IMap d enc w b f n) (hh : w1.heap[b]? = w.heap[b]?) : IMap d enc w1 b f n := by
  obtain ⟨es, clock, h1, h2⟩ := h
  exact ⟨es, clock, hh.trans h1, h2⟩
theorem IMap.step {K : Type} {d : TypeDesc} {enc : K → Value} {w w1 : World} {b n : Nat} {f : K → Option Value} {F : Bl} (h : IMap d enc w b f n) (hf : Frm F w w1) (hb : ¬ F b) : IMap d enc w1 b f n :=
  h.heap (hf.heap h.lt hb)
theorem IMap.below {K : Type} {d : TypeDesc} {enc : K → Value} {w w1 : World} {b n : Nat} {f : K → Option Value} (h : IMap d enc w b f n) (hb : Below w.heap.size w w1) : IMap d enc w1 b f n :=
  h.heap (hb.block _ h.lt)
theorem imap_made {K : Type} (d : TypeDesc) (enc : K → Value) (w : World) (n : Nat) (hn : w.heap.size = n) : IMap d enc (w.alloc (.map #[] 0)) n (fun _ => none) 0 := by
  subst hn
  exact ⟨#[], 0, heap_alloc_new w _, stamped_empty 0, by simp, by simp, rfl⟩
theorem nodup_keys {es : Array MapEntry} {clock : Nat} (h : Stamped es clock) {i j : Nat} {a b : MapEntry} (ha : es.toList[i]? = some a) (hb : es.toList[j]? = some b) (hk : a.key = b.key) : i = j := by
  obtain ⟨-, -, h3⟩ := h
  have e1 : (es.toList.map (·.key))[i]? = some a.key := by rw [List.getElem?_map, ha]; rfl
  have e2 : (es.toList.map (·.key))[j]? = some a.key := by rw [List.getElem?_map, hb, hk]; rfl
  have := (List.getElem?_inj (List.getElem?_eq_some_iff.1 e1).1 h3).1 (e1.trans e2.symm)
  exact this
section
variable {K : Type} {d : TypeDesc} {enc : K → Value} {w : World} {b n : Nat} {f : K → Option Value} {P : Program}
theorem IMap.uniq {es : Array MapEntry} {clock : Nat} (h : Stamped es clock) {e1 e2 : MapEntry} (h1 : e1 ∈ es.toList) (h2 : e2 ∈ es.toList) (hk : e1.key = e2.key) : e1 = e2 := by
  obtain ⟨i, hi⟩ := List.getElem?_of_mem h1
  obtain ⟨j, hj⟩ := List.getElem?_of_mem h2
  have := nodup_keys h hi hj hk
  subst this
  rw [hi] at hj
  injection hj
/-- m[k] -/
theorem IMap.look (h : IMap d enc w b f n) {t kt et : TypeId} (ht : P.underlying t = some (.map kt et)) (hd : P.underlying kt = some d) (hK : ∀ k, IsKey d (enc k)) {z : Value} (hz : (zeroValue et).run P w = .ok z w) (k : K) (c : Bool) :
    (Instr.lookup t (.map (some b)) (enc k) c).run P w = .ok (if c then .tuple #[(f k).getD z, .bool (f k).isSome] else (f k).getD z) w := by
  obtain ⟨es, clock, h1, h2, h3, h4, -⟩ := h
  have hks : ∀ x ∈ es.toList, IsKey d x.key := fun x hx => by obtain ⟨k, e⟩ := h3 x hx; rw [e]; exact hK k
  rcases findNow_spec (hK k) es.toList 0 hks with ⟨q1, q2⟩ | ⟨j, e, q1, q2, q3⟩
  · have hf : f k = none := by
      cases hv : f k with
      | none => rfl
      | some v => obtain ⟨e, he, hk, -⟩ := (h4 k v).1 hv; exact absurd hk (q2 e he)
    simp [Instr.lookup, run_underlying ht, Go.MapKept.run_getObj_map h1, Go.MapKept.run_checkKey hd (hK k), Go.MapKept.run_findKey hd q1, hz, hf, Result.andThen]
  · have hf : f k = some e.val := (h4 k e.val).2 ⟨e, List.mem_of_getElem? q2, q3, rfl⟩
    simp [Instr.lookup, run_underlying ht, Go.MapKept.run_getObj_map h1, Go.MapKept.run_checkKey hd (hK k), Go.MapKept.run_findKey hd q1, hf, Result.andThen]
/-- m[k] = v -/
theorem IMap.put [DecidableEq K] (h : IMap d enc w b f n) {t kt et : TypeId} (ht : P.underlying t = some (.map kt et)) (hd : P.underlying kt = some d) (hK : ∀ k, IsKey d (enc k)) (hinj : ∀ k k', enc k = enc k' → k = k') (k : K) (v : Value) :
    ∃ w', (Instr.mapUpdate t (.map (some b)) (enc k) v).run P w = .ok () w' ∧ IMap d enc w' b (fun k' => if k' = k then some v else f k') (if (f k).isSome then n else n + 1) ∧ w.grownBy w' (some b) ∧ w'.heap.size = w.heap.size := by
  obtain ⟨es, clock, h1, h2, h3, h4, h5⟩ := h
  have hks : ∀ x ∈ es.toList, IsKey d x.key := fun x hx => by obtain ⟨k, e⟩ := h3 x hx; rw [e]; exact hK k
  have hgr : ∀ o : Obj, w.grownBy { w with heap := w.heap.setIfInBounds b o } (some b) := fun o =>
    ⟨rfl, rfl, rfl, by simp, fun k' _ hne => (heap_set h1).2 k' (fun e => hne (by rw [e]))⟩
  rcases findNow_spec (hK k) es.toList 0 hks with ⟨q1, q2⟩ | ⟨j, e, q1, q2, q3⟩
  · have hf : f k = none := by
      cases hv : f k with
      | none => rfl
      | some v => obtain ⟨e, he, hk, -⟩ := (h4 k v).1 hv; exact absurd hk (q2 e he)
    refine ⟨{ w with heap := w.heap.setIfInBounds b (.map (es.push { key := enc k, val := v, born := clock }) (clock + 1)) }, ?_, ?_, hgr _, by simp⟩
    · simp [Instr.mapUpdate, run_underlying ht, Go.MapKept.run_getObj_map h1, Go.MapKept.run_checkKey hd (hK k), Go.MapKept.run_findKey hd q1, Go.MapKept.run_setObj_map _ h1, Result.andThen]
    · refine ⟨_, _, (heap_set h1).1, stamped_push h2 q2, ?_, fun k' v' => ?_, by simp [hf, h5]⟩
      · intro x hx
        simp only [Array.toList_push, List.mem_append, List.mem_singleton] at hx
        rcases hx with hx | rfl
        · exact h3 x hx
        · exact ⟨k, rfl⟩
      · simp only [Array.toList_push, List.mem_append, List.mem_singleton]
        by_cases c : k' = k
        · subst c
          rw [if_pos rfl]
          constructor
          · intro e; injection e with e; exact ⟨_, .inr rfl, rfl, e⟩
          · rintro ⟨e, he | rfl, g1, g2⟩
            · exact absurd g1 (q2 e he)
            · rw [← g2]
        · rw [if_neg c, h4]
          constructor
          · rintro ⟨e, he, g⟩; exact ⟨e, .inl he, g⟩
          · rintro ⟨e, he | rfl, g1, g2⟩
            · exact ⟨e, he, g1, g2⟩
            · exact absurd (hinj _ _ g1).symm c
  · have hf : f k = some e.val := (h4 k e.val).2 ⟨e, List.mem_of_getElem? q2, q3, rfl⟩
    have hj : es[j]? = some e := by simpa using q2
    have hjl : j < es.size := (Array.getElem?_eq_some_iff.1 hj).1
    refine ⟨{ w with heap := w.heap.setIfInBounds b (.map (es.modify j fun e => { e with key := enc k, val := v }) clock) }, ?_, ?_, hgr _, by simp⟩
    · simp [Instr.mapUpdate, run_underlying ht, Go.MapKept.run_getObj_map h1, Go.MapKept.run_checkKey hd (hK k), Go.MapKept.run_findKey hd q1, hj, q3, Go.MapKept.run_keyThatStays (hK k), Go.MapKept.run_setObj_map _ h1, Result.andThen]
    · have hkey : ∀ e', es[j]? = some e' → ({ e' with key := enc k, val := v } : MapEntry).key = e'.key := fun e' he' => by rw [hj] at he'; cases he'; exact q3.symm
      have hat : ∀ i, (es.modify j fun e => { e with key := enc k, val := v }).toList[i]? = if j = i then some { e with key := enc k, val := v } else es.toList[i]? := by
        intro i
        rw [Array.getElem?_toList, Array.getElem?_modify]
        by_cases c : j = i
        · subst c; rw [if_pos rfl, if_pos rfl, hj]; rfl
        · rw [if_neg c, if_neg c, Array.getElem?_toList]
      refine ⟨_, _, (heap_set h1).1, stamped_modify h2 _ _ (fun _ _ => rfl) (fun e' _ he' => hkey e' he'), ?_, fun k' v' => ?_, by simp [hf, h5]⟩
      · intro x hx
        obtain ⟨i, hi⟩ := List.getElem?_of_mem hx
        rw [hat] at hi
        split at hi
        · injection hi with hi; subst hi; exact ⟨k, rfl⟩
        · exact h3 x (List.mem_of_getElem? hi)
      · dsimp only
        by_cases c : k' = k
        · subst c
          rw [if_pos rfl]
          constructor
          · intro e1
            injection e1 with e1
            refine ⟨{ e with key := enc k', val := v }, List.mem_of_getElem? (i := j) (by rw [hat, if_pos rfl]), rfl, e1⟩
          · rintro ⟨e1, he, g1, g2⟩
            obtain ⟨i, hi⟩ := List.getElem?_of_mem he
            rw [hat] at hi
            split at hi
            · injection hi with hi; subst hi; rw [← g2]
            · rename_i hji
              have := nodup_keys h2 q2 hi (q3.trans g1.symm)
              exact absurd this hji
        · rw [if_neg c, h4]
          constructor
          · rintro ⟨e1, he, g1, g2⟩
            obtain ⟨i, hi⟩ := List.getElem?_of_mem he
            refine ⟨e1, List.mem_of_getElem? (i := i) ?_, g1, g2⟩
            rw [hat, if_neg (fun hji => ?_)]
            · exact hi
            · subst hji
              rw [q2] at hi
              injection hi with hi
              subst hi
              exact c (hinj _ _ (g1.symm.trans q3))
          · rintro ⟨e1, he, g1, g2⟩
            obtain ⟨i, hi⟩ := List.getElem?_of_mem he
            rw [hat] at hi
            split at hi
            · injection hi with hi; subst hi; exact absurd (hinj _ _ g1).symm c
            · exact ⟨e1, List.mem_of_getElem? hi, g1, g2⟩
/-- delete(m, k) -/
theorem IMap.del [DecidableEq K] (h : IMap d enc w b f n) {t kt et ty : TypeId} (ht : P.underlying t = some (.map kt et)) (hd : P.underlying kt = some d) (hK : ∀ k, IsKey d (enc k)) (hinj : ∀ k k', enc k = enc k' → k = k') (k : K) :
    ∃ w', (Builtin.delete_ #[t, kt] ty #[.map (some b), enc k]).run P w = .ok (.tuple #[]) w' ∧ IMap d enc w' b (fun k' => if k' = k then none else f k') (if (f k).isSome then n - 1 else n) ∧ w.grownBy w' (some b) ∧ w'.heap.size = w.heap.size := by
  obtain ⟨es, clock, h1, h2, h3, h4, h5⟩ := h
  have hks : ∀ x ∈ es.toList, IsKey d x.key := fun x hx => by obtain ⟨k, e⟩ := h3 x hx; rw [e]; exact hK k
  have hgr : ∀ o : Obj, w.grownBy { w with heap := w.heap.setIfInBounds b o } (some b) := fun o =>
    ⟨rfl, rfl, rfl, by simp, fun k' _ hne => (heap_set h1).2 k' (fun e => hne (by rw [e]))⟩
  rcases findNow_spec (hK k) es.toList 0 hks with ⟨q1, q2⟩ | ⟨j, e, q1, q2, q3⟩
  · have hf : f k = none := by
      cases hv : f k with
      | none => rfl
      | some v => obtain ⟨e, he, hk, -⟩ := (h4 k v).1 hv; exact absurd hk (q2 e he)
    refine ⟨{ w with heap := w.heap.setIfInBounds b (.map es clock) }, ?_, ⟨es, clock, (heap_set h1).1, h2, h3, fun k' v' => ?_, by simp [hf, h5]⟩, hgr _, by simp⟩
    · simp [Builtin.delete_, run_underlying ht, Go.MapKept.run_getObj_map h1, Go.MapKept.run_checkKey hd (hK k), Go.MapKept.run_findKey hd q1, Go.MapKept.run_setObj_map _ h1, Result.andThen]
    · dsimp only
      by_cases c : k' = k
      · subst c
        rw [if_pos rfl, ← h4, hf]
      · rw [if_neg c]; exact h4 k' v'
  · have hf : f k = some e.val := (h4 k e.val).2 ⟨e, List.mem_of_getElem? q2, q3, rfl⟩
    have hj : es[j]? = some e := by simpa using q2
    have hjl : j < es.size := (Array.getElem?_eq_some_iff.1 hj).1
    have hlist : (es.eraseIdxIfInBounds j).toList = es.toList.eraseIdx j := by
      unfold Array.eraseIdxIfInBounds
      rw [dif_pos hjl, Array.toList_eraseIdx]
    refine ⟨{ w with heap := w.heap.setIfInBounds b (.map (es.eraseIdxIfInBounds j) clock) }, ?_, ⟨_, _, (heap_set h1).1, stamped_erase h2 _, ?_, fun k' v' => ?_, ?_⟩, hgr _, by simp⟩
    · simp [Builtin.delete_, run_underlying ht, Go.MapKept.run_getObj_map h1, Go.MapKept.run_checkKey hd (hK k), Go.MapKept.run_findKey hd q1, Go.MapKept.run_setObj_map _ h1, Result.andThen]
    · intro x hx
      rw [hlist] at hx
      exact h3 x ((List.eraseIdx_sublist _ _).subset hx)
    · have hmem : ∀ x, x ∈ (es.eraseIdxIfInBounds j).toList ↔ x ∈ es.toList ∧ x.key ≠ enc k := by
        intro x
        rw [hlist, List.mem_eraseIdx_iff_getElem?]
        constructor
        · rintro ⟨i, hij, hi⟩
          refine ⟨List.mem_of_getElem? hi, fun hk => hij ?_⟩
          exact (nodup_keys h2 q2 hi (q3.trans hk.symm)).symm
        · rintro ⟨hx, hne⟩
          obtain ⟨i, hi⟩ := List.getElem?_of_mem hx
          refine ⟨i, fun hij => ?_, hi⟩
          subst hij
          rw [q2] at hi
          injection hi with hi
          subst hi
          exact hne q3
      dsimp only
      by_cases c : k' = k
      · subst c
        rw [if_pos rfl]
        constructor
        · intro e; cases e
        · rintro ⟨e1, he, g1, g2⟩; exact absurd g1 ((hmem e1).1 he).2
      · rw [if_neg c, h4]
        constructor
        · rintro ⟨e1, he, g1, g2⟩; exact ⟨e1, (hmem e1).2 ⟨he, fun g => c (hinj _ _ (g1.symm.trans g))⟩, g1, g2⟩
        · rintro ⟨e1, he, g1, g2⟩; exact ⟨e1, ((hmem e1).1 he).1, g1, g2⟩
    · rw [if_pos (by rw [hf]; rfl), ← Array.length_toList, hlist, List.length_eraseIdx, if_pos (by simpa using hjl), Array.length_toList, h5]
/-- len(m) -/
theorem IMap.len (h : IMap d enc w b f n) {t kt et ty : TypeId} (ht : P.underlying t = some (.map kt et)) : (Builtin.len_ #[t] ty #[.map (some b)]).run P w = .ok (goInt n) w := by
  obtain ⟨es, clock, h1, h2, h3, h4, rfl⟩ := h
  simp [Builtin.len_, run_underlying ht, Go.MapKept.run_getObj_map h1, Result.andThen]
end
theorem wp_look {K : Type} {d : TypeDesc} {enc : K → Value} {b n : Nat} {f : K → Option Value} {P : Program} (w : World) {ops : Array Oper} {rest : List Oper} {o : Oper} {a : Act} {Q : Exit → Act → World → Prop}
    (hg : o.guard = none) (m x : Operand) (t : TypeId) (c : Bool) (hop : o.op = Op.lookup t m x c) (kt et : TypeId) (ht : P.underlying t = some (.map kt et)) (hd : P.underlying kt = some d) (hK : ∀ k, IsKey d (enc k)) (z : Value) (hz : ∀ w, (zeroValue et).run P w = .ok z w)
    (hm : a.eval m = .map (some b)) (h : IMap d enc w b f n) (k : K) (hx : a.eval x = enc k) (hQ : wpList P ops Q rest (a.put o.dst (if c then .tuple #[(f k).getD z, .bool (f k).isSome] else (f k).getD z)) w) : wpList P ops Q (o :: rest) a w := by
  refine wpList_plain hg fun K' hK' => ?_
  have hrun := h.look ht hd hK (hz w) k c
  generalize (if c then Value.tuple #[(f k).getD z, .bool (f k).isSome] else (f k).getD z) = v at hrun hQ
  unfold Oper.wp
  simp [execOp, hop, hm, hx, hrun, Result.andThen]
  exact hK' _ _ hQ
theorem wp_mput {K : Type} [DecidableEq K] {d : TypeDesc} {enc : K → Value} {b n : Nat} {f : K → Option Value} {P : Program} (w : World) {ops : Array Oper} {rest : List Oper} {o : Oper} {a : Act} {Q : Exit → Act → World → Prop}
    (hg : o.guard = none) (m x v : Operand) (t : TypeId) (hop : o.op = Op.mapUpdate t m x v) (kt et : TypeId) (ht : P.underlying t = some (.map kt et)) (hd : P.underlying kt = some d) (hK : ∀ k, IsKey d (enc k)) (hinj : ∀ k k', enc k = enc k' → k = k')
    (hm : a.eval m = .map (some b)) (h : IMap d enc w b f n) (k : K) (hx : a.eval x = enc k) (val : Value) (hv : a.eval v = val)
    (hQ : ∀ w', IMap d enc w' b (fun k' => if k' = k then some val else f k') (if (f k).isSome then n else n + 1) → w.grownBy w' (some b) → w'.heap.size = w.heap.size → wpList P ops Q rest (a.put o.dst undef) w') : wpList P ops Q (o :: rest) a w := by
  refine wpList_plain hg fun K' hK' => ?_
  obtain ⟨w', hrun, r1, r2, r3⟩ := h.put ht hd hK hinj k val
  unfold Oper.wp
  simp [execOp, hop, hm, hx, hv, hrun, Result.andThen]
  exact hK' _ _ (hQ w' r1 r2 r3)
theorem wp_mdel {K : Type} [DecidableEq K] {d : TypeDesc} {enc : K → Value} {b n : Nat} {f : K → Option Value} {P : Program} (w : World) {ops : Array Oper} {rest : List Oper} {o : Oper} {a : Act} {Q : Exit → Act → World → Prop}
    (hg : o.guard = none) (m x : Operand) (t kt et : TypeId) (hop : o.op = .call { callee := .builtin .delete, args := #[m, x], argTypes := #[t, kt] }) (ht : P.underlying t = some (.map kt et)) (hd : P.underlying kt = some d) (hK : ∀ k, IsKey d (enc k)) (hinj : ∀ k k', enc k = enc k' → k = k')
    (hm : a.eval m = .map (some b)) (h : IMap d enc w b f n) (k : K) (hx : a.eval x = enc k)
    (hQ : ∀ w', IMap d enc w' b (fun k' => if k' = k then none else f k') (if (f k).isSome then n - 1 else n) → w.grownBy w' (some b) → w'.heap.size = w.heap.size → wpList P ops Q rest (a.put o.dst (.tuple #[])) w') : wpList P ops Q (o :: rest) a w := by
  refine wpList_plain hg fun K' hK' => ?_
  obtain ⟨w', hrun, r1, r2, r3⟩ := h.del (ty := o.type) ht hd hK hinj k
  unfold Oper.wp
  simp [execOp, hop, resolve, invoke, builtin, hm, hx, hrun, Result.andThen]
  exact hK' _ _ (hQ w' r1 r2 r3)
/-- integers as keys -/
abbrev ik (k : Int) : Value := .int .i64 k
theorem ik_key (k : Int) : IsKey (.int .i64) (ik k) := rfl
theorem ik_inj (k k' : Int) (h : ik k = ik k') : k = k' := by injection h
/-- texts as keys -/
abbrev sk (s : ByteArray) : Value := .string s
theorem sk_key (s : ByteArray) : IsKey .string (sk s) := trivial
theorem sk_inj (s s' : ByteArray) (h : sk s = sk s') : s = s' := by injection h

end Go.Proofs.YtelfinhpjokmdaaGreatDoor

namespace Go.Proofs.YtelfinhpjokmdaaGreatDoor
set_option maxRecDepth 100000
set_option linter.unusedVariables false
set_option linter.unusedSectionVars false
set_option linter.unnecessarySimpa false
set_option linter.unusedSimpArgs false

section
variable {R : Type} [DecidableEq R] (O : OrdR R) (M : Mds)
/-- the wishes for a thing, in order -/
def que (W : List (Ws R)) (s : R) : List (Lk R) := ((W.filter fun w => decide (w.l.res = s)).filter (fun w => w.ch) ++ (W.filter fun w => decide (w.l.res = s)).filter (fun w => !w.ch)).map fun w => w.l
/-- a transaction's wish -/
def wsh (W : List (Ws R)) (t : Int) : Option (Lk R) := (W.find? fun w => decide (w.l.txn = t)).map fun w => w.l
/-- a transaction's wish is out -/
def fgt (W : List (Ws R)) (t : Int) : List (Ws R) := W.filter fun w => !decide (w.l.txn = t)
/-- locks and wishes -/
structure TbL (R : Type) where
  hv : List (Lk R)
  wt : List (Ws R)
def askL (T : TbL R) (t : Int) (s : R) (m : Int) : TbL R × Int :=
  if M.right m = false ∨ (wsh T.wt t).isSome = true then (T, 0)
  else if M.jn (mdO T.hv t s) m = mdO T.hv t s then (T, 1)
  else if can M T.hv ⟨t, s, M.jn (mdO T.hv t s) m⟩ = true ∧ (mdO T.hv t s ≠ 0 ∨ que T.wt s = []) then (⟨gv O ⟨t, s, M.jn (mdO T.hv t s) m⟩ T.hv, T.wt⟩, 1)
  else (⟨T.hv, T.wt ++ [⟨⟨t, s, M.jn (mdO T.hv t s) m⟩, !decide (mdO T.hv t s = 0)⟩]⟩, 2)
/-- the wishes at the head of a queue granted -/
def stl : List (Lk R) → TbL R → List Int → TbL R × List Int
  | [], T, out => (T, out)
  | l :: q, T, out => if can M T.hv l = true then stl q ⟨gv O l T.hv, fgt T.wt l.txn⟩ (out ++ [l.txn]) else (T, out)
/-- a thing put where it belongs -/
def insR (s : R) : List R → List R
  | [] => [s]
  | x :: r => if O.lt s x = true then s :: x :: r else x :: insR s r
/-- the things that a transaction has or wishes -/
def thg (T : TbL R) (t : Int) : List R :=
  match wsh T.wt t with
  | some w => if mdO T.hv t w.res = 0 then insR O w.res ((T.hv.filter fun h => decide (h.txn = t)).map fun h => h.res) else (T.hv.filter fun h => decide (h.txn = t)).map fun h => h.res
  | none => (T.hv.filter fun h => decide (h.txn = t)).map fun h => h.res
def outL (T : TbL R) (t : Int) : TbL R := ⟨T.hv.filter fun h => !decide (h.txn = t), fgt T.wt t⟩
def dropL (T : TbL R) (t : Int) : TbL R × List Int :=
  (thg O T t).foldl (fun p s => stl O M (que p.1.wt s) p.1 p.2) (outL T t, [])

theorem mem_que {W : List (Ws R)} {s : R} {l : Lk R} : l ∈ que W s ↔ l.res = s ∧ ∃ w ∈ W, w.l = l := by
  unfold que
  rw [List.mem_map]
  constructor
  · rintro ⟨w, hw, rfl⟩
    rcases List.mem_append.1 hw with h | h
    all_goals
      have h1 := (List.mem_filter.1 h).1
      have h2 := List.mem_filter.1 h1
      exact ⟨by simpa using h2.2, w, h2.1, rfl⟩
  · rintro ⟨hs, w, hw, rfl⟩
    have h1 : w ∈ W.filter fun w => decide (w.l.res = s) := List.mem_filter.2 ⟨hw, by simpa using hs⟩
    refine ⟨w, List.mem_append.2 ?_, rfl⟩
    cases hc : w.ch with
    | true => exact .inl (List.mem_filter.2 ⟨h1, hc⟩)
    | false => exact .inr (List.mem_filter.2 ⟨h1, by rw [hc]; rfl⟩)
theorem que_nil_of {W : List (Ws R)} (h : ∀ s, que W s = []) : W = [] := by
  cases W with
  | nil => rfl
  | cons w r =>
    have : w.l ∈ que (w :: r) w.l.res := mem_que.2 ⟨rfl, w, List.mem_cons_self .., rfl⟩
    rw [h] at this
    cases this
theorem que_fgt (W : List (Ws R)) (t : Int) (s : R) : que (fgt W t) s = (que W s).filter fun l => !decide (l.txn = t) := by
  unfold que fgt
  rw [List.filter_map, List.filter_append]
  congr 1
  simp only [List.filter_filter]
  congr 1
  · refine List.filter_congr fun w _ => ?_
    simp only [Function.comp]
    cases w.ch <;> cases decide (w.l.res = s) <;> cases decide (w.l.txn = t) <;> rfl
  · refine List.filter_congr fun w _ => ?_
    simp only [Function.comp]
    cases w.ch <;> cases decide (w.l.res = s) <;> cases decide (w.l.txn = t) <;> rfl
/-- the transactions that wait are all different -/
def One (W : List (Ws R)) : Prop := W.Pairwise fun a b => a.l.txn ≠ b.l.txn
omit [DecidableEq R] in
theorem One.fgt {W : List (Ws R)} (h : One W) (t : Int) : One (fgt W t) := List.Pairwise.filter _ h
omit [DecidableEq R] in
theorem One.eq {W : List (Ws R)} (h : One W) {a b : Ws R} (ha : a ∈ W) (hb : b ∈ W) (he : a.l.txn = b.l.txn) : a = b := by
  induction W with
  | nil => cases ha
  | cons w r ih =>
    obtain ⟨h1, h2⟩ := List.pairwise_cons.1 h
    rcases List.mem_cons.1 ha with e | e
    · rcases List.mem_cons.1 hb with g | g
      · rw [e, g]
      · rw [e] at he; exact absurd he (h1 b g)
    · rcases List.mem_cons.1 hb with g | g
      · rw [g] at he; exact absurd he.symm (h1 a e)
      · exact ih h2 e g
theorem que_one {W : List (Ws R)} (h : One W) (s : R) : (que W s).Pairwise fun a b => a.txn ≠ b.txn := by
  unfold que
  rw [List.pairwise_map]
  refine List.pairwise_append.2 ⟨List.Pairwise.filter _ (List.Pairwise.filter _ h), List.Pairwise.filter _ (List.Pairwise.filter _ h), fun a ha b hb e => ?_⟩
  have a1 := List.mem_filter.1 ha
  have b1 := List.mem_filter.1 hb
  have := One.eq h (List.mem_filter.1 a1.1).1 (List.mem_filter.1 b1.1).1 e
  rw [this] at a1
  have x := a1.2
  have y := b1.2
  rw [x] at y
  cases y
theorem que_head {W : List (Ws R)} (h : One W) {s : R} {l : Lk R} {q : List (Lk R)} (hq : que W s = l :: q) : que (fgt W l.txn) s = q := by
  have ho := que_one h s
  rw [que_fgt, hq]
  rw [hq] at ho
  have h1 := (List.pairwise_cons.1 ho).1
  rw [List.filter_cons_of_neg (by simp)]
  exact List.filter_eq_self.2 fun x hx => by have := h1 x hx; simp; exact fun e => this e.symm
theorem que_other {W : List (Ws R)} (h : One W) {t : Int} {s : R} (hn : ∀ w ∈ W, w.l.txn = t → w.l.res ≠ s) : que (fgt W t) s = que W s := by
  rw [que_fgt]
  refine List.filter_eq_self.2 fun x hx => ?_
  obtain ⟨hr, w, hw, rfl⟩ := mem_que.1 hx
  simp
  exact fun e => hn w hw e hr
theorem que_snoc {W : List (Ws R)} {l : Lk R} {c : Bool} {s : R} {x : Lk R} {q : List (Lk R)} (h : que (W ++ [⟨l, c⟩]) s = x :: q) :
    (∃ q', que W s = x :: q') ∨ (x = l ∧ l.res = s ∧ (c = true ∨ que W s = [])) := by
  unfold que at h ⊢
  rw [List.filter_append] at h
  by_cases hr : l.res = s
  · rw [List.filter_cons_of_pos (by simpa using hr), List.filter_nil, List.filter_append, List.filter_append] at h
    generalize (W.filter fun w => decide (w.l.res = s)).filter (fun w => w.ch) = A at h ⊢
    generalize (W.filter fun w => decide (w.l.res = s)).filter (fun w => !w.ch) = B at h ⊢
    cases c with
    | true =>
      rw [List.filter_cons_of_pos (by rfl), List.filter_nil, List.filter_cons_of_neg (by simp), List.filter_nil, List.append_nil] at h
      cases A with
      | nil =>
        simp at h
        exact .inr ⟨h.1.symm, hr, .inl rfl⟩
      | cons a A =>
        simp at h
        exact .inl ⟨_, by simp [h.1]; rfl⟩
    | false =>
      rw [List.filter_cons_of_neg (by simp), List.filter_nil, List.append_nil, List.filter_cons_of_pos (by rfl), List.filter_nil] at h
      cases A with
      | nil =>
        cases B with
        | nil =>
          simp at h
          exact .inr ⟨h.1.symm, hr, .inr rfl⟩
        | cons b B =>
          simp at h
          exact .inl ⟨_, by simp [h.1]; rfl⟩
      | cons a A =>
        simp at h
        exact .inl ⟨_, by simp [h.1]; rfl⟩
  · rw [List.filter_cons_of_neg (by simpa using hr), List.filter_nil, List.append_nil] at h
    exact .inl ⟨q, h⟩
theorem can_other {H : List (Lk R)} (hs : SrtL O H) {l x : Lk R} (h : l.res ≠ x.res) : can M (gv O l H) x = can M H x := by
  rw [Bool.eq_iff_iff, can_iff, can_iff]
  constructor
  · intro g y hy hr ht
    exact g y ((mem_gv O hs).2 (.inr ⟨hy, fun hk => h (hk.2.trans hr)⟩)) hr ht
  · intro g y hy hr ht
    rcases (mem_gv O hs).1 hy with e | ⟨e, _⟩
    · rw [e] at hr; exact absurd hr h
    · exact g y e hr ht
omit [DecidableEq R] in
theorem wsh_none {W : List (Ws R)} {t : Int} (h : (wsh W t).isSome ≠ true) : ∀ w ∈ W, w.l.txn ≠ t := by
  intro w hw e
  apply h
  unfold wsh
  rw [Option.isSome_map, List.find?_isSome]
  exact ⟨w, hw, by simpa using e⟩
/-- what stays true -/
structure InvL (T : TbL R) : Prop where
  srt : SrtL O T.hv
  rt : ∀ h ∈ T.hv, M.right h.mode = true
  cl : Clean M T.hv
  one : One T.wt
  wr : ∀ w ∈ T.wt, M.right w.l.mode = true
  ch : ∀ w ∈ T.wt, (w.ch = true ↔ mdO T.hv w.l.txn w.l.res ≠ 0)
  cv : ∀ w ∈ T.wt, mdO T.hv w.l.txn w.l.res ≠ 0 → M.cv w.l.mode (mdO T.hv w.l.txn w.l.res) = true
  bar : ∀ s l q, que T.wt s = l :: q → can M T.hv l = false
theorem InvL.start : InvL O M (⟨[], []⟩ : TbL R) :=
  ⟨List.Pairwise.nil, (fun h hh => by cases hh), (fun h hh => by cases hh), List.Pairwise.nil, (fun h hh => by cases hh), (fun h hh => by cases hh), (fun h hh => by cases hh), (fun s l q h => by simp [que] at h)⟩
theorem InvL.had {T : TbL R} (h : InvL O M T) (t : Int) (s : R) : mdO T.hv t s = 0 ∨ M.right (mdO T.hv t s) = true := by
  by_cases z : mdO T.hv t s = 0
  · exact .inl z
  · exact .inr (h.rt _ (mdO_mem z))
theorem InvL.nz {T : TbL R} (h : InvL O M T) : ∀ x ∈ T.hv, x.mode ≠ 0 := fun x hx => M.pos _ (h.rt x hx)
/-- nobody has a thing: nobody waits for any -/
theorem InvL.empty {T : TbL R} (h : InvL O M T) (he : T.hv = []) : T.wt = [] := by
  refine que_nil_of fun s => ?_
  cases hq : que T.wt s with
  | nil => rfl
  | cons l q =>
    have := h.bar s l q hq
    rw [he] at this
    simp [can] at this
theorem InvL.ask {T : TbL R} (h : InvL O M T) (t : Int) (s : R) (m : Int) : InvL O M (askL O M T t s m).1 := by
  unfold askL
  by_cases c1 : M.right m = false ∨ (wsh T.wt t).isSome = true
  · rw [if_pos c1]; exact h
  · rw [if_neg c1]
    have hm : M.right m = true := by cases g : M.right m; exact absurd (.inl g) c1; rfl
    have hw : ∀ w ∈ T.wt, w.l.txn ≠ t := wsh_none fun g => c1 (.inr g)
    by_cases c2 : M.jn (mdO T.hv t s) m = mdO T.hv t s
    · rw [if_pos c2]; exact h
    · rw [if_neg c2]
      have hh := h.had (O := O) (M := M) t s
      have hr := M.jnr _ _ hh hm
      have hcl := M.cvl _ _ hh hm
      obtain ⟨l, hl⟩ : ∃ l : Lk R, ⟨t, s, M.jn (mdO T.hv t s) m⟩ = l := ⟨_, rfl⟩
      have lt : l.txn = t := by rw [← hl]
      have ls : l.res = s := by rw [← hl]
      have lm : l.mode = M.jn (mdO T.hv t s) m := by rw [← hl]
      rw [← lm] at hr hcl
      rw [hl]
      by_cases c3 : can M T.hv l = true ∧ (mdO T.hv t s ≠ 0 ∨ que T.wt s = [])
      · rw [if_pos c3]
        have hmd : ∀ w ∈ T.wt, mdO (gv O l T.hv) w.l.txn w.l.res = mdO T.hv w.l.txn w.l.res := fun w hwm => by
          rw [mdO_gv O h.srt l (M.pos _ hr) h.nz, if_neg (fun e => hw w hwm (by rw [← e.1, lt]))]
        refine ⟨srt_gv O h.srt, fun x hx => ?_, Clean.gv O M h.srt h.cl c3.1, h.one, h.wr, fun w hwm => by rw [hmd w hwm]; exact h.ch w hwm, fun w hwm => by rw [hmd w hwm]; exact h.cv w hwm, fun s' x q hq => ?_⟩
        · rcases (mem_gv O h.srt).1 hx with e | ⟨e, _⟩
          · rw [e]; exact hr
          · exact h.rt x e
        · obtain ⟨hxr, w, hwm, rfl⟩ := mem_que.1 (show x ∈ que T.wt s' by rw [hq]; exact List.mem_cons_self ..)
          have hb := h.bar s' _ q hq
          by_cases e : l.res = w.l.res
          · rcases c3.2 with g | g
            · rw [Bool.eq_false_iff, ne_eq, can_iff] at hb ⊢
              intro hc
              apply hb
              intro y hy hyr hyt
              by_cases hk : keyE l y
              · have h1 : y.mode = mdO T.hv t s := by rw [← mdO_of O h.srt hy, ← hk.1, ← hk.2, lt, ls]
                rw [h1]
                refine M.ctg _ _ _ hr ?_ (h.wr w hwm) hcl (hc l ((mem_gv O h.srt).2 (.inl rfl)) e (by rw [hk.1]; exact hyt))
                rcases hh with z | z
                · exact absurd z g
                · exact z
              · exact hc y ((mem_gv O h.srt).2 (.inr ⟨hy, hk⟩)) hyr hyt
            · rw [← hxr, ← e, ls, g] at hq
              cases hq
          · rw [can_other O M h.srt e]; exact hb
      · rw [if_neg c3]
        refine ⟨h.srt, h.rt, h.cl, ?_, fun w hwm => ?_, fun w hwm => ?_, fun w hwm => ?_, fun s' x q hq => ?_⟩
        · refine List.pairwise_append.2 ⟨h.one, by simp, fun a ha b hb => ?_⟩
          simp at hb
          rw [hb, lt]
          exact hw a ha
        · rcases List.mem_append.1 hwm with e | e
          · exact h.wr w e
          · simp at e; rw [e]; exact hr
        · rcases List.mem_append.1 hwm with e | e
          · exact h.ch w e
          · simp at e; rw [e, lt, ls]; simp
        · rcases List.mem_append.1 hwm with e | e
          · exact h.cv w e
          · simp at e; rw [e, lt, ls]; intro _; exact hcl
        · rcases que_snoc hq with ⟨q', g⟩ | ⟨rfl, g1, g2⟩
          · exact h.bar s' x q' g
          · rw [Bool.eq_false_iff]
            intro hc
            refine c3 ⟨hc, ?_⟩
            rcases g2 with g | g
            · left; simpa using g
            · right; rw [← ls, g1]; exact g
end

end Go.Proofs.YtelfinhpjokmdaaGreatDoor
