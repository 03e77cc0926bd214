/-
  Texts of mine put together, in build order.
  Conditions: as each declaration says.
-/
import Derived.ArgAppend
import Derived.Lib.AppendZerosOnto
import Derived.Laws.CopyOwn
import Derived.Lib.SliceRun
import Derived.Deep.DeepCutAuto
import Derived.Deep.QuietTactic
import Derived.BigQuiet
import Derived.Deep.RegionHeld3
import Derived.Laws.OwnMore
import Derived.Laws.Closers25b
import Derived.Laws.BitsAllLaws
import Derived.Test.YtmmchhlfbhbigaaDoorMg2
namespace Go.Proofs.YtmmchhlfbhbigaaDoor
set_option maxRecDepth 100000
open Go.RowKit Go.Joins Go.ChangeShapes Go.WideShapes
set_option linter.unusedVariables false

/-- a part: its key, its number, its child's block -/
abbrev Pv := ByteArray × Int × Option Nat
def kp (k : Option Nat) : Value := .pointer (k.map fun g => (⟨g, 0, none⟩ : Addr))
def pcells : List Pv → List Value
  | [] => []
  | p :: r => [.string p.1, .int .i64 p.2.1, kp p.2.2] ++ pcells r
theorem pcells_length (l : List Pv) : (pcells l).length = l.length * 3 := by
  induction l with
  | nil => rfl
  | cons v r ih => simp [pcells, ih]; omega
theorem pcells_app (l r : List Pv) : pcells (l ++ r) = pcells l ++ pcells r := by
  induction l with
  | nil => rfl
  | cons v l ih => simp only [List.cons_append, pcells, ih, List.append_assoc]
theorem pcells_take (l : List Pv) (k : Nat) : (pcells l).take (k * 3) = pcells (l.take k) := by
  induction l generalizing k with
  | nil => simp [pcells]
  | cons v l ih =>
    cases k with
    | zero => simp [pcells]
    | succ k =>
      rw [show (k + 1) * 3 = k * 3 + 1 + 1 + 1 by omega]
      simp only [pcells, List.cons_append, List.nil_append, List.take_succ_cons, ih]
theorem pcells_drop (l : List Pv) (k : Nat) : (pcells l).drop (k * 3) = pcells (l.drop k) := by
  induction l generalizing k with
  | nil => simp [pcells]
  | cons v l ih =>
    cases k with
    | zero => simp [pcells]
    | succ k =>
      rw [show (k + 1) * 3 = k * 3 + 1 + 1 + 1 by omega]
      simp only [pcells, List.cons_append, List.nil_append, List.drop_succ_cons, ih]
theorem pcells_at (l : List Pv) (i : Nat) (p : Pv) (h : l[i]? = some p) : (pcells l)[i * 3]? = some (.string p.1) ∧ (pcells l)[i * 3 + 1]? = some (.int .i64 p.2.1) ∧ (pcells l)[i * 3 + 2]? = some (kp p.2.2) := by
  induction l generalizing i with
  | nil => simp at h
  | cons u l ih =>
    unfold pcells
    cases i with
    | zero =>
      simp only [List.getElem?_cons_zero, Option.some.injEq] at h
      subst h
      exact ⟨rfl, rfl, rfl⟩
    | succ i =>
      rw [List.getElem?_cons_succ] at h
      obtain ⟨h1, h2, h3⟩ := ih i h
      have e : ∀ j, ([Value.string u.1, .int .i64 u.2.1, kp u.2.2] ++ pcells l)[(i + 1) * 3 + j]? = (pcells l)[i * 3 + j]? := by
        intro j
        rw [List.getElem?_append_right (by simp; omega)]
        congr 1
        simp
        omega
      exact ⟨(e 0).trans h1, (e 1).trans h2, (e 2).trans h3⟩
theorem pcells_one : ∀ (l : List Pv), ∀ u ∈ pcells l, u.oneCell' = true
  | [], u, hu => by cases hu
  | p :: l, u, hu => by
    unfold pcells at hu
    rcases List.mem_append.1 hu with h | h
    · simp only [List.mem_cons, List.not_mem_nil, or_false] at h
      rcases h with rfl | rfl | rfl <;> rfl
    · exact pcells_one l u h

/-- a slice of parts of the call's own: all behind B -/
def OwP (w : World) (B : Nat) (v : Value) (l : List Pv) : Prop := w.ownsRow B 131 3 v l.length (pcells l)
theorem OwP.cases {w : World} {B : Nat} {v : Value} {l : List Pv} (h : OwP w B v l) : (v = .slice none 0 0 ∧ l = []) ∨
    ∃ (g cap : Nat) (cur : List Value), v = .slice (some ⟨g, 0, none⟩) l.length cap ∧ B ≤ g ∧ w.heap[g]? = some (.cells cur.toArray 131 (0, 0)) ∧ l.length ≤ cap ∧ cap ≤ maxLen ∧ cur.length = cap * 3 ∧ cur.take (l.length * 3) = pcells l := by
  rcases h.2 with ⟨rfl, e⟩ | ⟨g, cap, cur, rfl, hb, hg, hn, hc, hs, ht⟩
  · exact .inl ⟨rfl, List.eq_nil_of_length_eq_zero e⟩
  · exact .inr ⟨g, cap, cur.toList, rfl, hb, by simpa using hg, hn, hc, by simpa using hs, ht⟩
theorem OwP.mk {w : World} {B g cap : Nat} {cur : List Value} {l : List Pv} (hb : B ≤ g) (hg : w.heap[g]? = some (.cells cur.toArray 131 (0, 0))) (hn : l.length ≤ cap) (hc : cap ≤ maxLen) (hs : cur.length = cap * 3) (ht : cur.take (l.length * 3) = pcells l) :
    OwP w B (.slice (some ⟨g, 0, none⟩) l.length cap) l :=
  ⟨pcells_length l, .inr ⟨g, cap, cur.toArray, rfl, hb, hg, hn, hc, by simpa using hs, by simpa using ht⟩⟩
theorem OwP.le {w : World} {B B' : Nat} {v : Value} {l : List Pv} (h : OwP w B v l) (hb : B' ≤ B) : OwP w B' v l := ownsRow_le h hb
theorem Frm.owP {F : Bl} {w w1 : World} (h : Frm F w w1) {B : Nat} {v : Value} {l : List Pv} (ho : OwP w B v l) (hf : ∀ k, v.ownBlock = some k → ¬ F k) : OwP w1 B v l := h.ownsRow ho hf
theorem OwP.nil (w : World) (B : Nat) : OwP w B (.slice none 0 0) [] := World.ownsRow_nil w B _ 3
theorem OwP.at {w : World} {B : Nat} {v : Value} {l : List Pv} (h : OwP w B v l) {i : Nat} {p : Pv} (hi : l[i]? = some p) :
    ∃ g cap, v = .slice (some ⟨g, 0, none⟩) l.length cap ∧ l.length ≤ cap ∧ cap ≤ maxLen ∧ w.cell? ⟨g, i * 3, none⟩ = some (.string p.1) ∧ w.cell? ⟨g, i * 3 + 1, none⟩ = some (.int .i64 p.2.1) ∧ w.cell? ⟨g, i * 3 + 2, none⟩ = some (kp p.2.2) ∧ ∀ o, w.frozen? ⟨g, o, none⟩ = false := by
  have hl : i < l.length := (List.getElem?_eq_some_iff.1 hi).1
  rcases h.cases with ⟨-, rfl⟩ | ⟨g, cap, cur, rfl, hb, hg, hn, hc, hs, ht⟩
  · simp at hl
  · have hc : ∀ (j : Nat) (u : Value), (pcells l)[j]? = some u → w.cell? ⟨g, j, none⟩ = some u := by
      intro j u hj
      rw [cell_of_block hg j]
      rw [← ht, List.getElem?_take] at hj
      split at hj
      · simpa using hj
      · cases hj
    obtain ⟨a, b, c⟩ := pcells_at l i p hi
    exact ⟨g, cap, rfl, hn, by assumption, hc _ _ a, hc _ _ b, hc _ _ c, fun o => unfrozen_of_block hg o⟩
/-- what the cells of a slice of parts hold, from place i on -/
theorem OwP.from {w : World} {B g cap n : Nat} {l : List Pv} (h : OwP w B (.slice (some ⟨g, 0, none⟩) n cap) l) (i : Nat) : ∀ j u, (pcells (l.drop i))[j]? = some u → w.cell? ((⟨g, i * 3, none⟩ : Addr).add j) = some u := by
  intro j u hj
  have ea : (⟨g, i * 3, none⟩ : Addr).add j = ⟨g, i * 3 + j, none⟩ := by unfold Addr.add; split <;> simp_all
  rw [ea]
  rcases h.cases with ⟨e, -⟩ | ⟨g', cap', cur, e, hb, hg, hn, hc, hs, ht⟩
  · simp at e
  · simp only [Value.slice.injEq, Option.some.injEq, Addr.mk.injEq, and_true] at e
    obtain ⟨rfl, -, rfl⟩ := e
    rw [← pcells_drop, List.getElem?_drop] at hj
    rw [cell_of_block hg _]
    rw [← ht, List.getElem?_take] at hj
    split at hj
    · simpa using hj
    · cases hj

theorem infoP : (Tryd.prog.info? 131).map (fun i => (i.zero, i.size, i.bytes)) = some (some (.agg #[.string ByteArray.empty, .int .i64 0, .pointer none]), 3, 32) := by kernel_rfl
def zp : Pv := (ByteArray.empty, 0, none)
theorem zeroCells_p (n : Nat) : (Builtin.zeroCells (Value.agg #[.string ByteArray.empty, .int .i64 0, .pointer none]).cells n).toList = pcells (List.replicate n zp) := by
  have hz : (Value.agg #[.string ByteArray.empty, .int .i64 0, .pointer none]).cells = #[.string ByteArray.empty, .int .i64 0, .pointer none] := rfl
  rw [hz]
  apply List.ext_getElem?
  intro j
  have h3 : j % 3 = 0 ∨ j % 3 = 1 ∨ j % 3 = 2 := by omega
  by_cases hj : j < n * 3
  · have hr : (List.replicate n zp)[j / 3]? = some zp := by rw [List.getElem?_replicate, if_pos (by omega)]
    obtain ⟨a, b, c⟩ := pcells_at _ _ _ hr
    have l : (Builtin.zeroCells #[Value.string ByteArray.empty, .int .i64 0, .pointer none] n).toList[j]? = some (#[Value.string ByteArray.empty, .int .i64 0, .pointer none][j % 3]!) := by
      simp [Builtin.zeroCells, hj]
    rw [l]
    rcases h3 with h | h | h
    · rw [h, show j = j / 3 * 3 by omega, a]; rfl
    · rw [h, show j = j / 3 * 3 + 1 by omega, b]; rfl
    · rw [h, show j = j / 3 * 3 + 2 by omega, c]; rfl
  · rw [List.getElem?_eq_none (by simp [Builtin.zeroCells]; omega), List.getElem?_eq_none (by rw [pcells_length, List.length_replicate]; omega)]

/-- cells that are laid over a row that is known whole -/
theorem setCells_row {w : World} {g o : Nat} {cur : List Value} {t : TypeId} {cs : List Value} (hg : w.heap[g]? = some (.cells cur.toArray t (0, 0))) (hfit : o + cs.length ≤ cur.length) (h1 : ∀ u ∈ cs, u.oneCell' = true) :
    w.setCells g o cs = w.setRow g (splice cur o cs).toArray := by
  have e1 := run_storeCells_at Tryd.prog g o t cs 0 cur.toArray w hg (by simpa using hfit) h1
  have e2 := run_storeCells_cells (P := Tryd.prog) g o cs 0 w (fun j hj => by
    rw [cell_of_block hg]
    simp only [Nat.add_zero]
    rw [List.getElem?_toArray, List.getElem?_eq_getElem (by omega)]
    rfl) (fun j hj => unfrozen_of_block hg _) h1
  rw [e1] at e2
  injection e2 with _ e3
  simp only [Nat.add_zero] at e3
  rw [← e3]
  unfold splice
  simp
theorem splice_two {X Y Z cur : List Value} {a : Nat} (hx : cur.take a = X) (ha : X.length = a) (hf : a + Y.length + Z.length ≤ cur.length) :
    (splice (splice cur a Y) (a + Y.length) Z).take (a + Y.length + Z.length) = X ++ Y ++ Z := by
  subst hx
  unfold splice
  have hl : (cur.take a).length = a := ha
  rw [← List.append_assoc, ← List.append_assoc]
  have e1 : (cur.take a ++ Y ++ cur.drop (a + Y.length)).take (a + Y.length) = cur.take a ++ Y := by
    rw [show a + Y.length = (cur.take a ++ Y).length by rw [List.length_append, hl]]
    exact List.take_left
  rw [e1, show a + Y.length + Z.length = (cur.take a ++ Y ++ Z).length by rw [List.length_append, List.length_append, hl]]
  exact List.take_left
theorem splice_two' {X Y Z cur : List Value} {a : Nat} (hx : cur.take a = X) (ha : X.length = a) (hf : a + Y.length + Z.length ≤ cur.length) :
    (splice (splice cur (a + Y.length) Z) a Y).take (a + Y.length + Z.length) = X ++ Y ++ Z := by
  subst hx
  have hl : (cur.take a).length = a := ha
  have hl2 : (cur.take (a + Y.length)).length = a + Y.length := by rw [List.length_take]; omega
  unfold splice
  have e1 : (cur.take (a + Y.length) ++ (Z ++ cur.drop (a + Y.length + Z.length))).take a = cur.take a := by
    rw [List.take_append_of_le_length (by omega), List.take_take]
    congr 1
    omega
  have e2 : (cur.take (a + Y.length) ++ (Z ++ cur.drop (a + Y.length + Z.length))).drop (a + Y.length) = Z ++ cur.drop (a + Y.length + Z.length) := by
    conv => lhs; arg 1; rw [← hl2]
    exact List.drop_left
  rw [e1, e2, ← List.append_assoc, ← List.append_assoc, show a + Y.length + Z.length = (cur.take a ++ Y ++ Z).length by rw [List.length_append, List.length_append, hl]]
  exact List.take_left
theorem splice_one {X Y cur : List Value} {a : Nat} (hx : cur.take a = X) (ha : X.length = a) (hf : a + Y.length ≤ cur.length) : (splice cur a Y).take (a + Y.length) = X ++ Y := by
  subst hx
  unfold splice
  rw [← List.append_assoc, show a + Y.length = (cur.take a ++ Y).length by rw [List.length_append, ha]]
  exact List.take_left
theorem splice_far {cur Y : List Value} {a n : Nat} (hn : n ≤ a) (ha : a ≤ cur.length) : (splice cur a Y).take n = cur.take n := by
  unfold splice
  rw [List.take_append_of_le_length (by rw [List.length_take]; omega), List.take_take]
  congr 1
  omega
theorem grown_setRow (w : World) (g : Nat) (cs : Array Value) : w.grownBy (w.setRow g cs) (some g) :=
  ⟨rfl, rfl, rfl, by simp, fun k _ hk => setRow_other w g k cs (fun e => hk (by rw [e]))⟩

/-- v' lies where v lay, or in new memory -/
def NewB (w : World) (v v' : Value) : Prop := ∀ k, v'.ownBlock = some k → v.ownBlock = some k ∨ w.heap.size ≤ k
theorem run_append_p (w : World) (B : Nat) (v : Value) (l : List Pv) (hown : OwP w B v l) (hB : B ≤ w.heap.size) (ad : Addr) (m c : Nat) (rs : List Pv) (hm : rs.length = m)
    (hnews : ∀ j u, (pcells rs)[j]? = some u → w.cell? (ad.add j) = some u) (hsz : l.length + m ≤ 4294967297) (ty : TypeId) :
    ∃ v' w', (Builtin.append_ #[122, 122] ty #[v, .slice (some ad) m c]).run Tryd.prog w = .ok v' w' ∧ OwP w' B v' (l ++ rs) ∧ w.grownBy w' v.ownBlock ∧ NewB w v v' := by
  obtain ⟨i0, hi, hz0, hz1, hz2⟩ := info_parts infoP
  have hl : (pcells rs).length = m * 3 := by rw [pcells_length, hm]
  have hml : l.length + m ≤ maxLen := by unfold maxLen; omega
  obtain ⟨v', w', hr, h1, h2, h3⟩ := run_append_own (P := Tryd.prog) w B 122 ty 131 i0 _ 3 32 Tryd.underlying122 hi hz0 hz1 hz2 rfl (by decide) v l.length (pcells l) hown ad m c (pcells rs) hl hnews (pcells_one rs) hml (by omega) hB
  refine ⟨v', w', hr, ?_, h2, ?_⟩
  · unfold OwP
    rw [pcells_app, List.length_append, hm]
    exact h1
  · intro k hk
    rcases hown.cases with ⟨rfl, rfl⟩ | ⟨g, cap, cur, rfl, hb, hg, hn, hc, hs, ht⟩
    · obtain ⟨v2, w2, hr2, k1, -, -⟩ := run_append_own (P := Tryd.prog) w w.heap.size 122 ty 131 i0 _ 3 32 Tryd.underlying122 hi hz0 hz1 hz2 rfl (by decide) (.slice none 0 0) 0 [] (World.ownsRow_nil w _ _ 3) ad m c (pcells rs) hl hnews (pcells_one rs) (by simpa using hml) (by simp at hsz ⊢; omega) (Nat.le_refl _)
      rw [hr] at hr2
      injection hr2 with e1 e2
      subst e1 e2
      exact .inr (k1.lt k hk).1
    · by_cases hroom : l.length + m ≤ cap
      · have hr2 := run_append_room_cells (P := Tryd.prog) w 122 ty 131 i0 Tryd.underlying122 hi g 0 l.length cap ad m c (pcells rs) (by rw [hz1]; exact hl) hnews (pcells_one rs) hroom
          (fun j hj => by rw [cell_of_block hg, hz1]; rw [List.getElem?_toArray, List.getElem?_eq_getElem (by rw [hl] at hj; omega)]; rfl) (fun j hj => unfrozen_of_block hg _)
        rw [hr] at hr2
        injection hr2 with e1 e2
        subst e1
        exact .inl hk
      · obtain ⟨v2, w2, hr2, k1, -⟩ := run_append_arg_grows (P := Tryd.prog) w 122 ty 131 i0 _ 3 32 Tryd.underlying122 hi hz0 hz1 hz2 rfl (by decide) ⟨g, 0, none⟩ l.length cap (pcells l) (pcells_length l)
          (hown.from 0) ad m c (pcells rs) hl hnews (by omega) hml (by omega)
        rw [hr] at hr2
        injection hr2 with e1 e2
        subst e1 e2
        exact .inr (k1.lt k hk).1
theorem wp_pushP {ops : Array Oper} {rest : List Oper} {o : Oper} {a : Act} {w : World} {Q : Exit → Act → World → Prop} (hgd : o.guard = none) (s x : Operand)
    (ho : o.op = .call { callee := .builtin .append, args := #[s, x], argTypes := #[122, 122] })
    (B : Nat) (v : Value) (l : List Pv) (hs : a.eval s = v) (hown : OwP w B v l) (hB : B ≤ w.heap.size) (ad : Addr) (m c : Nat) (rs : List Pv) (hm : rs.length = m) (hx : a.eval x = .slice (some ad) m c)
    (hnews : ∀ j u, (pcells rs)[j]? = some u → w.cell? (ad.add j) = some u) (hsz : l.length + m ≤ 4294967297)
    (h : ∀ v' w', OwP w' B v' (l ++ rs) → w.grownBy w' v.ownBlock → NewB w v v' → wpList Tryd.prog ops Q rest (a.put o.dst v') w') : wpList Tryd.prog ops Q (o :: rest) a w := by
  refine wpList_plain hgd fun K hK => ?_
  obtain ⟨v', w', hr, h1, h2, h3⟩ := run_append_p w B v l hown hB ad m c rs hm hnews hsz o.type
  unfold Oper.wp
  simp [execOp, ho, resolve, invoke, builtin, hs, hx, hr, Result.andThen]
  exact hK _ _ (h v' w' h1 h2 h3)
theorem step_pushP {ops : Array Oper} {o : Oper} {a : Act} {w : World} {K : Act → World → Prop} {Q : Exit → Act → World → Prop} {E : Prop} (hgd : o.guard = none) (s x : Operand)
    (ho : o.op = .call { callee := .builtin .append, args := #[s, x], argTypes := #[122, 122] })
    (B : Nat) (v : Value) (l : List Pv) (hs : a.eval s = v) (hown : OwP w B v l) (hB : B ≤ w.heap.size) (ad : Addr) (m c : Nat) (rs : List Pv) (hm : rs.length = m) (hx : a.eval x = .slice (some ad) m c)
    (hnews : ∀ j u, (pcells rs)[j]? = some u → w.cell? (ad.add j) = some u) (hsz : l.length + m ≤ 4294967297)
    (h : ∀ v' w', OwP w' B v' (l ++ rs) → w.grownBy w' v.ownBlock → NewB w v v' → K (a.put o.dst v') w') : if Region.wanted o (yielded ops a.tmps) = true then Oper.wp Tryd.prog o a w K Q else E := by
  have hw : Region.wanted o (yielded ops a.tmps) = true := by simp [Region.wanted, hgd]
  rw [if_pos hw]
  obtain ⟨v', w', hr, h1, h2, h3⟩ := run_append_p w B v l hown hB ad m c rs hm hnews hsz o.type
  unfold Oper.wp
  simp [execOp, ho, resolve, invoke, builtin, hs, hx, hr, Result.andThen]
  exact h v' w' h1 h2 h3

/-- copy between slices of parts, onto a row that is known whole -/
theorem run_copy_p (w : World) (ty : TypeId) (g o dLen dCap : Nat) (a : Addr) (sLen sCap : Nat) (cur : List Value) (t : TypeId) (rs : List Pv)
    (hg : w.heap[g]? = some (.cells cur.toArray t (0, 0))) (hn : rs.length = Nat.min sLen dLen)
    (hsrc : ∀ j v, (pcells rs)[j]? = some v → w.cell? (a.add j) = some v) (hfit : o + rs.length * 3 ≤ cur.length) :
    (Builtin.copy_ #[122, 122] ty #[.slice (some ⟨g, o, none⟩) dLen dCap, .slice (some a) sLen sCap]).run Tryd.prog w = .ok (goInt rs.length) (w.setRow g (splice cur o (pcells rs)).toArray) := by
  have hl := run_loadCells_list (P := Tryd.prog) w a (pcells rs) hsrc
  have hst := run_storeCells_at Tryd.prog g o t (pcells rs) 0 cur.toArray w hg (by rw [pcells_length]; simpa using hfit) (pcells_one rs)
  obtain ⟨i0, hi, hz0, hz1, hz2⟩ := info_parts infoP
  rw [pcells_length] at hl
  have hu := Tryd.underlying122
  simp [Builtin.copy_, run_underlying hu, Builtin.lenOf, Builtin.firstCells, sizeOf, typeInfo, hi, hz1, ← hn, hl, hst, splice]
theorem wp_copyP {ops : Array Oper} {rest : List Oper} {o : Oper} {a : Act} {w : World} {Q : Exit → Act → World → Prop} (hgd : o.guard = none) (d s : Operand)
    (ho : o.op = .call { callee := .builtin .copy, args := #[d, s], argTypes := #[122, 122] }) (g off dLen dCap : Nat) (ad : Addr) (sLen sCap : Nat)
    (hd : a.eval d = .slice (some ⟨g, off, none⟩) dLen dCap) (hs : a.eval s = .slice (some ad) sLen sCap) (cur : List Value) (t : TypeId) (hg : w.heap[g]? = some (.cells cur.toArray t (0, 0))) (rs : List Pv) (hn : rs.length = Nat.min sLen dLen)
    (hsrc : ∀ j v, (pcells rs)[j]? = some v → w.cell? (ad.add j) = some v) (hfit : off + rs.length * 3 ≤ cur.length)
    (h : ∀ w', w' = w.setRow g (splice cur off (pcells rs)).toArray → wpList Tryd.prog ops Q rest (a.put o.dst (goInt rs.length)) w') : wpList Tryd.prog ops Q (o :: rest) a w := by
  refine wpList_plain hgd fun K hK => ?_
  have hrun := run_copy_p w o.type g off dLen dCap ad sLen sCap cur t rs hg hn hsrc hfit
  unfold Oper.wp
  simp [execOp, ho, resolve, invoke, builtin, hd, hs, hrun, Result.andThen]
  exact hK _ _ (h _ rfl)
theorem step_copyP {ops : Array Oper} {o : Oper} {a : Act} {w : World} {K : Act → World → Prop} {Q : Exit → Act → World → Prop} {E : Prop} (hgd : o.guard = none) (d s : Operand)
    (ho : o.op = .call { callee := .builtin .copy, args := #[d, s], argTypes := #[122, 122] }) (g off dLen dCap : Nat) (ad : Addr) (sLen sCap : Nat)
    (hd : a.eval d = .slice (some ⟨g, off, none⟩) dLen dCap) (hs : a.eval s = .slice (some ad) sLen sCap) (cur : List Value) (t : TypeId) (hg : w.heap[g]? = some (.cells cur.toArray t (0, 0))) (rs : List Pv) (hn : rs.length = Nat.min sLen dLen)
    (hsrc : ∀ j v, (pcells rs)[j]? = some v → w.cell? (ad.add j) = some v) (hfit : off + rs.length * 3 ≤ cur.length)
    (h : ∀ w', w' = w.setRow g (splice cur off (pcells rs)).toArray → K (a.put o.dst (goInt rs.length)) w') : if Region.wanted o (yielded ops a.tmps) = true then Oper.wp Tryd.prog o a w K Q else E := by
  have hw : Region.wanted o (yielded ops a.tmps) = true := by simp [Region.wanted, hgd]
  rw [if_pos hw]
  have hrun := run_copy_p w o.type g off dLen dCap ad sLen sCap cur t rs hg hn hsrc hfit
  unfold Oper.wp
  simp [execOp, ho, resolve, invoke, builtin, hd, hs, hrun, Result.andThen]
  exact h _ rfl
/-- clear of a piece of a row that is known whole -/
theorem run_clear_p (w : World) (ty : TypeId) (g o n c : Nat) (cur : List Value) (t : TypeId) (hg : w.heap[g]? = some (.cells cur.toArray t (0, 0))) (hn : 0 < n) (hfit : o + n * 3 ≤ cur.length) :
    (Builtin.clear_ #[122] ty #[.slice (some ⟨g, o, none⟩) n c]).run Tryd.prog w = .ok (.tuple #[]) (w.setRow g (splice cur o (pcells (List.replicate n zp))).toArray) := by
  have hst := run_storeCells_at Tryd.prog g o t (pcells (List.replicate n zp)) 0 cur.toArray w hg (by rw [pcells_length, List.length_replicate]; simpa using hfit) (pcells_one _)
  obtain ⟨i0, hi, hz0, hz1, hz2⟩ := info_parts infoP
  have hz := zeroCells_p n
  have hv : (zeroValue 131).run Tryd.prog w = .ok (.agg #[.string ByteArray.empty, .int .i64 0, .pointer none]) w := by simp [zeroValue, typeInfo, hi, hz0]
  obtain ⟨m, rfl⟩ : ∃ m, n = m + 1 := ⟨n - 1, by omega⟩
  simp [Builtin.clear_, run_underlying Tryd.underlying122, hv, hz, hst, splice]

end Go.Proofs.YtmmchhlfbhbigaaDoor

namespace Go.Proofs.YtmmchhlfbhbigaaDoor
set_option maxRecDepth 100000
open Go.RowKit Go.Joins Go.ChangeShapes Go.WideShapes
set_option linter.unusedVariables false
set_option linter.unusedSimpArgs false

def ucells (l : List Nat) : List Value := l.map fun n : Nat => .int .u64 (n : Int)
theorem ucells_length (l : List Nat) : (ucells l).length = l.length := by simp [ucells]
theorem ucells_app (l r : List Nat) : ucells (l ++ r) = ucells l ++ ucells r := List.map_append
theorem ucells_one (l : List Nat) : ∀ u ∈ ucells l, u.oneCell' = true := by
  intro u hu
  obtain ⟨n, -, rfl⟩ := List.mem_map.1 hu
  rfl
theorem infoU : (Tryd.prog.info? 84).map (fun i => (i.zero, i.size, i.bytes)) = some (some (.int .u64 0), 1, 8) := by kernel_rfl
/-- pages of the heap's own -/
def OwU (w : World) (B : Nat) (v : Value) (l : List Nat) : Prop := w.ownsRow B 84 1 v l.length (ucells l)
theorem OwU.cases {w : World} {B : Nat} {v : Value} {l : List Nat} (h : OwU w B v l) : (v = .slice none 0 0 ∧ l = []) ∨
    ∃ (g cap : Nat) (cur : List Value), v = .slice (some ⟨g, 0, none⟩) l.length cap ∧ B ≤ g ∧ w.heap[g]? = some (.cells cur.toArray 84 (0, 0)) ∧ l.length ≤ cap ∧ cap ≤ maxLen ∧ cur.length = cap ∧ cur.take l.length = ucells l := by
  rcases h.2 with ⟨rfl, e⟩ | ⟨g, cap, cur, rfl, hb, hg, hn, hc, hs, ht⟩
  · exact .inl ⟨rfl, List.eq_nil_of_length_eq_zero e⟩
  · exact .inr ⟨g, cap, cur.toList, rfl, hb, by simpa using hg, hn, hc, by simpa using hs, by simpa using ht⟩
theorem OwU.mk {w : World} {B g cap : Nat} {cur : List Value} {l : List Nat} (hb : B ≤ g) (hg : w.heap[g]? = some (.cells cur.toArray 84 (0, 0))) (hn : l.length ≤ cap) (hc : cap ≤ maxLen) (hs : cur.length = cap) (ht : cur.take l.length = ucells l) :
    OwU w B (.slice (some ⟨g, 0, none⟩) l.length cap) l :=
  ⟨by rw [ucells_length, Nat.mul_one], .inr ⟨g, cap, cur.toArray, rfl, hb, hg, hn, hc, by simpa using hs, by simpa using ht⟩⟩
theorem Frm.owU {F : Bl} {w w1 : World} (h : Frm F w w1) {B : Nat} {v : Value} {l : List Nat} (ho : OwU w B v l) (hf : ∀ k, v.ownBlock = some k → ¬ F k) : OwU w1 B v l := h.ownsRow ho hf
theorem OwU.nil (w : World) (B : Nat) : OwU w B (.slice none 0 0) [] := World.ownsRow_nil w B _ 1
theorem OwU.form {w : World} {B : Nat} {v : Value} {l : List Nat} (h : OwU w B v l) : ∃ a cap, v = .slice a l.length cap ∧ l.length ≤ maxLen := by
  rcases h.cases with ⟨rfl, rfl⟩ | ⟨g, cap, cur, rfl, hb, hg, hn, hc, hs, ht⟩
  · exact ⟨none, 0, rfl, Nat.zero_le _⟩
  · exact ⟨_, cap, rfl, Nat.le_trans hn hc⟩
theorem OwU.at {w : World} {B : Nat} {v : Value} {l : List Nat} (h : OwU w B v l) {i p : Nat} (hi : l[i]? = some p) :
    ∃ g cap, v = .slice (some ⟨g, 0, none⟩) l.length cap ∧ l.length ≤ cap ∧ cap ≤ maxLen ∧ w.cell? ⟨g, i, none⟩ = some (.int .u64 (p : Int)) ∧ ∀ o, w.frozen? ⟨g, o, none⟩ = false := by
  have hl : i < l.length := (List.getElem?_eq_some_iff.1 hi).1
  rcases h.cases with ⟨-, rfl⟩ | ⟨g, cap, cur, rfl, hb, hg, hn, hc, hs, ht⟩
  · simp at hl
  · refine ⟨g, cap, rfl, hn, hc, ?_, fun o => unfrozen_of_block hg o⟩
    have hj : (ucells l)[i]? = some (.int .u64 (p : Int)) := by simp only [ucells, List.getElem?_map, hi, Option.map_some]
    rw [cell_of_block hg i]
    rw [← ht, List.getElem?_take, if_pos hl] at hj
    simpa using hj
/-- a page written -/
theorem OwU.set {w : World} {B g n cap : Nat} {l : List Nat} (h : OwU w B (.slice (some ⟨g, 0, none⟩) n cap) l) (hn : l.length = n) (j x : Nat) : OwU (w.setCell ⟨g, j, none⟩ (.int .u64 (x : Int))) B (.slice (some ⟨g, 0, none⟩) n cap) (l.set j x) := by
  unfold OwU at h ⊢
  rw [hn] at h
  obtain ⟨s1, s2⟩ := h.stored j (.int .u64 (x : Int))
  rw [List.length_set, hn]
  have e : ucells (l.set j x) = (ucells l).set j (.int .u64 (x : Int)) := by unfold ucells; rw [List.map_set]
  rw [e]
  exact s1
/-- the last pages left out -/
theorem OwU.cut {w : World} {B g m cap : Nat} {l : List Nat} (h : OwU w B (.slice (some ⟨g, 0, none⟩) m cap) l) (n : Nat) (hn : n ≤ l.length) : OwU w B (.slice (some ⟨g, 0, none⟩) n cap) (l.take n) := by
  rcases h.cases with ⟨e, -⟩ | ⟨g', cap', cur, e, hb, hg, hn', hc, hs, ht⟩
  · simp at e
  · simp only [Value.slice.injEq, Option.some.injEq, Addr.mk.injEq, and_true] at e
    obtain ⟨rfl, rfl, rfl⟩ := e
    have hl : (l.take n).length = n := by rw [List.length_take]; omega
    have := OwU.mk (w := w) (B := B) (g := g) (cap := cap) (cur := cur) (l := l.take n) hb hg (by rw [hl]; omega) hc hs (by
      rw [hl]
      have h1 : (cur.take l.length).take n = (ucells l).take n := by rw [ht]
      rw [List.take_take, Nat.min_eq_left hn] at h1
      rw [h1]; unfold ucells; rw [List.map_take])
    rw [hl] at this
    exact this
/-- one page more -/
theorem run_append_u2 (w : World) (B : Nat) (v : Value) (l : List Nat) (hown : OwU w B v l) (hB : B ≤ w.heap.size) (ad : Addr) (m c : Nat) (rs : List Nat) (hm : rs.length = m)
    (hnews : ∀ j u, (ucells rs)[j]? = some u → w.cell? (ad.add j) = some u) (hsz : l.length + m ≤ 4294967297) (ty : TypeId) :
    ∃ v' w', (Builtin.append_ #[69, 69] ty #[v, .slice (some ad) m c]).run Tryd.prog w = .ok v' w' ∧ OwU w' B v' (l ++ rs) ∧ w.grownBy w' v.ownBlock ∧ NewB w v v' := by
  obtain ⟨i0, hi, hz0, hz1, hz2⟩ := info_parts infoU
  have hl : (ucells rs).length = m * 1 := by rw [ucells_length, hm, Nat.mul_one]
  have hml : l.length + m ≤ maxLen := by unfold maxLen; omega
  obtain ⟨v', w', hr, h1, h2, h3⟩ := run_append_own (P := Tryd.prog) w B 69 ty 84 i0 _ 1 8 Tryd.underlying69 hi hz0 hz1 hz2 rfl (by decide) v l.length (ucells l) hown ad m c (ucells rs) hl hnews (ucells_one rs) hml (by omega) hB
  refine ⟨v', w', hr, ?_, h2, ?_⟩
  · unfold OwU
    rw [ucells_app, List.length_append, hm]
    exact h1
  · intro k hk
    rcases hown.cases with ⟨rfl, rfl⟩ | ⟨g, cap, cur, rfl, hb, hg, hn, hc, hs, ht⟩
    · obtain ⟨v2, w2, hr2, k1, -, -⟩ := run_append_own (P := Tryd.prog) w w.heap.size 69 ty 84 i0 _ 1 8 Tryd.underlying69 hi hz0 hz1 hz2 rfl (by decide) (.slice none 0 0) 0 [] (World.ownsRow_nil w _ _ 1) ad m c (ucells rs) hl hnews (ucells_one rs) (by simpa using hml) (by simp at hsz ⊢; omega) (Nat.le_refl _)
      rw [hr] at hr2
      injection hr2 with e1 e2
      subst e1 e2
      exact .inr (k1.lt k hk).1
    · by_cases hroom : l.length + m ≤ cap
      · have hr2 := run_append_room_cells (P := Tryd.prog) w 69 ty 84 i0 Tryd.underlying69 hi g 0 l.length cap ad m c (ucells rs) (by rw [hz1]; exact hl) hnews (ucells_one rs) hroom
          (fun j hj => by rw [cell_of_block hg, hz1]; rw [List.getElem?_toArray, List.getElem?_eq_getElem (by rw [hl] at hj; omega)]; rfl) (fun j hj => unfrozen_of_block hg _)
        rw [hr] at hr2
        injection hr2 with e1 e2
        subst e1
        exact .inl hk
      · have hfrom : ∀ j u, (ucells l)[j]? = some u → w.cell? ((⟨g, 0, none⟩ : Addr).add j) = some u := by
          intro j u hj
          have ea : (⟨g, 0, none⟩ : Addr).add j = ⟨g, j, none⟩ := by unfold Addr.add; split <;> simp_all
          rw [ea, cell_of_block hg j, List.getElem?_toArray]
          rw [← ht, List.getElem?_take] at hj
          split at hj
          · exact hj
          · cases hj
        obtain ⟨v2, w2, hr2, k1, -⟩ := run_append_arg_grows (P := Tryd.prog) w 69 ty 84 i0 _ 1 8 Tryd.underlying69 hi hz0 hz1 hz2 rfl (by decide) ⟨g, 0, none⟩ l.length cap (ucells l) (by rw [ucells_length, Nat.mul_one])
          hfrom ad m c (ucells rs) hl hnews (by omega) hml (by omega)
        rw [hr] at hr2
        injection hr2 with e1 e2
        subst e1 e2
        exact .inr (k1.lt k hk).1
theorem wp_pushU {ops : Array Oper} {rest : List Oper} {o : Oper} {a : Act} {w : World} {Q : Exit → Act → World → Prop} (hgd : o.guard = none) (s x : Operand)
    (ho : o.op = .call { callee := .builtin .append, args := #[s, x], argTypes := #[69, 69] })
    (B : Nat) (v : Value) (l : List Nat) (hs : a.eval s = v) (hown : OwU w B v l) (hB : B ≤ w.heap.size) (ad : Addr) (m c : Nat) (rs : List Nat) (hm : rs.length = m) (hx : a.eval x = .slice (some ad) m c)
    (hnews : ∀ j u, (ucells rs)[j]? = some u → w.cell? (ad.add j) = some u) (hsz : l.length + m ≤ 4294967297)
    (h : ∀ v' w', OwU w' B v' (l ++ rs) → w.grownBy w' v.ownBlock → NewB w v v' → wpList Tryd.prog ops Q rest (a.put o.dst v') w') : wpList Tryd.prog ops Q (o :: rest) a w := by
  refine wpList_plain hgd fun K hK => ?_
  obtain ⟨v', w', hr, h1, h2, h3⟩ := run_append_u2 w B v l hown hB ad m c rs hm hnews hsz o.type
  unfold Oper.wp
  simp [execOp, ho, resolve, invoke, builtin, hs, hx, hr, Result.andThen]
  exact hK _ _ (h v' w' h1 h2 h3)

end Go.Proofs.YtmmchhlfbhbigaaDoor

namespace Go.Proofs.YtmmchhlfbhbigaaDoor
set_option maxRecDepth 100000
open Go.RowKit Go.Joins Go.ChangeShapes Go.WideShapes
set_option linter.unusedVariables false

/-- a number's eight bytes, the greatest first -/
def be8 (u : Nat) : List Nat := [u / 72057594037927936 % 256, u / 281474976710656 % 256, u / 1099511627776 % 256, u / 4294967296 % 256, u / 16777216 % 256, u / 65536 % 256, u / 256 % 256, u % 256]
/-- a real's number in the order -/
def risV (n : Int) : Int := if n = -9223372036854775808 then 9223372036854775808 else if n < 0 then -1 - n else n + 9223372036854775808

end Go.Proofs.YtmmchhlfbhbigaaDoor

namespace Go.Proofs.YtmmchhlfbhbigaaDoor
set_option maxRecDepth 100000
open Go.RowKit Go.Joins Go.ChangeShapes Go.WideShapes
set_option linter.unusedVariables false

/-- a text's bytes in a key, but for its end -/
def esc : List Nat → List Nat
  | [] => []
  | c :: r => (if c = 0 then [0, 255] else [c]) ++ esc r
theorem esc_app (l r : List Nat) : esc (l ++ r) = esc l ++ esc r := by
  induction l with
  | nil => rfl
  | cons c l ih => simp only [List.cons_append, esc, ih, List.append_assoc]
theorem esc_le (l : List Nat) : (esc l).length ≤ 2 * l.length := by
  induction l with
  | nil => simp [esc]
  | cons c l ih =>
    unfold esc
    rw [List.length_append, List.length_cons]
    split <;> simp <;> omega
theorem sl_at (s : ByteArray) (q : Nat) (h : q < s.size) : (sl s)[q]? = some (s[q]'h).toNat := by
  unfold sl
  rw [List.getElem?_map, Array.getElem?_toList, Array.getElem?_eq_getElem h]
  rfl
theorem esc_take (s : ByteArray) (q : Nat) (h : q < s.size) : esc ((sl s).take (q + 1)) = esc ((sl s).take q) ++ (if (s[q]'h).toNat = 0 then [0, 255] else [(s[q]'h).toNat]) := by
  rw [List.take_add_one, sl_at s q h, esc_app]
  simp only [Option.toList_some, esc, List.append_nil]
/-- a value's bytes -/
def vb (k n : Int) (s : ByteArray) : List Nat :=
  (k + 1).toNat :: (if k = 1 then [(n % 256).toNat] else if k = 2 then be8 (n + 9223372036854775808).toNat else if k = 3 then be8 (risV n).toNat else if k = 4 then esc (sl s) ++ [0, 1] else [])
theorem vb0 (n : Int) (s : ByteArray) : vb 0 n s = [1] := rfl
theorem vb1 (n : Int) (s : ByteArray) : vb 1 n s = [2] ++ [(n % 256).toNat] := rfl
theorem vb2 (n : Int) (s : ByteArray) : vb 2 n s = [3] ++ be8 (n + 9223372036854775808).toNat := rfl
theorem vb3 (n : Int) (s : ByteArray) : vb 3 n s = [4] ++ be8 (risV n).toNat := rfl
theorem vb4 (n : Int) (s : ByteArray) : vb 4 n s = [5] ++ (esc (sl s) ++ [0, 1]) := rfl
theorem ris_in {n : Int} (h : InI n) : 0 ≤ risV n ∧ risV n < 18446744073709551616 := by
  unfold InI at h
  unfold risV
  repeat' split
  all_goals omega
theorem vb_le (k n : Int) (s : ByteArray) : (vb k n s).length ≤ 2 * s.size + 9 := by
  have h := esc_le (sl s)
  rw [sl_length] at h
  unfold vb
  rw [List.length_cons]
  repeat' split
  all_goals first | (simp [be8]; done) | (simp; omega)
/-- a list's key -/
def keyB (kf nf : Nat → Int) (sf : Nat → ByteArray) : Nat → List Nat
  | 0 => []
  | m + 1 => keyB kf nf sf m ++ vb (kf m) (nf m) (sf m)
theorem keyB_le (kf nf : Nat → Int) (sf : Nat → ByteArray) : ∀ m, (∀ i, i < m → (sf i).size ≤ 200) → (keyB kf nf sf m).length ≤ m * 409
  | 0, _ => by simp [keyB]
  | m + 1, h => by
    have h1 := keyB_le kf nf sf m (fun i hi => h i (by omega))
    have h2 := vb_le (kf m) (nf m) (sf m)
    have h3 := h m (by omega)
    unfold keyB
    rw [List.length_append]
    omega

end Go.Proofs.YtmmchhlfbhbigaaDoor

namespace Go.Proofs.YtmmchhlfbhbigaaDoor
set_option maxRecDepth 100000
open Go.RowKit

end Go.Proofs.YtmmchhlfbhbigaaDoor

namespace Go.Proofs.YtmmchhlfbhbigaaDoor
set_option maxRecDepth 100000
open Go.RowKit

end Go.Proofs.YtmmchhlfbhbigaaDoor

namespace Go.Proofs.YtmmchhlfbhbigaaDoor
set_option maxRecDepth 100000
open Go.RowKit Go.Joins Go.ChangeShapes Go.WideShapes
set_option linter.unusedVariables false

/-- the number that bytes make, the greatest first -/
def numU (l : List Nat) : Nat := l.foldl (fun u c => u * 256 + c) 0
theorem numU_snoc (l : List Nat) (c : Nat) : numU (l ++ [c]) = numU l * 256 + c := by unfold numU; rw [List.foldl_append]; rfl
theorem numU_lt : ∀ (n : Nat) (l : List Nat), (∀ x ∈ l, x < 256) → l.length = n → numU l < 256 ^ n
  | 0, l, _, h => by rw [List.length_eq_zero_iff.1 h]; decide
  | n + 1, l, hl, h => by
    have hd : l = l.take n ++ [l[n]'(by omega)] := by
      have := List.take_add_one (l := l) (i := n)
      rw [List.take_of_length_le (by omega), List.getElem?_eq_getElem (by omega)] at this
      exact this
    have h1 := numU_lt n (l.take n) (fun x hx => hl x (List.mem_of_mem_take hx)) (by rw [List.length_take]; omega)
    have h2 := hl (l[n]'(by omega)) (List.getElem_mem _)
    rw [hd, numU_snoc, Nat.pow_succ]
    omega
/-- the real that a number in the order is -/
def realN (u : Nat) : Int := if u < 9223372036854775808 then -1 - (u : Int) else (u : Int) - 9223372036854775808
/-- what a value's bytes say, by its kind: a number, an error -/
def numK (kind : Int) (u : Nat) : Int × Int :=
  if kind = 1 then (if 1 < u then (0, 2) else (u, 0)) else if kind = 2 then ((u : Int) - 9223372036854775808, 0) else
  if realN u = -9223372036854775808 ∨ realN u ≠ PCanon (realN u) then (0, 2) else (realN u, 0)

end Go.Proofs.YtmmchhlfbhbigaaDoor

namespace Go.Proofs.YtmmchhlfbhbigaaDoor
set_option maxRecDepth 100000
open Go.RowKit Go.Joins Go.ChangeShapes Go.WideShapes
set_option linter.unusedVariables false

def tcons (c : Nat) (x : Int × List Nat × List Nat) : Int × List Nat × List Nat := if x.1 = 0 then (0, c :: x.2.1, x.2.2) else (x.1, [], [])
/-- a text read out of bytes, n of its bytes read before: the error, its bytes, what is left -/
def txt : Nat → List Nat → Int × List Nat × List Nat
  | _, [] => (3, [], [])
  | n, [c] => if c = 0 then (3, [], []) else if n = 200 then (1, [], []) else tcons c (3, [], [])
  | n, c :: x :: q => if c = 0 then (if x = 1 then (0, [], q) else if x ≠ 255 then (2, [], []) else if n = 200 then (1, [], []) else tcons 0 (txt (n + 1) q)) else if n = 200 then (1, [], []) else tcons c (txt (n + 1) (x :: q))

theorem txt_nil (n : Nat) : txt n [] = (3, [], []) := by unfold txt; rfl
theorem txt_c {n c : Nat} {r : List Nat} (hc : c ≠ 0) : txt n (c :: r) = if n = 200 then (1, [], []) else tcons c (txt (n + 1) r) := by
  cases r with
  | nil =>
    conv => lhs; rw [txt]
    rw [if_neg hc, txt_nil]
  | cons x q =>
    conv => lhs; rw [txt]
    rw [if_neg hc]
theorem txt_01 {n : Nat} : txt n [0] = (3, [], []) := by
  conv => lhs; rw [txt]
  rw [if_pos rfl]
theorem txt_0 {n x : Nat} {q : List Nat} : txt n (0 :: x :: q) = if x = 1 then (0, [], q) else if x ≠ 255 then (2, [], []) else if n = 200 then (1, [], []) else tcons 0 (txt (n + 1) q) := by
  conv => lhs; rw [txt]
  rw [if_pos rfl]

/-- with bytes ahead -/
def tapp (acc : List Nat) (x : Int × List Nat × List Nat) : Int × List Nat × List Nat := if x.1 = 0 then (0, acc ++ x.2.1, x.2.2) else (x.1, [], [])
theorem tapp_nil (n : Nat) (l : List Nat) : tapp [] (txt n l) = txt n l := by
  have h : ∀ x : Int × List Nat × List Nat, (x.1 ≠ 0 → x.2 = ([], [])) → tapp [] x = x := by
    intro x hx
    unfold tapp
    by_cases c : x.1 = 0
    · rw [if_pos c, List.nil_append, ← c]
    · rw [if_neg c]
      have := hx c
      rcases x with ⟨a, b⟩
      simp only at this ⊢
      rw [this]
  refine h _ ?_
  have ht : ∀ c x, (tcons c x).1 ≠ 0 → (tcons c x).2 = ([], []) := by
    intro c x
    unfold tcons
    split
    · intro h; exact absurd rfl h
    · intro _; rfl
  cases l with
  | nil => intro _; rw [txt_nil]
  | cons c r =>
    by_cases hc : c = 0
    · subst hc
      cases r with
      | nil => intro _; rw [txt_01]
      | cons x q =>
        rw [txt_0]
        repeat' split
        all_goals first | (intro _; rfl) | exact ht _ _ | (intro h; exact absurd rfl h)
    · rw [txt_c hc]
      split
      · intro _; rfl
      · exact ht _ _
theorem tapp_cons (acc : List Nat) (c : Nat) (x : Int × List Nat × List Nat) : tapp acc (tcons c x) = tapp (acc ++ [c]) x := by
  unfold tapp tcons
  by_cases h : x.1 = 0
  · rw [if_pos h, if_pos h, if_pos rfl, List.append_assoc]; rfl
  · rw [if_neg h, if_neg h, if_neg h]

def TxtOk (W : World) (l : List Nat) (X : Int × List Nat × List Nat) (e : Ending) (w' : World) : Prop :=
  ∃ s p, e = .returned (.tuple #[.string s, .int .i64 (p : Nat), .int .i64 X.1]) ∧ (X.1 = 0 → s = strB X.2.1 ∧ p ≤ l.length ∧ X.2.2 = l.drop p) ∧ Below W.heap.size W w'

end Go.Proofs.YtmmchhlfbhbigaaDoor

namespace Go.Proofs.YtmmchhlfbhbigaaDoor
set_option maxRecDepth 100000
open Go.RowKit Go.Joins Go.ChangeShapes Go.WideShapes
set_option linter.unusedVariables false

def nB (c : Nat) : Nat := if c = 2 then 1 else 8
/-- the first value of bytes: the error, the value, what is left -/
def decOne : List Nat → Int × Vt × List Nat
  | [] => (3, (0, 0, Em), [])
  | c :: r =>
    if c < 1 ∨ 5 < c then (50, (0, 0, Em), []) else if c = 1 then (0, (0, 0, Em), r) else
    if c = 5 then (if (txt 0 r).1 = 0 then (0, (4, 0, strB (txt 0 r).2.1), (txt 0 r).2.2) else ((txt 0 r).1, (0, 0, Em), [])) else
    if r.length < nB c then (3, (0, 0, Em), []) else
    if (numK ((c : Int) - 1) (numU (r.take (nB c)))).2 = 0 then (0, ((c : Int) - 1, (numK ((c : Int) - 1) (numU (r.take (nB c)))).1, Em), r.drop (nB c)) else ((numK ((c : Int) - 1) (numU (r.take (nB c)))).2, (0, 0, Em), [])

theorem decOne_cons (c : Nat) (r : List Nat) : decOne (c :: r) = if c < 1 ∨ 5 < c then (50, (0, 0, Em), []) else if c = 1 then (0, (0, 0, Em), r) else
    if c = 5 then (if (txt 0 r).1 = 0 then (0, (4, 0, strB (txt 0 r).2.1), (txt 0 r).2.2) else ((txt 0 r).1, (0, 0, Em), [])) else
    if r.length < nB c then (3, (0, 0, Em), []) else
    if (numK ((c : Int) - 1) (numU (r.take (nB c)))).2 = 0 then (0, ((c : Int) - 1, (numK ((c : Int) - 1) (numU (r.take (nB c)))).1, Em), r.drop (nB c)) else ((numK ((c : Int) - 1) (numU (r.take (nB c)))).2, (0, 0, Em), []) := rfl
theorem txt_len : ∀ (l : List Nat) (n : Nat), (txt n l).1 = 0 → (txt n l).2.2.length < l.length
  | [], n, h => by rw [txt_nil] at h; exact absurd h (by decide)
  | c :: r, n, h => by
    by_cases hc : c = 0
    · subst hc
      cases r with
      | nil => rw [txt_01] at h; exact absurd h (by decide)
      | cons x q =>
        rw [txt_0] at h ⊢
        by_cases h1 : x = 1
        · rw [if_pos h1]; simp; omega
        · rw [if_neg h1] at h ⊢
          by_cases h2 : x ≠ 255
          · rw [if_pos h2] at h; exact absurd h (by decide)
          · rw [if_neg h2] at h ⊢
            by_cases h3 : n = 200
            · rw [if_pos h3] at h; exact absurd h (by decide)
            · rw [if_neg h3] at h ⊢
              unfold tcons at h ⊢
              by_cases h4 : (txt (n + 1) q).1 = 0
              · rw [if_pos h4]
                have := txt_len q (n + 1) h4
                simp only [List.length_cons]
                omega
              · rw [if_neg h4] at h; exact absurd h h4
    · rw [txt_c hc] at h ⊢
      by_cases h3 : n = 200
      · rw [if_pos h3] at h; exact absurd h (by decide)
      · rw [if_neg h3] at h ⊢
        unfold tcons at h ⊢
        by_cases h4 : (txt (n + 1) r).1 = 0
        · rw [if_pos h4]
          have := txt_len r (n + 1) h4
          simp only [List.length_cons]
          omega
        · rw [if_neg h4] at h; exact absurd h h4

theorem decOne_len (c : Nat) (r : List Nat) : (decOne (c :: r)).2.2.length ≤ r.length := by
  unfold decOne
  dsimp only
  repeat' split
  all_goals first | (simp; done) | exact Nat.le_refl _ | (exact Nat.le_of_lt (txt_len _ _ (by assumption))) | (rw [List.length_drop]; omega)

def vcons (v : Vt) (x : List Vt × Int) : List Vt × Int := if x.2 = 0 then (v :: x.1, 0) else ([], x.2)
def decF : Nat → List Nat → List Vt × Int
  | 0, _ => ([], 0)
  | _ + 1, [] => ([], 0)
  | n + 1, c :: r => if (decOne (c :: r)).1 = 0 then vcons (decOne (c :: r)).2.1 (decF n (decOne (c :: r)).2.2) else ([], (decOne (c :: r)).1)
/-- the values of bytes, or the error -/
def decK (l : List Nat) : List Vt × Int := decF l.length l
theorem decF_more : ∀ (n m : Nat) (l : List Nat), l.length ≤ n → l.length ≤ m → decF n l = decF m l
  | 0, m, l, h, _ => by
    have : l = [] := List.length_eq_zero_iff.1 (by omega)
    subst this
    cases m <;> rfl
  | n + 1, 0, l, _, h => by
    have : l = [] := List.length_eq_zero_iff.1 (by omega)
    subst this
    rfl
  | n + 1, m + 1, [], _, _ => rfl
  | n + 1, m + 1, c :: r, h1, h2 => by
    have hl := decOne_len c r
    rw [List.length_cons] at h1 h2
    show (if _ then _ else _) = (if _ then _ else _)
    rw [decF_more n m _ (by omega) (by omega)]
theorem decK_nil : decK [] = ([], 0) := rfl
theorem decK_cons (c : Nat) (r : List Nat) : decK (c :: r) = if (decOne (c :: r)).1 = 0 then vcons (decOne (c :: r)).2.1 (decK (decOne (c :: r)).2.2) else ([], (decOne (c :: r)).1) := by
  have hl := decOne_len c r
  unfold decK
  rw [← decF_more r.length (decOne (c :: r)).2.2.length _ (by omega) (Nat.le_refl _)]
  rfl

/-- with values ahead -/
def vapp (acc : List Vt) (x : List Vt × Int) : List Vt × Int := if x.2 = 0 then (acc ++ x.1, 0) else ([], x.2)
theorem vapp_cons (acc : List Vt) (v : Vt) (x : List Vt × Int) : vapp acc (vcons v x) = vapp (acc ++ [v]) x := by
  unfold vapp vcons
  by_cases h : x.2 = 0
  · rw [if_pos h, if_pos h, if_pos rfl, List.append_assoc]; rfl
  · rw [if_neg h, if_neg h, if_neg h]
theorem decK_err (l : List Nat) : (decK l).2 ≠ 0 → (decK l).1 = [] := by
  cases l with
  | nil => intro _; rfl
  | cons c r =>
    rw [decK_cons]
    by_cases h : (decOne (c :: r)).1 = 0
    · rw [if_pos h]
      unfold vcons
      split
      · intro h; exact absurd rfl h
      · intro _; rfl
    · rw [if_neg h]; intro _; rfl
theorem vapp_nil (l : List Nat) : vapp [] (decK l) = decK l := by
  have h := decK_err l
  unfold vapp
  by_cases c : (decK l).2 = 0
  · rw [if_pos c, List.nil_append, ← c]
  · rw [if_neg c]
    have := h c
    rcases hx : decK l with ⟨a, b⟩
    rw [hx] at this
    simp only at this ⊢
    rw [this]

end Go.Proofs.YtmmchhlfbhbigaaDoor

namespace Go.Proofs.YtmmchhlfbhbigaaDoor
set_option maxRecDepth 100000
open Go.RowKit Go.Joins Go.ChangeShapes Go.WideShapes
set_option linter.unusedVariables false

def DecOk (W : World) (X : List Vt × Int) (e : Ending) (w' : World) : Prop :=
  ∃ v, e = .returned (.tuple #[v, .int .i64 X.2]) ∧ (X.2 = 0 → OwV w' W.heap.size v X.1) ∧ (X.2 ≠ 0 → ∃ a c, v = .slice a 0 c) ∧ Below W.heap.size W w'

/-- the state of the region that reads a number -/
def DS (W w : World) (B : Nat) (v : Value) (l : List Vt) (g : Nat) (k : Int) : Prop := EnV W w B v l ∧ BoxX w g k Em ∧ B ≤ g ∧ v.ownBlock ≠ some g
theorem ds_all {W w : World} {B : Nat} {v : Value} {l : List Vt} {g : Nat} {k : Int} (h : DS W w B v l g k) :
    DS W w B v l g k ∧ w.cell? ⟨g, 0, none⟩ = some (.int .i64 k) ∧ w.cell? ⟨g, 1, none⟩ = some (bval w g 1) ∧ w.cell? ⟨g, 2, none⟩ = some (.string Em) ∧ w.frozen? ⟨g, 1, none⟩ = false := ⟨h, h.2.1.cells⟩
theorem DS.drew {W w : World} {B : Nat} {v : Value} {l : List Vt} {g : Nat} {k : Int} (h : DS W w B v l g k) : DS W w.drew B v l g k := ⟨h.1.drew, h.2.1.drew, h.2.2⟩
theorem DS.set {W w : World} {B : Nat} {v : Value} {l : List Vt} {g : Nat} {k : Int} (h : DS W w B v l g k) (u : Value) : DS W (w.setCell ⟨g, 1, none⟩ u) B v l g k := ⟨h.1.set h.2.2.1 h.2.2.2 u, h.2.1.set u, h.2.2⟩

theorem DS.bel {W w : World} {B : Nat} {v : Value} {l : List Vt} {g : Nat} {k : Int} (h : DS W w B v l g k) : Below B W w := h.1.bel
theorem ds_fin {W w : World} {B : Nat} {v : Value} {l : List Vt} {g : Nat} {k : Int} (h : DS W w B v l g k) (n : Int) : EnV W (w.setCell ⟨g, 1, none⟩ (.int .i64 n)) B v l ∧ BoxV (w.setCell ⟨g, 1, none⟩ (.int .i64 n)) g k n Em := ⟨(h.set _).1, h.2.1.setV n⟩

end Go.Proofs.YtmmchhlfbhbigaaDoor

namespace Go.Proofs.YtmmchhlfbhbigaaDoor
set_option maxRecDepth 100000
open Go.RowKit Go.Joins Go.ChangeShapes Go.WideShapes
set_option linter.unusedVariables false

/-- the place behind the last byte that isn't 255 -/
def stripN (l : List Nat) : Nat → Nat
  | 0 => 0
  | n + 1 => if l[n]? = some 255 then stripN l n else n + 1
theorem stripN_succ (l : List Nat) (n : Nat) : stripN l (n + 1) = if l[n]? = some 255 then stripN l n else n + 1 := rfl
theorem stripN_le (l : List Nat) : ∀ n, stripN l n ≤ n
  | 0 => Nat.le_refl _
  | n + 1 => by
    unfold stripN
    have := stripN_le l n
    split <;> omega
theorem stripN_at (l : List Nat) : ∀ n k, stripN l n = k + 1 → l[k]? ≠ some 255
  | 0, k, h => by simp [stripN] at h
  | n + 1, k, h => by
    unfold stripN at h
    split at h
    · exact stripN_at l n k h
    · obtain rfl : n = k := by omega
      assumption
theorem stripN_255 (l : List Nat) : ∀ n i, stripN l n ≤ i → i < n → l[i]? = some 255
  | 0, i, _, h => absurd h (by omega)
  | n + 1, i, h1, h2 => by
    unfold stripN at h1
    split at h1
    · by_cases c : i = n
      · subst c; assumption
      · exact stripN_255 l n i h1 (by omega)
    · omega

/-- the least list behind all that begin so (empty: there is none) -/
def behB (l : List Nat) : List Nat :=
  let n := stripN l l.length
  if n = 0 then [] else l.take (n - 1) ++ [(l[n - 1]?).getD 0 + 1]
theorem behB_of {l : List Nat} {k x : Nat} (h : stripN l l.length = k + 1) (hx : l[k]? = some x) : behB l = l.take k ++ [x + 1] := by
  unfold behB
  simp only [h]
  rw [if_neg (by omega), Nat.add_sub_cancel, hx]
  rfl
theorem behB_no {l : List Nat} (h : stripN l l.length = 0) : behB l = [] := by
  unfold behB
  simp only [h]
  rfl
theorem behB_lt {l : List Nat} (hl : ∀ x ∈ l, x < 256) : ∀ x ∈ behB l, x < 256 := by
  intro x hx
  rcases h : stripN l l.length with _ | k
  · rw [behB_no h] at hx; cases hx
  · have hk := stripN_le l l.length
    have hn := stripN_at l _ k h
    have e : l[k]? = some (l[k]'(by omega)) := List.getElem?_eq_getElem _
    rw [behB_of h e] at hx
    rcases List.mem_append.1 hx with hx | hx
    · exact hl x (List.mem_of_mem_take hx)
    · rw [List.mem_singleton] at hx
      have h2 := hl (l[k]'(by omega)) (List.getElem_mem _)
      have h3 : l[k]'(by omega) ≠ 255 := fun q => hn (by rw [e, q])
      omega
theorem behB_le (l : List Nat) : (behB l).length ≤ l.length := by
  rcases h : stripN l l.length with _ | k
  · rw [behB_no h]; simp
  · have hk := stripN_le l l.length
    have e : l[k]? = some (l[k]'(by omega)) := List.getElem?_eq_getElem _
    rw [behB_of h e]
    simp
    omega

theorem set_last {l : List Nat} {j x y : Nat} (hx : l[j]? = some x) : (bcells (l.take (j + 1))).set j (.int .u8 (y : Int)) = bcells (l.take j ++ [y]) := by
  have hl : (l.take j).length = j := by
    have := (List.getElem?_eq_some_iff.1 hx).1
    rw [List.length_take]; omega
  have e : l.take (j + 1) = l.take j ++ [x] := by rw [List.take_add_one, hx]; rfl
  rw [e, bcells_app, bcells_app, List.set_append_right _ _ (by rw [bcells_length, hl]; exact Nat.le_refl _), bcells_length, hl, Nat.sub_self]
  rfl

end Go.Proofs.YtmmchhlfbhbigaaDoor

namespace Go.Proofs.YtmmchhlfbhbigaaDoor
set_option maxRecDepth 100000
open Go.RowKit Go.Joins Go.ChangeShapes Go.WideShapes
set_option linter.unusedVariables false

/-! numbers -/
theorem be8_lt (u : Nat) : ∀ x ∈ be8 u, x < 256 := by
  intro x hx
  unfold be8 at hx
  simp only [List.mem_cons, List.not_mem_nil, or_false] at hx
  omega
theorem foldl_num (l : List Nat) : ∀ u, l.foldl (fun u c => u * 256 + c) u = u * 256 ^ l.length + numU l := by
  induction l with
  | nil => intro u; simp [numU]
  | cons a l ih =>
    intro u
    have e : numU (a :: l) = l.foldl (fun u c => u * 256 + c) (0 * 256 + a) := rfl
    rw [e, List.foldl_cons, ih, ih, List.length_cons, Nat.pow_succ]
    rw [Nat.add_mul, Nat.zero_mul, Nat.zero_add, Nat.mul_assoc, Nat.mul_comm 256]
    omega
theorem numU_cons (a : Nat) (l : List Nat) : numU (a :: l) = a * 256 ^ l.length + numU l := by
  have e : numU (a :: l) = l.foldl (fun u c => u * 256 + c) (0 * 256 + a) := rfl
  rw [e, foldl_num]
  simp
theorem numU_be8 (u : Nat) (h : u < 18446744073709551616) : numU (be8 u) = u := by
  unfold be8
  simp only [numU_cons, List.length_cons, List.length_nil, Nat.reduceAdd, Nat.reducePow]
  rw [show numU [] = 0 from rfl]
  omega
theorem be8_numU (l : List Nat) (hl : l.length = 8) (h8 : ∀ x ∈ l, x < 256) : be8 (numU l) = l := by
  match l, hl with
  | [a, b, c, d, e, f, g, i], _ =>
    have ha := h8 a (by simp)
    have hb := h8 b (by simp)
    have hc := h8 c (by simp)
    have hd := h8 d (by simp)
    have he := h8 e (by simp)
    have hf := h8 f (by simp)
    have hg := h8 g (by simp)
    have hi := h8 i (by simp)
    have hn : numU [a, b, c, d, e, f, g, i] = a * 72057594037927936 + (b * 281474976710656 + (c * 1099511627776 + (d * 4294967296 + (e * 16777216 + (f * 65536 + (g * 256 + i)))))) := by
      simp only [numU_cons, List.length_cons, List.length_nil, Nat.reduceAdd, Nat.reducePow]
      rw [show numU [] = 0 from rfl]
      omega
    rw [hn]
    unfold be8
    refine List.cons_eq_cons.2 ⟨by omega, List.cons_eq_cons.2 ⟨by omega, List.cons_eq_cons.2 ⟨by omega, List.cons_eq_cons.2 ⟨by omega, List.cons_eq_cons.2 ⟨by omega, List.cons_eq_cons.2 ⟨by omega, List.cons_eq_cons.2 ⟨by omega, List.cons_eq_cons.2 ⟨by omega, rfl⟩⟩⟩⟩⟩⟩⟩⟩

/-! texts -/
theorem txt_esc : ∀ (t : List Nat) (n : Nat) (r : List Nat), n + t.length ≤ 200 → txt n (esc t ++ 0 :: 1 :: r) = (0, t, r)
  | [], n, r, _ => by
    show txt n (0 :: 1 :: r) = _
    rw [txt_0, if_pos rfl]
  | c :: t, n, r, h => by
    rw [List.length_cons] at h
    have ih := txt_esc t (n + 1) r (by omega)
    unfold esc
    by_cases c0 : c = 0
    · subst c0
      rw [if_pos rfl]
      show txt n (0 :: 255 :: (esc t ++ 0 :: 1 :: r)) = _
      rw [txt_0, if_neg (by decide), if_neg (by decide), if_neg (by omega), ih]
      rfl
    · rw [if_neg c0]
      show txt n (c :: (esc t ++ 0 :: 1 :: r)) = _
      rw [txt_c c0, if_neg (by omega), ih]
      rfl
theorem txt_back : ∀ (l : List Nat) (n : Nat), n ≤ 200 → (txt n l).1 = 0 → l = esc (txt n l).2.1 ++ 0 :: 1 :: (txt n l).2.2 ∧ n + (txt n l).2.1.length ≤ 200
  | [], n, _, h => by rw [txt_nil] at h; exact absurd h (by decide)
  | c :: r, n, hn, h => by
    by_cases hc : c = 0
    · subst hc
      cases r with
      | nil => rw [txt_01] at h; exact absurd h (by decide)
      | cons x q =>
        rw [txt_0] at h ⊢
        by_cases h1 : x = 1
        · rw [if_pos h1, h1]; exact ⟨rfl, hn⟩
        · rw [if_neg h1] at h ⊢
          by_cases h2 : x ≠ 255
          · rw [if_pos h2] at h; exact absurd h (by decide)
          · rw [if_neg h2] at h ⊢
            by_cases h3 : n = 200
            · rw [if_pos h3] at h; exact absurd h (by decide)
            · rw [if_neg h3] at h ⊢
              unfold tcons at h ⊢
              by_cases h4 : (txt (n + 1) q).1 = 0
              · rw [if_pos h4]
                obtain ⟨i1, i2⟩ := txt_back q (n + 1) (by omega) h4
                have h5 : x = 255 := by omega
                refine ⟨?_, by simp only [List.length_cons]; omega⟩
                subst h5
                show _ = esc (0 :: (txt (n + 1) q).2.1) ++ 0 :: 1 :: (txt (n + 1) q).2.2
                rw [esc, if_pos rfl, List.append_assoc, ← i1]
                rfl
              · rw [if_neg h4] at h; exact absurd h h4
    · rw [txt_c hc] at h ⊢
      by_cases h3 : n = 200
      · rw [if_pos h3] at h; exact absurd h (by decide)
      · rw [if_neg h3] at h ⊢
        unfold tcons at h ⊢
        by_cases h4 : (txt (n + 1) r).1 = 0
        · rw [if_pos h4]
          obtain ⟨i1, i2⟩ := txt_back r (n + 1) (by omega) h4
          refine ⟨?_, by simp only [List.length_cons]; omega⟩
          show _ = esc (c :: (txt (n + 1) r).2.1) ++ 0 :: 1 :: (txt (n + 1) r).2.2
          rw [esc, if_neg hc, List.append_assoc, ← i1]
          rfl
        · rw [if_neg h4] at h; exact absurd h h4

/-! values -/
/-- a right value -/
def RV (v : Vt) : Prop := VCheck v.1 v.2.1 v.2.2 = 0 ∧ InI v.2.1
theorem em_of {s : ByteArray} (h : s.toList = []) : s = Em := by
  rw [(toList_nil_iff_emptyBytes s).1 h]
  rfl
theorem vck {k n : Int} {s : ByteArray} (h : VCheck k n s = 0) : 0 ≤ k ∧ k ≤ 4 ∧ RightNum k n = true ∧ (k ≠ 4 → s = Em) ∧ s.size ≤ 200 := by
  unfold VCheck at h
  by_cases h1 : k < 0 ∨ 4 < k
  · rw [if_pos h1] at h; exact absurd h (by decide)
  · rw [if_neg h1] at h
    by_cases h2 : RightNum k n = false
    · rw [if_pos h2] at h; exact absurd h (by decide)
    · rw [if_neg h2] at h
      by_cases h3 : k ≠ 4 ∧ s.toList ≠ []
      · rw [if_pos h3] at h; exact absurd h (by decide)
      · rw [if_neg h3] at h
        by_cases h4 : 200 < s.size
        · rw [if_pos h4] at h; exact absurd h (by decide)
        · exact ⟨by omega, by omega, by simpa using h2, fun g => em_of (by simpa [g] using h3), by omega⟩

/-- what is read again: 0 for a real -0 -/
def canV (v : Vt) : Vt := (v.1, if v.1 = 3 ∧ v.2.1 = -9223372036854775808 then 0 else v.2.1, v.2.2)
theorem kinds5 {k : Int} (h1 : 0 ≤ k) (h2 : k ≤ 4) : k = 0 ∨ k = 1 ∨ k = 2 ∨ k = 3 ∨ k = 4 := by omega
theorem rgt3 {n : Int} (hi : InI n) (h : RightNum 3 n = true) : n = PCanon n := by
  unfold RightNum at h
  rw [if_neg (by decide), if_neg (by decide), if_pos rfl] at h
  have e : n = RCanon n := by simpa using h
  rw [canon_eq hi] at e
  exact e
theorem rgt3' {n : Int} (hi : InI n) (h : n = PCanon n) : RightNum 3 n = true := by
  unfold RightNum
  rw [if_neg (by decide), if_neg (by decide), if_pos rfl, canon_eq hi, ← h]
  simp
theorem real_ris {n : Int} (hi : InI n) (h : n ≠ -9223372036854775808) : realN (risV n).toNat = n := by
  unfold InI at hi
  unfold risV realN
  rw [if_neg h]
  by_cases c : n < 0
  · rw [if_pos c, if_pos (by omega)]; omega
  · rw [if_neg c, if_neg (by omega)]; omega
theorem ris_real {u : Nat} (hu : u < 18446744073709551616) (h : realN u ≠ -9223372036854775808) : (risV (realN u)).toNat = u := by
  unfold realN at h ⊢
  by_cases c : u < 9223372036854775808
  · rw [if_pos c] at h ⊢
    unfold risV
    rw [if_neg h, if_pos (by omega)]; omega
  · rw [if_neg c] at h ⊢
    unfold risV
    rw [if_neg h, if_neg (by omega)]; omega

theorem pc0 : (0 : Int) = PCanon 0 := by decide +kernel
theorem real0 : realN (risV (-9223372036854775808)).toNat = 0 := by decide +kernel

theorem take8 (u : Nat) (r : List Nat) : (be8 u ++ r).take 8 = be8 u := rfl
theorem drop8 (u : Nat) (r : List Nat) : (be8 u ++ r).drop 8 = r := rfl
theorem dec_vb (v : Vt) (h : RV v) (r : List Nat) : decOne (vb v.1 v.2.1 v.2.2 ++ r) = (0, canV v, r) := by
  obtain ⟨k, n, s⟩ := v
  obtain ⟨hc, hi⟩ := h
  simp only at hc hi
  obtain ⟨h1, h2, h3, h4, h5⟩ := vck hc
  have hI := hi
  unfold InI at hi
  unfold canV
  simp only
  rcases kinds5 h1 h2 with rfl | rfl | rfl | rfl | rfl
  · obtain rfl := h4 (by decide)
    have hn : n = 0 := by simpa [RightNum] using h3
    subst hn
    rfl
  · obtain rfl := h4 (by decide)
    have hn : n = 0 ∨ n = 1 := by simpa [RightNum] using h3
    rcases hn with rfl | rfl
    · rw [vb1]
      show decOne (2 :: 0 :: r) = _
      rw [decOne_cons]
      have hl : ¬ (0 :: r).length < nB 2 := by simp [nB]
      rw [if_neg (by decide), if_neg (by decide), if_neg (by decide), if_neg hl]
      rfl
    · rw [vb1]
      show decOne (2 :: 1 :: r) = _
      rw [decOne_cons]
      have hl : ¬ (1 :: r).length < nB 2 := by simp [nB]
      rw [if_neg (by decide), if_neg (by decide), if_neg (by decide), if_neg hl]
      rfl
  · obtain rfl := h4 (by decide)
    rw [vb2]
    show decOne (3 :: (be8 _ ++ r)) = _
    rw [decOne_cons]
    have hl : ¬ (be8 (n + 9223372036854775808).toNat ++ r).length < nB 3 := by simp [nB, be8]
    rw [if_neg (by decide), if_neg (by decide), if_neg (by decide), if_neg hl]
    rw [show nB 3 = 8 from rfl, take8, drop8, numU_be8 _ (by omega)]
    have hk : numK (((3 : Nat) : Int) - 1) (n + 9223372036854775808).toNat = (n, 0) := by
      show (((n + 9223372036854775808).toNat : Int) - 9223372036854775808, (0 : Int)) = (n, 0)
      rw [Int.toNat_of_nonneg (by omega)]
      congr 1
      omega
    rw [hk, if_pos rfl, if_neg (by rintro ⟨h, _⟩; exact absurd h (by decide))]
    rfl
  · obtain rfl := h4 (by decide)
    have hr := ris_in hI
    rw [vb3]
    show decOne (4 :: (be8 _ ++ r)) = _
    rw [decOne_cons]
    have hl : ¬ (be8 (risV n).toNat ++ r).length < nB 4 := by simp [nB, be8]
    rw [if_neg (by decide), if_neg (by decide), if_neg (by decide), if_neg hl]
    rw [show nB 4 = 8 from rfl, take8, drop8, numU_be8 _ (by omega)]
    have hk : numK (((4 : Nat) : Int) - 1) (risV n).toNat = (if (3 : Int) = 3 ∧ n = -9223372036854775808 then 0 else n, 0) := by
      show (if realN (risV n).toNat = -9223372036854775808 ∨ realN (risV n).toNat ≠ PCanon (realN (risV n).toNat) then ((0 : Int), (2 : Int)) else (realN (risV n).toNat, 0)) = _
      by_cases c : n = -9223372036854775808
      · subst c
        rw [real0, if_neg (by rintro (h | h); exact absurd h (by decide); exact h pc0), if_pos ⟨rfl, rfl⟩]
      · rw [real_ris hI c, if_neg (by rintro (h | h); exact c h; exact h (rgt3 hI h3)), if_neg (fun h => c h.2)]
    rw [hk, if_pos rfl]
    rfl
  · have hn : n = 0 := by simpa [RightNum] using h3
    subst hn
    rw [vb4]
    show decOne (5 :: (esc (sl s) ++ [0, 1] ++ r)) = _
    rw [decOne_cons, if_neg (by decide), if_neg (by decide), if_pos rfl, List.append_assoc]
    rw [show esc (sl s) ++ ([0, 1] ++ r) = esc (sl s) ++ 0 :: 1 :: r from rfl, txt_esc (sl s) 0 r (by rw [sl_length]; omega), if_pos rfl, if_neg (by rintro ⟨h, _⟩; exact absurd h (by decide))]
    show ((0 : Int), ((4 : Int), (0 : Int), strB (sl s)), r) = _
    rw [strB_sl]

/-- a list's key -/
def keyL : List Vt → List Nat
  | [] => []
  | v :: r => vb v.1 v.2.1 v.2.2 ++ keyL r
theorem keyL_app (l r : List Vt) : keyL (l ++ r) = keyL l ++ keyL r := by
  induction l with
  | nil => rfl
  | cons v l ih => simp only [List.cons_append, keyL, ih, List.append_assoc]
theorem dec_key : ∀ (l : List Vt), (∀ v ∈ l, RV v) → decK (keyL l) = (l.map canV, 0)
  | [], _ => rfl
  | v :: r, h => by
    have h1 := dec_vb v (h v (List.mem_cons_self ..)) (keyL r)
    have ih := dec_key r (fun x hx => h x (List.mem_cons_of_mem _ hx))
    unfold keyL
    obtain ⟨c, t, e⟩ : ∃ c t, vb v.1 v.2.1 v.2.2 ++ keyL r = c :: t := ⟨_, _, rfl⟩
    rw [e] at h1 ⊢
    rw [decK_cons, h1, if_pos rfl, ih]
    rfl

/-! back -/
theorem vck_num {k n : Int} (h1 : 0 ≤ k) (h2 : k ≤ 3) (h3 : RightNum k n = true) : VCheck k n Em = 0 := by
  unfold VCheck
  rw [if_neg (by omega), if_neg (by rw [h3]; decide), if_neg (by rintro ⟨_, h⟩; exact h ((toList_nil_iff_emptyBytes Em).2 rfl)), if_neg (by decide)]
theorem vck_text {s : ByteArray} (h : s.size ≤ 200) : VCheck 4 0 s = 0 := by
  unfold VCheck
  rw [if_neg (by decide), if_neg (by simp [RightNum]), if_neg (by rintro ⟨h, _⟩; exact h rfl), if_neg (by omega)]
theorem in00 : InI 0 := by unfold InI; decide
theorem strB_size (l : List Nat) : (strB l).size = l.length := by unfold strB; rw [strOfNums_size, List.length_map]
theorem esc_lt {t : List Nat} (h : ∀ x ∈ esc t, x < 256) : ∀ x ∈ t, x < 256 := by
  induction t with
  | nil => intro x hx; cases hx
  | cons c t ih =>
    unfold esc at h
    intro x hx
    rcases List.mem_cons.1 hx with rfl | hx
    · by_cases c0 : x = 0
      · omega
      · rw [if_neg c0] at h; exact h x (by simp)
    · exact ih (fun y hy => h y (List.mem_append_right _ hy)) x hx

theorem dec_back1 (c : Nat) (r : List Nat) (h8 : ∀ x ∈ c :: r, x < 256) (h : (decOne (c :: r)).1 = 0) :
    c :: r = vb (decOne (c :: r)).2.1.1 (decOne (c :: r)).2.1.2.1 (decOne (c :: r)).2.1.2.2 ++ (decOne (c :: r)).2.2 ∧ RV (decOne (c :: r)).2.1 := by
  have hc : c < 1 ∨ 5 < c ∨ c = 1 ∨ c = 5 ∨ c = 2 ∨ c = 3 ∨ c = 4 := by omega
  rcases hc with hc | hc | rfl | rfl | rfl | rfl | rfl
  · rw [decOne_cons, if_pos (.inl hc)] at h; exact absurd h (by decide)
  · rw [decOne_cons, if_pos (.inr hc)] at h; exact absurd h (by decide)
  · exact ⟨rfl, vck_num (k := 0) (n := 0) (by decide) (by decide) rfl, in00⟩
  · rw [decOne_cons, if_neg (by decide), if_neg (by decide), if_pos rfl] at h ⊢
    by_cases q : (txt 0 r).1 = 0
    · rw [if_pos q] at h ⊢
      obtain ⟨b1, b2⟩ := txt_back r 0 (by decide) q
      have hb : ∀ x ∈ (txt 0 r).2.1, x < 256 := esc_lt (fun x hx => h8 x (List.mem_cons_of_mem _ (by rw [b1]; exact List.mem_append_left _ hx)))
      refine ⟨?_, vck_text (by rw [strB_size]; omega), in00⟩
      show _ = vb 4 0 (strB (txt 0 r).2.1) ++ (txt 0 r).2.2
      rw [vb4, sl_strB hb]
      show _ = 5 :: (esc (txt 0 r).2.1 ++ [0, 1] ++ (txt 0 r).2.2)
      rw [List.append_assoc]
      exact congrArg _ b1
    · rw [if_neg q] at h; exact absurd h q
  · rw [decOne_cons, if_neg (by decide), if_neg (by decide), if_neg (by decide)] at h ⊢
    by_cases q : r.length < nB 2
    · rw [if_pos q] at h; exact absurd h (by decide)
    · rw [if_neg q] at h ⊢
      match r, q with
      | x :: t, _ =>
        have hx := h8 x (by simp)
        have e1 : numU ((x :: t).take (nB 2)) = x := by show numU [x] = x; simp [numU]
        rw [e1] at h ⊢
        have e2 : numK (((2 : Nat) : Int) - 1) x = if 1 < x then (0, 2) else ((x : Int), 0) := rfl
        rw [e2] at h ⊢
        by_cases z : 1 < x
        · rw [if_pos z, if_neg (by decide)] at h; exact absurd h (by decide)
        · rw [if_neg z, if_pos rfl]
          refine ⟨?_, vck_num (k := 1) (n := (x : Int)) (by decide) (by decide) (by
            show (((x : Int) == 0) || ((x : Int) == 1)) = true
            rcases (show x = 0 ∨ x = 1 by omega) with rfl | rfl <;> rfl), by unfold InI; simp only; omega⟩
          show _ = vb 1 (x : Int) Em ++ t
          rw [vb1]
          show _ = 2 :: ((x : Int) % 256).toNat :: t
          congr 2
          omega
      | [], q => exact absurd (by simp [nB]) q
  · rw [decOne_cons, if_neg (by decide), if_neg (by decide), if_neg (by decide)] at h ⊢
    by_cases q : r.length < nB 3
    · rw [if_pos q] at h; exact absurd h (by decide)
    · rw [if_neg q] at h ⊢
      have ql : (r.take 8).length = 8 := by rw [List.length_take]; have : nB 3 = 8 := rfl; omega
      have q8 : ∀ x ∈ r.take 8, x < 256 := fun x hx => h8 x (List.mem_cons_of_mem _ (List.mem_of_mem_take hx))
      have hu := numU_lt 8 (r.take 8) q8 ql
      have e2 : numK (((3 : Nat) : Int) - 1) (numU (r.take (nB 3))) = ((numU (r.take 8) : Int) - 9223372036854775808, 0) := rfl
      rw [e2, if_pos rfl]
      refine ⟨?_, vck_num (k := 2) (n := (numU (r.take 8) : Int) - 9223372036854775808) (by decide) (by decide) rfl, by unfold InI; simp only; omega⟩
      show _ = vb 2 ((numU (r.take 8) : Int) - 9223372036854775808) Em ++ r.drop 8
      rw [vb2, show ((numU (r.take 8) : Int) - 9223372036854775808 + 9223372036854775808).toNat = numU (r.take 8) by omega, be8_numU _ ql q8]
      show _ = 3 :: (r.take 8 ++ r.drop 8)
      rw [List.take_append_drop]
  · rw [decOne_cons, if_neg (by decide), if_neg (by decide), if_neg (by decide)] at h ⊢
    by_cases q : r.length < nB 4
    · rw [if_pos q] at h; exact absurd h (by decide)
    · rw [if_neg q] at h ⊢
      have ql : (r.take 8).length = 8 := by rw [List.length_take]; have : nB 4 = 8 := rfl; omega
      have q8 : ∀ x ∈ r.take 8, x < 256 := fun x hx => h8 x (List.mem_cons_of_mem _ (List.mem_of_mem_take hx))
      have hu := numU_lt 8 (r.take 8) q8 ql
      have e2 : numK (((4 : Nat) : Int) - 1) (numU (r.take (nB 4))) = if realN (numU (r.take 8)) = -9223372036854775808 ∨ realN (numU (r.take 8)) ≠ PCanon (realN (numU (r.take 8))) then (0, 2) else (realN (numU (r.take 8)), 0) := rfl
      rw [e2] at h ⊢
      have hin : InI (realN (numU (r.take 8))) := by unfold InI realN; split <;> omega
      have hrr := ris_real (u := numU (r.take 8)) (by omega)
      by_cases z : realN (numU (r.take 8)) = -9223372036854775808 ∨ realN (numU (r.take 8)) ≠ PCanon (realN (numU (r.take 8)))
      · rw [if_pos z, if_neg (by decide)] at h; exact absurd h (by decide)
      · rw [if_neg z, if_pos rfl]
        have z1 : realN (numU (r.take 8)) ≠ -9223372036854775808 := fun e => z (.inl e)
        have z2 : realN (numU (r.take 8)) = PCanon (realN (numU (r.take 8))) := by
          rcases Decidable.em (realN (numU (r.take 8)) = PCanon (realN (numU (r.take 8)))) with e | e
          · exact e
          · exact absurd (.inr e) z
        refine ⟨?_, vck_num (k := 3) (n := realN (numU (r.take 8))) (by decide) (by decide) (rgt3' hin z2), hin⟩
        show _ = vb 3 (realN (numU (r.take 8))) Em ++ r.drop 8
        rw [vb3, hrr z1, be8_numU _ ql q8]
        show _ = 4 :: (r.take 8 ++ r.drop 8)
        rw [List.take_append_drop]

theorem dec_back : ∀ (n : Nat) (l : List Nat), l.length ≤ n → (∀ x ∈ l, x < 256) → (decK l).2 = 0 → keyL (decK l).1 = l ∧ ∀ v ∈ (decK l).1, RV v
  | _, [], _, _, _ => ⟨rfl, fun v hv => absurd hv (by simp [decK_nil])⟩
  | 0, c :: r, h, _, _ => absurd h (by simp)
  | n + 1, c :: r, h, h8, hd => by
    rw [List.length_cons] at h
    have hl := decOne_len c r
    rw [decK_cons] at hd ⊢
    by_cases q : (decOne (c :: r)).1 = 0
    · rw [if_pos q] at hd ⊢
      obtain ⟨b1, b2⟩ := dec_back1 c r h8 q
      unfold vcons at hd ⊢
      by_cases z : (decK (decOne (c :: r)).2.2).2 = 0
      · rw [if_pos z]
        have h8' : ∀ x ∈ (decOne (c :: r)).2.2, x < 256 := fun x hx => h8 x (by rw [b1]; exact List.mem_append_right _ hx)
        obtain ⟨i1, i2⟩ := dec_back n (decOne (c :: r)).2.2 (by omega) h8' z
        refine ⟨?_, ?_⟩
        · show keyL ((decOne (c :: r)).2.1 :: _) = _
          unfold keyL
          rw [i1]
          exact b1.symm
        · intro v hv
          rcases List.mem_cons.1 hv with rfl | hv
          · exact b2
          · exact i2 v hv
      · rw [if_neg z] at hd; exact absurd hd z
    · rw [if_neg q] at hd; exact absurd hd q

end Go.Proofs.YtmmchhlfbhbigaaDoor

namespace Go.Proofs.YtmmchhlfbhbigaaDoor
set_option maxRecDepth 100000
open Go.RowKit Go.Joins Go.ChangeShapes Go.WideShapes
set_option linter.unusedVariables false

theorem ordB_cons (a b : Nat) (l r : List Nat) : ordB (a :: l) (b :: r) = if a < b then -1 else if b < a then 1 else ordB l r := rfl
theorem ordB_same (p l r : List Nat) : ordB (p ++ l) (p ++ r) = ordB l r := by
  induction p with
  | nil => rfl
  | cons a p ih => rw [List.cons_append, List.cons_append, ordB_cons, if_neg (by omega), if_neg (by omega), ih]
theorem ordB_turn : ∀ (l r : List Nat), ordB r l = -ordB l r
  | [], [] => rfl
  | [], _ :: _ => rfl
  | _ :: _, [] => rfl
  | a :: l, b :: r => by
    rw [ordB_cons, ordB_cons, ordB_turn l r]
    by_cases h1 : a < b
    · rw [if_neg (by omega), if_pos h1, if_pos h1]; rfl
    · by_cases h2 : b < a
      · rw [if_pos h2, if_neg h1, if_pos h2]
      · rw [if_neg h2, if_neg h1, if_neg h1, if_neg h2]
theorem ordB_vals (l r : List Nat) : ordB l r = -1 ∨ ordB l r = 0 ∨ ordB l r = 1 := by
  induction l generalizing r with
  | nil => cases r <;> simp [ordB]
  | cons a l ih =>
    cases r with
    | nil => simp [ordB]
    | cons b r =>
      rw [ordB_cons]
      repeat' split
      · simp
      · simp
      · exact ih r

/-- numbers of as many bytes -/
theorem ord_num : ∀ (l r x y : List Nat), l.length = r.length → (∀ a ∈ l, a < 256) → (∀ a ∈ r, a < 256) → numU l < numU r → ordB (l ++ x) (r ++ y) = -1
  | [], [], _, _, _, _, _, h => absurd h (by simp)
  | [], _ :: _, _, _, hl, _, _, _ => absurd hl (by simp)
  | _ :: _, [], _, _, hl, _, _, _ => absurd hl (by simp)
  | a :: l, b :: r, x, y, hl, h8, h8', h => by
    have hl' : l.length = r.length := by simpa using hl
    have i1 : ∀ z ∈ l, z < 256 := fun z hz => h8 z (List.mem_cons_of_mem _ hz)
    have i2 : ∀ z ∈ r, z < 256 := fun z hz => h8' z (List.mem_cons_of_mem _ hz)
    have b1 := numU_lt l.length l i1 rfl
    have b2 := numU_lt r.length r i2 rfl
    rw [numU_cons, numU_cons] at h
    rw [hl'] at b1 h
    rw [List.cons_append, List.cons_append, ordB_cons]
    by_cases c : a < b
    · rw [if_pos c]
    · rw [if_neg c]
      have hba : b = a := by
        rcases Nat.lt_or_ge b a with d | d
        · exfalso
          have hm : (b + 1) * 256 ^ r.length ≤ a * 256 ^ r.length := Nat.mul_le_mul_right _ d
          rw [Nat.add_mul, Nat.one_mul] at hm
          omega
        · omega
      subst hba
      rw [if_neg (by omega)]
      exact ord_num l r x y hl' i1 i2 (by omega)

theorem ord_be8 (u v : Nat) (hu : u < 18446744073709551616) (hv : v < 18446744073709551616) (x y : List Nat) : (u < v → ordB (be8 u ++ x) (be8 v ++ y) = -1) ∧ (v < u → ordB (be8 u ++ x) (be8 v ++ y) = 1) := by
  constructor
  · intro h
    exact ord_num _ _ x y rfl (be8_lt u) (be8_lt v) (by rw [numU_be8 u hu, numU_be8 v hv]; exact h)
  · intro h
    rw [ordB_turn, ord_num (be8 v) (be8 u) y x rfl (be8_lt v) (be8_lt u) (by rw [numU_be8 u hu, numU_be8 v hv]; exact h)]
    rfl

/-- texts -/
theorem ord_esc : ∀ (s t x y : List Nat), s ≠ t → ordB (esc s ++ 0 :: 1 :: x) (esc t ++ 0 :: 1 :: y) = ordB s t
  | [], [], _, _, h => absurd rfl h
  | [], b :: t, x, y, _ => by
    show ordB (0 :: 1 :: x) (esc (b :: t) ++ 0 :: 1 :: y) = -1
    unfold esc
    by_cases c : b = 0
    · rw [if_pos c]; rfl
    · rw [if_neg c]
      show ordB (0 :: 1 :: x) (b :: (esc t ++ 0 :: 1 :: y)) = -1
      rw [ordB_cons, if_pos (by omega)]
  | a :: s, [], x, y, _ => by
    show ordB (esc (a :: s) ++ 0 :: 1 :: x) (0 :: 1 :: y) = 1
    unfold esc
    by_cases c : a = 0
    · rw [if_pos c]; rfl
    · rw [if_neg c]
      show ordB (a :: (esc s ++ 0 :: 1 :: x)) (0 :: 1 :: y) = 1
      rw [ordB_cons, if_neg (by omega), if_pos (by omega)]
  | a :: s, b :: t, x, y, h => by
    rw [ordB_cons]
    unfold esc
    by_cases c : a = 0
    · subst c
      by_cases d : b = 0
      · subst d
        rw [if_pos rfl, if_neg (by omega), if_neg (by omega)]
        show ordB (0 :: 255 :: (esc s ++ 0 :: 1 :: x)) (0 :: 255 :: (esc t ++ 0 :: 1 :: y)) = _
        rw [ordB_cons, if_neg (by omega), if_neg (by omega), ordB_cons, if_neg (by omega), if_neg (by omega)]
        exact ord_esc s t x y (fun e => h (by rw [e]))
      · rw [if_pos rfl, if_neg d, if_pos (by omega)]
        show ordB (0 :: 255 :: (esc s ++ 0 :: 1 :: x)) (b :: (esc t ++ 0 :: 1 :: y)) = _
        rw [ordB_cons, if_pos (by omega)]
    · by_cases d : b = 0
      · subst d
        rw [if_neg c, if_pos rfl, if_neg (by omega), if_pos (by omega)]
        show ordB (a :: (esc s ++ 0 :: 1 :: x)) (0 :: 255 :: (esc t ++ 0 :: 1 :: y)) = _
        rw [ordB_cons, if_neg (by omega), if_pos (by omega)]
      · rw [if_neg c, if_neg d]
        show ordB (a :: (esc s ++ 0 :: 1 :: x)) (b :: (esc t ++ 0 :: 1 :: y)) = _
        rw [ordB_cons]
        by_cases q : a < b
        · rw [if_pos q, if_pos q]
        · rw [if_neg q, if_neg q]
          by_cases r : b < a
          · rw [if_pos r, if_pos r]
          · rw [if_neg r, if_neg r]
            have e : a = b := by omega
            subst e
            exact ord_esc s t x y (fun e => h (by rw [e]))
theorem ordB_zero : ∀ (l r : List Nat), ordB l r = 0 → l = r
  | [], [], _ => rfl
  | [], _ :: _, h => absurd (show (-1 : Int) = 0 from h) (by decide)
  | _ :: _, [], h => absurd (show (1 : Int) = 0 from h) (by decide)
  | a :: l, b :: r, h => by
    rw [ordB_cons] at h
    by_cases q : a < b
    · rw [if_pos q] at h; exact absurd h (by decide)
    · rw [if_neg q] at h
      by_cases z : b < a
      · rw [if_pos z] at h; exact absurd h (by decide)
      · rw [if_neg z] at h
        rw [show a = b by omega, ordB_zero l r h]
theorem cmp_ordB : ∀ (l r : List UInt8), Lib.compareBytes l r = ordB (l.map fun b => b.toNat) (r.map fun b => b.toNat)
  | [], [] => rfl
  | [], _ :: _ => rfl
  | _ :: _, [] => rfl
  | a :: l, b :: r => by
    rw [List.map_cons, List.map_cons, ordB_cons, ← cmp_ordB l r, Lib.compareBytes]
    simp only [UInt8.lt_iff_toNat_lt]
theorem scmp_ordB (s t : ByteArray) : SCmp s t = ordB (sl s) (sl t) := cmp_ordB _ _
theorem sl_inj {s t : ByteArray} (h : sl s = sl t) : s = t := by rw [← strB_sl s, ← strB_sl t, h]

/-- reals -/
theorem ris_place {n : Int} (hi : InI n) (h : n = PCanon n) : (rnan (ub n) = true ∧ risV n = 18444492273895866368) ∨ (rnan (ub n) = false ∧ -9218868437227405312 ≤ pl (ub n) ∧ pl (ub n) ≤ 9218868437227405312 ∧ risV n = if pl (ub n) < 0 then pl (ub n) + 9223372036854775807 else pl (ub n) + 9223372036854775808) := by
  unfold PCanon at h
  by_cases c : rnan (ub n) = true
  · left
    rw [if_pos c] at h
    refine ⟨c, ?_⟩
    rw [h]; decide
  · right
    have c' : rnan (ub n) = false := by simpa using c
    have hb := pl_bound (ub n) c'
    refine ⟨c', hb.1, hb.2, ?_⟩
    unfold pl
    unfold InI at hi
    have hub : ub n = (if n < 0 then n + 18446744073709551616 else n).toNat := by
      unfold ub
      rw [IntKind.wrap_u64]
      split <;> omega
    have hsg : sg (ub n) = decide (n < 0) := by
      unfold sg
      rw [hub]
      by_cases d : n < 0
      · rw [if_pos d]; simp [d]; omega
      · rw [if_neg d]; simp [d]; omega
    have hrg : (rg (ub n) : Int) = if n < 0 then n + 9223372036854775808 else n := by
      unfold rg
      rw [hub]
      by_cases d : n < 0
      · rw [if_pos d, if_pos d]; omega
      · rw [if_neg d, if_neg d]; omega
    rw [hsg]
    unfold risV
    by_cases d : n < 0
    · rw [if_pos d] at hrg
      simp only [d, decide_true, if_true]
      rw [hrg]
      by_cases e : n = -9223372036854775808
      · subst e; decide
      · rw [if_neg e, if_pos (by omega)]; omega
    · rw [if_neg d] at hrg
      simp only [d, decide_false, Bool.false_eq_true, if_false]
      rw [hrg, if_neg (by omega), if_neg (by omega)]

theorem ris_pl {n : Int} (hi : InI n) (h : n = PCanon n) : (PPlace n = 9223372036854775807 ∧ risV n = 18444492273895866368) ∨ (-9218868437227405312 ≤ PPlace n ∧ PPlace n < 0 ∧ risV n = PPlace n + 9223372036854775807) ∨ (0 ≤ PPlace n ∧ PPlace n ≤ 9218868437227405312 ∧ risV n = PPlace n + 9223372036854775808) := by
  unfold PPlace
  rcases ris_place hi h with ⟨a1, a2⟩ | ⟨a1, a2, a3, a4⟩
  · rw [if_pos a1]; exact .inl ⟨rfl, a2⟩
  · right
    rw [if_neg (by rw [a1]; decide)]
    by_cases c : pl (ub n) < 0
    · rw [if_pos c] at a4; exact .inl ⟨a2, c, a4⟩
    · rw [if_neg c] at a4; exact .inr ⟨by omega, a3, a4⟩
theorem ris_order {n m : Int} (hn : InI n) (hm : InI m) (h : n = PCanon n) (h' : m = PCanon m) : POrder n m = if risV n < risV m then -1 else if risV m < risV n then 1 else 0 := by
  have e : POrder n m = if PPlace n < PPlace m then -1 else if PPlace m < PPlace n then 1 else 0 := rfl
  rw [e]
  have h1 := ris_pl hn h
  have h2 := ris_pl hm h'
  generalize PPlace n = p at *
  generalize PPlace m = q at *
  generalize risV n = a at *
  generalize risV m = b at *
  clear hn hm h h' e
  by_cases c : p < q
  · have c2 : a < b := by omega
    rw [if_pos c, if_pos c2]
  · have c2 : ¬ a < b := by omega
    rw [if_neg c, if_neg c2]
    by_cases d : q < p
    · have d2 : b < a := by omega
      rw [if_pos d, if_pos d2]
    · have d2 : ¬ b < a := by omega
      rw [if_neg d, if_neg d2]

/-! values and lists -/
theorem ord_vb (v u : Vt) (hv : RV v) (hu : RV u) : (VCmp v.1 v.2.1 v.2.2 u.1 u.2.1 u.2.2 = 0 ∧ vb v.1 v.2.1 v.2.2 = vb u.1 u.2.1 u.2.2) ∨
    (VCmp v.1 v.2.1 v.2.2 u.1 u.2.1 u.2.2 ≠ 0 ∧ ∀ x y, ordB (vb v.1 v.2.1 v.2.2 ++ x) (vb u.1 u.2.1 u.2.2 ++ y) = VCmp v.1 v.2.1 v.2.2 u.1 u.2.1 u.2.2) := by
  obtain ⟨k, n, s⟩ := v
  obtain ⟨k', n', s'⟩ := u
  obtain ⟨hc, hi⟩ := hv
  obtain ⟨hc', hi'⟩ := hu
  simp only at hc hi hc' hi' ⊢
  obtain ⟨h1, h2, h3, h4, h5⟩ := vck hc
  obtain ⟨g1, g2, g3, g4, g5⟩ := vck hc'
  have hv : ∀ k n s x, vb k n s ++ x = (k + 1).toNat :: ((vb k n s).tail ++ x) := fun _ _ _ _ => rfl
  unfold VCmp
  by_cases c1 : k < k'
  · right
    rw [if_pos c1]
    refine ⟨by decide, fun x y => ?_⟩
    rw [hv, hv, ordB_cons, if_pos (by omega)]
  · rw [if_neg c1]
    by_cases c2 : k' < k
    · right
      rw [if_pos c2]
      refine ⟨by decide, fun x y => ?_⟩
      rw [hv, hv, ordB_cons, if_neg (by omega), if_pos (by omega)]
    · rw [if_neg c2]
      have e : k' = k := by omega
      subst e
      rcases kinds5 h1 h2 with rfl | rfl | rfl | rfl | rfl
      · left; exact ⟨rfl, rfl⟩
      · rw [if_neg (by decide), if_neg (by decide), if_neg (by decide)]
        have hn : n = 0 ∨ n = 1 := by simpa [RightNum] using h3
        have hn' : n' = 0 ∨ n' = 1 := by simpa [RightNum] using g3
        rcases hn with rfl | rfl <;> rcases hn' with rfl | rfl
        · left; exact ⟨rfl, rfl⟩
        · right; exact ⟨by decide, fun x y => rfl⟩
        · right; exact ⟨by decide, fun x y => rfl⟩
        · left; exact ⟨rfl, rfl⟩
      · rw [if_neg (by decide), if_neg (by decide), if_neg (by decide)]
        unfold InI at hi hi'
        have hb := ord_be8 (n + 9223372036854775808).toNat (n' + 9223372036854775808).toNat (by omega) (by omega)
        unfold cmpI
        by_cases q : n < n'
        · right
          rw [if_pos q]
          refine ⟨by decide, fun x y => ?_⟩
          rw [vb2, vb2, List.append_assoc, List.append_assoc, ordB_same]
          exact (hb x y).1 (by omega)
        · rw [if_neg q]
          by_cases z : n' < n
          · right
            rw [if_pos z]
            refine ⟨by decide, fun x y => ?_⟩
            rw [vb2, vb2, List.append_assoc, List.append_assoc, ordB_same]
            exact (hb x y).2 (by omega)
          · left
            rw [if_neg z]
            refine ⟨rfl, ?_⟩
            rw [vb2, vb2, show n = n' by omega]
      · rw [if_neg (by decide), if_pos rfl]
        have ho := ris_order hi hi' (rgt3 hi h3) (rgt3 hi' g3)
        have r1 := ris_in hi
        have r2 := ris_in hi'
        have hb := ord_be8 (risV n).toNat (risV n').toNat (by omega) (by omega)
        rw [ho]
        by_cases q : risV n < risV n'
        · right
          rw [if_pos q]
          refine ⟨by decide, fun x y => ?_⟩
          rw [vb3, vb3, List.append_assoc, List.append_assoc, ordB_same]
          exact (hb x y).1 (by omega)
        · rw [if_neg q]
          by_cases z : risV n' < risV n
          · right
            rw [if_pos z]
            refine ⟨by decide, fun x y => ?_⟩
            rw [vb3, vb3, List.append_assoc, List.append_assoc, ordB_same]
            exact (hb x y).2 (by omega)
          · left
            rw [if_neg z]
            refine ⟨rfl, ?_⟩
            rw [vb3, vb3, show risV n = risV n' by omega]
      · rw [if_neg (by decide), if_neg (by decide), if_pos rfl, scmp_ordB]
        by_cases q : sl s = sl s'
        · left
          rw [q]
          refine ⟨?_, ?_⟩
          · have := ordB_same (sl s') [] []
            rw [List.append_nil] at this
            rw [this]; rfl
          · rw [vb4, vb4, q]
        · right
          refine ⟨fun e => q (ordB_zero _ _ e), fun x y => ?_⟩
          have e : ∀ z w : List Nat, [5] ++ (z ++ [0, 1]) ++ w = [5] ++ (z ++ 0 :: 1 :: w) := fun z w => by simp
          rw [vb4, vb4, e, e, ordB_same]
          exact ord_esc _ _ x y q

theorem keyL_ne (v : Vt) (l : List Vt) : ∃ c t, keyL (v :: l) = c :: t := ⟨_, _, rfl⟩
theorem ord_keys : ∀ (l r : List Vt), (∀ v ∈ l, RV v) → (∀ v ∈ r, RV v) → ∀ (kf nf kf' nf' : Nat → Int) (sf sf' : Nat → ByteArray) (i : Nat),
    (∀ j v, l[j]? = some v → v = (kf (i + j), nf (i + j), sf (i + j))) → (∀ j v, r[j]? = some v → v = (kf' (i + j), nf' (i + j), sf' (i + j))) →
    ordB (keyL l) (keyL r) = firstNZ (fun i => VCmp (kf i) (nf i) (sf i) (kf' i) (nf' i) (sf' i)) (cmpI l.length r.length) i (min l.length r.length)
  | [], [], _, _, _, _, _, _, _, _, _, _, _ => rfl
  | [], v :: r, _, _, _, _, _, _, _, _, i, _, _ => by
    obtain ⟨c, t, e⟩ := keyL_ne v r
    rw [e]
    show (-1 : Int) = firstNZ _ (cmpI 0 ((r.length + 1 : Nat) : Int)) i (min 0 (r.length + 1))
    rw [Nat.zero_min]
    show (-1 : Int) = cmpI 0 ((r.length + 1 : Nat) : Int)
    unfold cmpI
    rw [if_pos (by omega)]
  | v :: l, [], _, _, _, _, _, _, _, _, i, _, _ => by
    obtain ⟨c, t, e⟩ := keyL_ne v l
    rw [e]
    show (1 : Int) = firstNZ _ (cmpI ((l.length + 1 : Nat) : Int) 0) i (min (l.length + 1) 0)
    rw [Nat.min_zero]
    show (1 : Int) = cmpI ((l.length + 1 : Nat) : Int) 0
    unfold cmpI
    rw [if_neg (by omega), if_pos (by omega)]
  | v :: l, u :: r, hl, hr, kf, nf, kf', nf', sf, sf', i, h1, h2 => by
    have ev := h1 0 v rfl
    have eu := h2 0 u rfl
    rw [Nat.add_zero] at ev eu
    have ih := ord_keys l r (fun x hx => hl x (List.mem_cons_of_mem _ hx)) (fun x hx => hr x (List.mem_cons_of_mem _ hx)) kf nf kf' nf' sf sf' (i + 1)
      (fun j x hx => by rw [show i + 1 + j = i + (j + 1) by omega]; exact h1 (j + 1) x hx) (fun j x hx => by rw [show i + 1 + j = i + (j + 1) by omega]; exact h2 (j + 1) x hx)
    have hc := ord_vb v u (hl v (List.mem_cons_self ..)) (hr u (List.mem_cons_self ..))
    have eq : VCmp v.1 v.2.1 v.2.2 u.1 u.2.1 u.2.2 = VCmp (kf i) (nf i) (sf i) (kf' i) (nf' i) (sf' i) := by rw [ev, eu]
    rw [List.length_cons, List.length_cons, Nat.succ_min_succ]
    show ordB (vb v.1 v.2.1 v.2.2 ++ keyL l) (vb u.1 u.2.1 u.2.2 ++ keyL r) = if VCmp (kf i) (nf i) (sf i) (kf' i) (nf' i) (sf' i) = 0 then firstNZ _ _ (i + 1) (min l.length r.length) else VCmp (kf i) (nf i) (sf i) (kf' i) (nf' i) (sf' i)
    rw [← eq]
    rcases hc with ⟨c1, c2⟩ | ⟨c1, c2⟩
    · rw [if_pos c1, c2, ordB_same, ih]
      have hcm : cmpI ((l.length + 1 : Nat) : Int) ((r.length + 1 : Nat) : Int) = cmpI (l.length : Int) (r.length : Int) := by
        unfold cmpI
        by_cases a : (l.length : Int) < r.length
        · rw [if_pos (by omega), if_pos a]
        · rw [if_neg (by omega), if_neg a]
          by_cases b : (r.length : Int) < l.length
          · rw [if_pos (by omega), if_pos b]
          · rw [if_neg (by omega), if_neg b]
      rw [hcm]
    · rw [if_neg c1, c2]

/-- the values that lie there, as a list -/
def vlist (kf nf : Nat → Int) (sf : Nat → ByteArray) (m : Nat) : List Vt := (List.range m).map fun i => (kf i, nf i, sf i)
theorem vlist_length (kf nf : Nat → Int) (sf : Nat → ByteArray) (m : Nat) : (vlist kf nf sf m).length = m := by simp [vlist]
theorem vlist_at (kf nf : Nat → Int) (sf : Nat → ByteArray) (m j : Nat) (v : Vt) (h : (vlist kf nf sf m)[j]? = some v) : v = (kf j, nf j, sf j) := by
  unfold vlist at h
  rw [List.getElem?_map] at h
  have hj : j < m := by
    rcases Nat.lt_or_ge j m with c | c
    · exact c
    · rw [List.getElem?_eq_none (by simpa using c)] at h; cases h
  rw [List.getElem?_range hj] at h
  exact (Option.some.inj h).symm
theorem vlist_succ (kf nf : Nat → Int) (sf : Nat → ByteArray) (m : Nat) : vlist kf nf sf (m + 1) = vlist kf nf sf m ++ [(kf m, nf m, sf m)] := by
  unfold vlist
  rw [List.range_succ, List.map_append]
  rfl
theorem keyB_list (kf nf : Nat → Int) (sf : Nat → ByteArray) : ∀ m, keyB kf nf sf m = keyL (vlist kf nf sf m)
  | 0 => rfl
  | m + 1 => by
    rw [vlist_succ, keyL_app, ← keyB_list kf nf sf m]
    show keyB kf nf sf m ++ vb (kf m) (nf m) (sf m) = keyB kf nf sf m ++ (vb (kf m) (nf m) (sf m) ++ [])
    rw [List.append_nil]
theorem vlist_mem (kf nf : Nat → Int) (sf : Nat → ByteArray) (m : Nat) (h : ∀ i, i < m → VCheck (kf i) (nf i) (sf i) = 0 ∧ InI (nf i)) : ∀ v ∈ vlist kf nf sf m, RV v := by
  intro v hv
  obtain ⟨i, hi, rfl⟩ := List.mem_map.1 hv
  exact h i (List.mem_range.1 hi)

/-- P5.4, plainly -/
theorem keys_order (kf nf : Nat → Int) (sf : Nat → ByteArray) (kf' nf' : Nat → Int) (sf' : Nat → ByteArray) (m n : Nat) (h : ∀ i, i < m → VCheck (kf i) (nf i) (sf i) = 0 ∧ InI (nf i)) (h' : ∀ i, i < n → VCheck (kf' i) (nf' i) (sf' i) = 0 ∧ InI (nf' i)) :
    ordB (keyB kf nf sf m) (keyB kf' nf' sf' n) = firstNZ (fun i => VCmp (kf i) (nf i) (sf i) (kf' i) (nf' i) (sf' i)) (cmpI m n) 0 (min m n) := by
  rw [keyB_list, keyB_list]
  have := ord_keys (vlist kf nf sf m) (vlist kf' nf' sf' n) (vlist_mem _ _ _ _ h) (vlist_mem _ _ _ _ h') kf nf kf' nf' sf sf' 0
    (fun j v hv => by rw [Nat.zero_add]; exact vlist_at _ _ _ _ _ _ hv) (fun j v hv => by rw [Nat.zero_add]; exact vlist_at _ _ _ _ _ _ hv)
  rw [vlist_length, vlist_length] at this
  exact this
theorem keys_begin (kf nf : Nat → Int) (sf : Nat → ByteArray) (m : Nat) : (keyB kf nf sf (m + 1)).take (keyB kf nf sf m).length = keyB kf nf sf m := by
  show (keyB kf nf sf m ++ _).take _ = _
  rw [List.take_append_of_le_length (Nat.le_refl _), List.take_length]
/-- the keys of two lists one behind the other -/
theorem keys_join (l r : List Vt) : keyL (l ++ r) = keyL l ++ keyL r := keyL_app l r
theorem vb_lt (k n : Int) (s : ByteArray) (h : 0 ≤ k ∧ k ≤ 4) : ∀ x ∈ vb k n s, x < 256 := by
  have he : ∀ t : List Nat, (∀ x ∈ t, x < 256) → ∀ x ∈ esc t, x < 256 := by
    intro t
    induction t with
    | nil => intro _ x hx; cases hx
    | cons c t ih =>
      intro ht x hx
      unfold esc at hx
      rcases List.mem_append.1 hx with hx | hx
      · split at hx
        · simp only [List.mem_cons, List.not_mem_nil, or_false] at hx; omega
        · rw [List.mem_singleton] at hx; subst hx; exact ht _ (List.mem_cons_self ..)
      · exact ih (fun y hy => ht y (List.mem_cons_of_mem _ hy)) x hx
  intro x hx
  unfold vb at hx
  rcases List.mem_cons.1 hx with rfl | hx
  · omega
  · split at hx
    · rw [List.mem_singleton] at hx; omega
    · split at hx
      · exact be8_lt _ x hx
      · split at hx
        · exact be8_lt _ x hx
        · split at hx
          · rcases List.mem_append.1 hx with hx | hx
            · exact he _ (sl_lt s) x hx
            · simp only [List.mem_cons, List.not_mem_nil, or_false] at hx; omega
          · cases hx
theorem keyB_lt (kf nf : Nat → Int) (sf : Nat → ByteArray) : ∀ m, (∀ i, i < m → 0 ≤ kf i ∧ kf i ≤ 4) → ∀ x ∈ keyB kf nf sf m, x < 256
  | 0, _, x, hx => by cases hx
  | m + 1, h, x, hx => by
    rcases List.mem_append.1 hx with hx | hx
    · exact keyB_lt kf nf sf m (fun i hi => h i (by omega)) x hx
    · exact vb_lt _ _ _ (h m (by omega)) x hx

/-! what comes behind -/
theorem all255 : ∀ (t o : List Nat), (∀ x ∈ t, x = 255) → (∀ x ∈ o, x < 256) → ordB o t ≠ -1 → o.take t.length = t
  | [], o, _, _, _ => by simp
  | c :: t, [], _, _, h => absurd rfl h
  | c :: t, y :: o, h1, h2, h => by
    have hc := h1 c (List.mem_cons_self ..)
    have hy := h2 y (List.mem_cons_self ..)
    rw [ordB_cons] at h
    by_cases q : y < c
    · rw [if_pos q] at h; exact absurd rfl h
    · rw [if_neg q, if_neg (by omega)] at h
      rw [List.length_cons, List.take_succ_cons, show y = c by omega, all255 t o (fun x hx => h1 x (List.mem_cons_of_mem _ hx)) (fun x hx => h2 x (List.mem_cons_of_mem _ hx)) h]
theorem beh_parts {l : List Nat} (h : stripN l l.length ≠ 0) : ∃ p x t, l = p ++ x :: t ∧ x ≠ 255 ∧ (∀ y ∈ t, y = 255) ∧ behB l = p ++ [x + 1] := by
  obtain ⟨k, hk⟩ : ∃ k, stripN l l.length = k + 1 := ⟨stripN l l.length - 1, by omega⟩
  have hle := stripN_le l l.length
  have hlt : k < l.length := by omega
  have hx : l[k]? = some l[k] := List.getElem?_eq_getElem hlt
  refine ⟨l.take k, l[k], l.drop (k + 1), ?_, ?_, ?_, behB_of hk hx⟩
  · rw [← List.drop_eq_getElem_cons hlt, List.take_append_drop]
  · intro e
    exact stripN_at l _ k hk (by rw [hx, e])
  · intro y hy
    obtain ⟨i, hi⟩ := List.getElem?_of_mem hy
    rw [List.getElem?_drop] at hi
    have hil : k + 1 + i < l.length := (List.getElem?_eq_some_iff.1 hi).1
    have := stripN_255 l l.length (k + 1 + i) (by omega) hil
    rw [hi] at this
    exact Option.some.inj this
theorem beh1 {l : List Nat} (h : stripN l l.length ≠ 0) (more : List Nat) : ordB (l ++ more) (behB l) = -1 := by
  obtain ⟨p, x, t, e, _, _, hb⟩ := beh_parts h
  rw [hb, e, List.append_assoc, ordB_same]
  show ordB (x :: (t ++ more)) [x + 1] = -1
  rw [ordB_cons, if_pos (by omega)]
theorem beh2_aux : ∀ (p : List Nat) (x : Nat) (t o : List Nat), x ≠ 255 → (∀ y ∈ t, y = 255) → (∀ y ∈ o, y < 256) → o.take (p ++ x :: t).length ≠ p ++ x :: t → ordB o (p ++ x :: t) ≠ -1 → 0 ≤ ordB o (p ++ [x + 1])
  | [], x, t, [], _, _, _, _, h => absurd rfl h
  | [], x, t, y :: o, h1, h2, h3, h4, h => by
    have hy := h3 y (List.mem_cons_self ..)
    show 0 ≤ ordB (y :: o) [x + 1]
    have h' : ordB (y :: o) (x :: t) ≠ -1 := h
    rw [ordB_cons] at h' ⊢
    by_cases a : y < x
    · rw [if_pos a] at h'; exact absurd rfl h'
    · rw [if_neg a] at h'
      by_cases b : x < y
      · rw [if_neg (by omega)]
        by_cases c : x + 1 < y
        · rw [if_pos c]; decide
        · rw [if_neg c]
          cases o <;> simp [ordB]
      · rw [if_neg b] at h'
        have e : y = x := by omega
        subst e
        have := all255 t o h2 (fun z hz => h3 z (List.mem_cons_of_mem _ hz)) h'
        exfalso
        apply h4
        show (y :: o).take (t.length + 1) = y :: t
        rw [List.take_succ_cons, this]
  | c :: p, x, t, [], _, _, _, _, h => absurd rfl h
  | c :: p, x, t, y :: o, h1, h2, h3, h4, h => by
    have h' : ordB (y :: o) (c :: (p ++ x :: t)) ≠ -1 := h
    show 0 ≤ ordB (y :: o) (c :: (p ++ [x + 1]))
    rw [ordB_cons] at h' ⊢
    by_cases a : y < c
    · rw [if_pos a] at h'; exact absurd rfl h'
    · rw [if_neg a] at h' ⊢
      by_cases b : c < y
      · rw [if_pos b]; decide
      · rw [if_neg b] at h' ⊢
        have e : y = c := by omega
        subst e
        refine beh2_aux p x t o h1 h2 (fun z hz => h3 z (List.mem_cons_of_mem _ hz)) (fun q => h4 ?_) h'
        show (y :: o).take ((p ++ x :: t).length + 1) = y :: (p ++ x :: t)
        rw [List.take_succ_cons, q]
theorem beh2 {l : List Nat} (h : stripN l l.length ≠ 0) (o : List Nat) (h3 : ∀ y ∈ o, y < 256) (h4 : o.take l.length ≠ l) (h5 : ordB o l ≠ -1) : 0 ≤ ordB o (behB l) := by
  obtain ⟨p, x, t, e, e1, e2, hb⟩ := beh_parts h
  rw [hb]
  rw [e] at h4 h5
  exact beh2_aux p x t o e1 e2 h3 h4 h5

end Go.Proofs.YtmmchhlfbhbigaaDoor

namespace Go.Proofs.YtmmchhlfbhbigaaDoor
set_option maxRecDepth 100000
open Go.RowKit Go.Joins Go.ChangeShapes Go.WideShapes
set_option linter.unusedVariables false

/-- new bytes that a call answers: nil, or a slice of its own -/
def OutB (w : World) (B : Nat) (v : Value) (l : List Nat) : Prop := (v = .slice none 0 0 ∧ l = []) ∨ OwB w B v l
theorem OutB.below {w w' : World} {B : Nat} {v : Value} {l : List Nat} (h : OutB w B v l) (hb : Below w.heap.size w w') : OutB w' B v l := h.imp id (fun x => x.below hb)
theorem OutB.str {w : World} {B : Nat} {v : Value} {l : List Nat} (h : OutB w B v l) : (convert 30 9 v).run Tryd.prog w = .ok (.string (strB l)) w := by
  rcases h with ⟨rfl, rfl⟩ | h
  · exact run_convert_bytes_nil w 30 5 Tryd.underlying30 Tryd.underlying5 0 0 9 Tryd.underlying9
  · exact str_own h
theorem OwB.caps {w : World} {base g n cap : Nat} {l : List Nat} (h : OwB w base (.slice (some ⟨g, 0, none⟩) n cap) l) : l.length ≤ cap ∧ cap ≤ maxLen := by
  rcases h.1.2 with ⟨e, _⟩ | ⟨g', cap', cur, e, _, _, hn, hc, _⟩
  · cases e
  · injection e with e1 e2 e3
    subst e3
    exact ⟨hn, hc⟩
theorem OutB.form {w : World} {B : Nat} {v : Value} {l : List Nat} (h : OutB w B v l) (hl : ∀ x ∈ l, x < 256) : ∃ (a : Option Addr) (g cap : Nat), v = .slice a l.length cap ∧ (l.length = 0 ∨ a = some ⟨g, 0, none⟩) ∧ IsB w g 0 l ∧ l.length ≤ cap ∧ cap ≤ maxLen := by
  rcases h with ⟨rfl, rfl⟩ | h
  · exact ⟨none, 0, 0, rfl, .inl rfl, ⟨fun h => absurd h (by simp), fun i x hx => absurd hx (by simp), fun x hx => absurd hx (by simp)⟩, Nat.le_refl _, by decide⟩
  · obtain ⟨g, cap, rfl, hg, _⟩ := h.isB hl
    exact ⟨_, g, cap, rfl, .inr rfl, hg, h.caps⟩
/-- bytes that stay: the text of them, from a world on -/
def CvS (w : World) (v : Value) (s : ByteArray) : Prop := ∀ w', Below w.heap.size w w' → (convert 30 9 v).run Tryd.prog w' = .ok (.string s) w'
theorem OutB.cvs {w : World} {B : Nat} {v : Value} {l : List Nat} (h : OutB w B v l) : CvS w v (strB l) := fun w' hb => (h.below hb).str
theorem CvS.now {w : World} {v : Value} {s : ByteArray} (h : CvS w v s) : (convert 30 9 v).run Tryd.prog w = .ok (.string s) w := h w (Below.refl _ _)
theorem CvS.step {w w1 : World} {v : Value} {s : ByteArray} (h : CvS w v s) (hb : Below w.heap.size w w1) : CvS w1 v s := fun w' hb' => h w' (hb.trans (hb'.mono hb.size))
/-- new values that a call answers -/
def OutV (w : World) (B : Nat) (v : Value) (l : List Vt) : Prop := (v = .slice none 0 0 ∧ l = []) ∨ OwV w B v l
theorem OutV.below {w w' : World} {B : Nat} {v : Value} {l : List Vt} (h : OutV w B v l) (hb : Below w.heap.size w w') : OutV w' B v l := h.imp id (fun x => x.below hb)
theorem OutV.form {w : World} {B : Nat} {v : Value} {l : List Vt} (h : OutV w B v l) : ∃ (a : Option Addr) (g cap : Nat), v = .slice a l.length cap ∧ (l.length = 0 ∨ a = some ⟨g, 0, none⟩) ∧ IsV w g 0 l.length (kF l) (nF l) (sF l) ∧ (0 < l.length → B ≤ g) := by
  rcases h with ⟨rfl, rfl⟩ | h
  · exact ⟨none, 0, 0, rfl, .inl rfl, ⟨fun h => absurd h (by simp), fun i hi => absurd hi (by simp), fun i hi => absurd hi (by simp), fun i hi => absurd hi (by simp)⟩, fun h => absurd h (by simp)⟩
  · obtain ⟨g, cap, e, hb, hg⟩ := h.isV
    exact ⟨_, g, cap, e, .inr rfl, hg, fun _ => hb⟩
/-- an outcome of Decode -/
def DecR (W : World) (X : List Vt × Int) (e : Ending) (w' : World) : Prop :=
  ∃ v, e = .returned (.tuple #[v, .int .i64 X.2]) ∧ (X.2 = 0 → OutV w' W.heap.size v X.1) ∧ (X.2 ≠ 0 → ∃ a c, v = .slice a 0 c) ∧ Below W.heap.size W w'
theorem DecOk.decR {W : World} {X : List Vt × Int} {e : Ending} {w' : World} (h : DecOk W X e w') : DecR W X e w' := by
  obtain ⟨v, h1, h2, h3, h4⟩ := h
  exact ⟨v, h1, fun h => .inr (h2 h), h3, h4⟩

theorem decF_len : ∀ (n : Nat) (l : List Nat), l.length ≤ n → (decF n l).1.length ≤ l.length
  | 0, l, h => by
    have : l = [] := List.length_eq_zero_iff.1 (by omega)
    subst this
    exact Nat.le_refl _
  | n + 1, [], _ => Nat.le_refl _
  | n + 1, c :: r, h => by
    rw [List.length_cons] at h
    have hl := decOne_len c r
    have ih := decF_len n (decOne (c :: r)).2.2 (by omega)
    show (if (decOne (c :: r)).1 = 0 then vcons (decOne (c :: r)).2.1 (decF n (decOne (c :: r)).2.2) else ([], (decOne (c :: r)).1)).1.length ≤ _
    split
    · unfold vcons
      split
      · simp only [List.length_cons]; omega
      · simp
    · simp
theorem decK_len (l : List Nat) : (decK l).1.length ≤ l.length := decF_len _ l (Nat.le_refl _)
/-- an outcome of Decode, as a slice -/
theorem DecR.form {W : World} {X : List Vt × Int} {e : Ending} {w' : World} (h : DecR W X e w') (hX : X.2 ≠ 0 → X.1 = []) :
    ∃ (a : Option Addr) (g cap : Nat), e = .returned (.tuple #[.slice a X.1.length cap, .int .i64 X.2]) ∧ (X.1.length = 0 ∨ a = some ⟨g, 0, none⟩) ∧ IsV w' g 0 X.1.length (kF X.1) (nF X.1) (sF X.1) ∧
      (0 < X.1.length → W.heap.size ≤ g ∧ w'.ownsRow W.heap.size 134 3 (.slice a X.1.length cap) X.1.length (vlcells X.1)) ∧ Below W.heap.size W w' := by
  obtain ⟨v, rfl, h2, h3, h4⟩ := h
  by_cases c : X.2 = 0
  · have ho := h2 c
    obtain ⟨a, g, cap, rfl, f1, f2, f3⟩ := ho.form
    refine ⟨a, g, cap, rfl, f1, f2, fun hn => ⟨f3 hn, ?_⟩, h4⟩
    rcases ho with ⟨_, e0⟩ | ho
    · rw [e0] at hn; exact absurd hn (by simp)
    · exact ho.1
  · obtain ⟨a, cap, rfl⟩ := h3 c
    have e0 := hX c
    refine ⟨a, 0, cap, by rw [e0]; rfl, .inl (by rw [e0]; rfl), ?_, fun hn => by rw [e0] at hn; exact absurd hn (by simp), h4⟩
    rw [e0]
    exact ⟨fun h => absurd h (by simp), fun i hi => absurd hi (by simp), fun i hi => absurd hi (by simp), fun i hi => absurd hi (by simp)⟩

theorem vlist_kF : ∀ (l : List Vt), vlist (kF l) (nF l) (sF l) l.length = l := by
  intro l
  apply List.ext_getElem?
  intro i
  by_cases hi : i < l.length
  · unfold vlist
    rw [List.getElem?_map, List.getElem?_range hi]
    rw [List.getElem?_eq_getElem hi]
    simp [kF, nF, sF, List.getD_eq_getElem?_getD, List.getElem?_eq_getElem hi]
  · rw [List.getElem?_eq_none (by rw [vlist_length]; omega), List.getElem?_eq_none (by omega)]
theorem keyB_L (l : List Vt) : keyB (kF l) (nF l) (sF l) l.length = keyL l := by rw [keyB_list, vlist_kF]

end Go.Proofs.YtmmchhlfbhbigaaDoor

namespace Go.Proofs.YtmmchhlfbhbigaaDoor
set_option maxRecDepth 100000
open Go.RowKit Go.Joins Go.ChangeShapes Go.WideShapes
set_option linter.unusedVariables false

/-- the number of a real's place -/
def plV (n : Int) : Int := if n = -9223372036854775808 then 0 else PCanon n
def turnV (n : Int) : Int := if n < 0 then -1 - n else n + 9223372036854775808
theorem place_0 {n : Int} (hi : InI n) : POrder n 0 = 0 ↔ n = 0 ∨ n = -9223372036854775808 := by
  have h0 : PPlace 0 = 0 := by decide +kernel
  have hp : PPlace n = 0 ↔ n = 0 ∨ n = -9223372036854775808 := by
    constructor
    · intro h
      unfold PPlace at h
      by_cases c : rnan (ub n) = true
      · rw [if_pos c] at h; exact absurd h (by decide)
      · rw [if_neg c] at h
        have hr : rg (ub n) = 0 := by
          unfold pl at h
          split at h <;> omega
        unfold rg ub at hr
        unfold InI at hi
        rw [IntKind.wrap_u64] at hr
        omega
    · rintro (rfl | rfl)
      · exact h0
      · decide +kernel
  rw [← hp]
  unfold POrder
  rw [h0]
  constructor
  · intro h
    split at h
    · exact absurd h (by decide)
    · split at h
      · exact absurd h (by decide)
      · omega
  · intro h
    rw [h, if_neg (by decide), if_neg (by decide)]
theorem plV_eq {n : Int} (hi : InI n) : plV n = if POrder n 0 = 0 then 0 else PCanon n := by
  unfold plV
  by_cases c : n = -9223372036854775808
  · rw [if_pos c, if_pos ((place_0 hi).2 (.inr c))]
  · rw [if_neg c]
    by_cases d : n = 0
    · subst d
      rw [if_pos ((place_0 hi).2 (.inl rfl))]
      decide +kernel
    · rw [if_neg (fun e => by rcases (place_0 hi).1 e with h | h; exact d h; exact c h)]
theorem plV_in {n : Int} (hi : InI n) : InI (plV n) := by
  unfold plV
  split
  · unfold InI; decide
  · exact pcanon_in hi
theorem turn_plV {n : Int} (hi : InI n) (h : n = PCanon n) : turnV (plV n) = risV n := by
  unfold plV risV
  by_cases c : n = -9223372036854775808
  · rw [if_pos c, if_pos c]; rfl
  · rw [if_neg c, if_neg c, ← h]; rfl
theorem turn_in {n : Int} (h : InI n) : 0 ≤ turnV n ∧ turnV n < 18446744073709551616 := by
  unfold InI at h
  unfold turnV
  split <;> omega
theorem xor_top (a : Nat) (ha : a < 18446744073709551616) : bits .xor .u64 (a : Int) 9223372036854775808 = ((if a < 9223372036854775808 then a + 9223372036854775808 else a - 9223372036854775808 : Nat) : Int) := by
  rw [show (9223372036854775808 : Int) = ((9223372036854775808 : Nat) : Int) from rfl, u64_xor_nat a 9223372036854775808 ha (by decide)]
  have := ng_eq a ha
  unfold ng at this
  rw [← this]
theorem xor_all (a : Nat) (ha : a < 18446744073709551616) : bits .xor .u64 18446744073709551615 (a : Int) = 18446744073709551615 - (a : Int) := by
  unfold bits
  dsimp only
  rw [IntKind.wrap_u64, BitVec.toNat_xor]
  have h1 : (BitVec.ofInt IntKind.u64.bits (a : Int)).toNat = a := by
    rw [BitVec.toNat_ofInt]
    show ((a : Int) % 18446744073709551616).toNat = a
    omega
  have h2 : (BitVec.ofInt IntKind.u64.bits 18446744073709551615).toNat = 2 ^ 64 - 1 := by decide
  rw [h1, h2]
  have h3 : (2 ^ 64 - 1) ^^^ a = 2 ^ 64 - 1 - a := by
    apply Nat.eq_of_testBit_eq
    intro i
    rw [Nat.testBit_xor, Nat.testBit_two_pow_sub_one, Nat.sub_sub, Nat.add_comm 1 a, Nat.testBit_two_pow_sub_succ (by omega)]
    by_cases c : i < 64
    · simp [c]
    · have : a.testBit i = false := Nat.testBit_lt_two_pow (Nat.lt_of_lt_of_le ha (Nat.pow_le_pow_right (n := 2) (by decide) (show 64 ≤ i by omega)))
      simp [c, this]
  rw [h3]
  omega

theorem placed_any (n : Int) (hi : InI n) (w : World) :
    Calls Tryd.prog 127 #[.int .i64 n] w fun e w' => e = .returned (.int .i64 (plV n)) ∧ w = w' := by
  rw [plV_eq hi, ← order_eq, ← canon_eq hi]
  have HO := Lib.hid (order_any n 0)
  have HC := Lib.hid (canon_any n)
  by_cases c : ROrder n 0 = 0
  · rw [if_pos c]
    rw [c] at HO
    clear c
    go_enter Tryd.func127, Tryd.ntmps127
    go_wp2_with (first | (go_at_call 148; refine (HO.out _).mono ?_; rintro e w' ⟨rfl, rfl⟩))
    go_ret
    exact ⟨rfl, rfl⟩
  · rw [if_neg c]
    have c1 : (ROrder n 0 == 0) = false := by simpa using c
    generalize ROrder n 0 = r at *
    generalize RCanon n = q at *
    go_enter Tryd.func127, Tryd.ntmps127
    go_wp2_with (first | (go_at_call 148; refine (HO.out _).mono ?_; rintro e w' ⟨rfl, rfl⟩) | (go_at_call 149; refine (HC.out _).mono ?_; rintro e w' ⟨rfl, rfl⟩))
    go_ret
    exact ⟨rfl, rfl⟩

theorem turn_any (n : Int) (hi : InI n) (w : World) :
    Calls Tryd.prog 126 #[.int .i64 n] w fun e w' => e = .returned (.int .u64 (turnV n)) ∧ w = w' := by
  obtain ⟨h1, h2⟩ := hi
  unfold turnV
  by_cases b : n < 0
  · rw [if_pos b]
    obtain ⟨a, ha⟩ : ∃ a : Nat, n + 18446744073709551616 = a := ⟨(n + 18446744073709551616).toNat, by omega⟩
    have c1 : IntKind.u64.wrap n = (a : Int) := by rw [IntKind.wrap_u64]; omega
    have c2 := xor_all a (by omega)
    have c3 : (18446744073709551615 : Int) - (a : Int) = -1 - n := by omega
    rw [c3] at c2
    clear c3 ha h1 h2
    go_enter Tryd.func126, Tryd.ntmps126
    go_wp2
    go_ret
    refine ⟨ret_i ?_, rfl⟩
    first | rfl | assumption | (simp [*]; done) | (simp [go_sem, *]; done) | (simp_all; done)
  · rw [if_neg b]
    have b' : decide (n < 0) = false := by simpa using b
    obtain ⟨a, ha⟩ : ∃ a : Nat, n = a := ⟨n.toNat, by omega⟩
    have c1 : IntKind.u64.wrap n = (a : Int) := by rw [IntKind.wrap_u64]; omega
    have c2 := xor_top a (by omega)
    rw [if_pos (by omega)] at c2
    have c3 : ((a + 9223372036854775808 : Nat) : Int) = n + 9223372036854775808 := by omega
    rw [c3] at c2
    clear c3 ha h1 h2
    go_enter Tryd.func126, Tryd.ntmps126
    go_wp2
    go_ret
    refine ⟨ret_i ?_, rfl⟩
    first | rfl | assumption | (simp [*]; done) | (simp [go_sem, *]; done) | (simp_all; done)

end Go.Proofs.YtmmchhlfbhbigaaDoor
