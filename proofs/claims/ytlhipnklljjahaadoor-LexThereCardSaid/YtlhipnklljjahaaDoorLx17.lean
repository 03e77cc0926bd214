/-
  Lists of tokens as they lie in memory, and append onto them (layer 12).
  Conditions: none.
-/
import Derived.Test.YtlhipnklljjahaaDoorLx16
import Derived.ArgAppend
import Derived.Laws.AppendOwnNone
namespace Go.Proofs.YtlhipnklljjahaaDoor
set_option maxRecDepth 100000
open Go.RowKit Go.Joins Go.ChangeShapes Go.WideShapes
set_option linter.unusedVariables false
set_option linter.unusedSimpArgs false

def tkcells : List Tk → List Value
  | [] => []
  | t :: r => [.int .i64 (t.kind : Int), .string (strB t.text), .int .i64 (t.num : Int), .int .i64 (t.scale : Int)] ++ tkcells r
theorem tkcells_length (l : List Tk) : (tkcells l).length = l.length * 4 := by
  induction l with
  | nil => rfl
  | cons v r ih => simp [tkcells, ih]; omega
theorem tkcells_app (l r : List Tk) : tkcells (l ++ r) = tkcells l ++ tkcells r := by
  induction l with
  | nil => rfl
  | cons v l ih => simp only [List.cons_append, tkcells, ih, List.append_assoc]
theorem tkcells_at (l : List Tk) (i : Nat) (p : Tk) (h : l[i]? = some p) : (tkcells l)[i * 4]? = some (.int .i64 (p.kind : Int)) ∧ (tkcells l)[i * 4 + 1]? = some (.string (strB p.text)) ∧ (tkcells l)[i * 4 + 2]? = some (.int .i64 (p.num : Int)) ∧ (tkcells l)[i * 4 + 3]? = some (.int .i64 (p.scale : Int)) := by
  induction l generalizing i with
  | nil => simp at h
  | cons u l ih =>
    unfold tkcells
    cases i with
    | zero =>
      simp only [List.getElem?_cons_zero, Option.some.injEq] at h
      subst h
      exact ⟨rfl, rfl, rfl, rfl⟩
    | succ i =>
      rw [List.getElem?_cons_succ] at h
      obtain ⟨h1, h2, h3, h4⟩ := ih i h
      have e : ∀ j, ([Value.int .i64 (u.kind : Int), .string (strB u.text), .int .i64 (u.num : Int), .int .i64 (u.scale : Int)] ++ tkcells l)[(i + 1) * 4 + j]? = (tkcells l)[i * 4 + j]? := by
        intro j
        rw [List.getElem?_append_right (by simp; omega)]
        congr 1
        simp
        omega
      exact ⟨(e 0).trans h1, (e 1).trans h2, (e 2).trans h3, (e 3).trans h4⟩
theorem tkcells_one : ∀ (l : List Tk), ∀ u ∈ tkcells l, u.oneCell' = true
  | [], u, hu => by cases hu
  | p :: l, u, hu => by
    unfold tkcells at hu
    rcases List.mem_append.1 hu with h | h
    · simp only [List.mem_cons, List.not_mem_nil, or_false] at h
      rcases h with rfl | rfl | rfl | rfl <;> rfl
    · exact tkcells_one l u h
/-- a list of tokens of the call's own: all behind B -/
def OwT (w : World) (B : Nat) (v : Value) (l : List Tk) : Prop := w.ownsRow B 29 4 v l.length (tkcells l)
theorem OwT.cases {w : World} {B : Nat} {v : Value} {l : List Tk} (h : OwT w B v l) : (v = .slice none 0 0 ∧ l = []) ∨
    ∃ (g cap : Nat) (cur : List Value), v = .slice (some ⟨g, 0, none⟩) l.length cap ∧ B ≤ g ∧ w.heap[g]? = some (.cells cur.toArray 29 (0, 0)) ∧ l.length ≤ cap ∧ cap ≤ maxLen ∧ cur.length = cap * 4 ∧ cur.take (l.length * 4) = tkcells l := by
  rcases h.2 with ⟨rfl, e⟩ | ⟨g, cap, cur, rfl, hb, hg, hn, hc, hs, ht⟩
  · exact .inl ⟨rfl, List.eq_nil_of_length_eq_zero e⟩
  · exact .inr ⟨g, cap, cur.toList, rfl, hb, by simpa using hg, hn, hc, by simpa using hs, ht⟩
theorem OwT.nil (w : World) (B : Nat) : OwT w B (.slice none 0 0) [] := World.ownsRow_nil w B _ 4
theorem OwT.le {w : World} {B B' : Nat} {v : Value} {l : List Tk} (h : OwT w B v l) (hb : B' ≤ B) : OwT w B' v l := ownsRow_le h hb
theorem Frm.owT {F : Bl} {w w1 : World} (h : Frm F w w1) {B : Nat} {v : Value} {l : List Tk} (ho : OwT w B v l) (hf : ∀ k, v.ownBlock = some k → ¬ F k) : OwT w1 B v l := h.ownsRow ho hf
theorem OwT.below {w w' : World} {B : Nat} {v : Value} {l : List Tk} (h : OwT w B v l) (hb : Below w.heap.size w w') : OwT w' B v l := (h : w.ownsRow B _ 4 v l.length (tkcells l)).kept (row := none) ⟨hb.os, hb.tape, hb.output, hb.size, fun i hi _ => hb.block i hi⟩ (by cases v.ownBlock <;> simp)
/-- the list's form, and where its cells lie -/
theorem OwT.form {w : World} {B : Nat} {v : Value} {l : List Tk} (h : OwT w B v l) : ∃ a cap, v = .slice a l.length cap ∧ (a = none ∧ l = [] ∧ cap = 0 ∨ ∃ g, a = some ⟨g, 0, none⟩ ∧ B ≤ g ∧ g < w.heap.size ∧ (∀ o, w.frozen? ⟨g, o, none⟩ = false) ∧ ∀ j u, (tkcells l)[j]? = some u → w.cell? ⟨g, j, none⟩ = some u) := by
  rcases h.cases with ⟨rfl, rfl⟩ | ⟨g, cap, cur, rfl, hb, hg, hn, hc, hs, ht⟩
  · exact ⟨none, 0, rfl, .inl ⟨rfl, rfl, rfl⟩⟩
  · refine ⟨_, cap, rfl, .inr ⟨g, rfl, hb, (Array.getElem?_eq_some_iff.1 hg).1, fun o => unfrozen_of_block hg o, fun j u hj => ?_⟩⟩
    rw [cell_of_block hg j]
    rw [← ht, List.getElem?_take] at hj
    split at hj
    · simpa using hj
    · cases hj
theorem infoTk : (Tryd.prog.info? 29).map (fun i => (i.zero, i.size, i.bytes)) = some (some (.agg #[.int .i64 0, .string ByteArray.empty, .int .i64 0, .int .i64 0]), 4, 40) := by kernel_rfl
/-- append onto a list of tokens of the call's own -/
theorem wp_pushT {ops : Array Oper} {rest : List Oper} {o : Oper} {a : Act} {w : World} {Q : Exit → Act → World → Prop} (hgd : o.guard = none) (s x : Operand)
    (ho : o.op = .call { callee := .builtin .append, args := #[s, x], argTypes := #[23, 23] })
    (B : Nat) (v : Value) (l : List Tk) (hs : a.eval s = v) (hown : OwT w B v l) (hB : B ≤ w.heap.size) (ad : Addr) (m c : Nat) (rs : List Tk) (hm : rs.length = m) (hx : a.eval x = .slice (some ad) m c)
    (hnews : ∀ j u, (tkcells rs)[j]? = some u → w.cell? (ad.add j) = some u) (hsz : l.length + m ≤ 4294967297)
    (h : ∀ v' w', OwT w' B v' (l ++ rs) → w.grownBy w' v.ownBlock → wpList Tryd.prog ops Q rest (a.put o.dst v') w') : wpList Tryd.prog ops Q (o :: rest) a w := by
  obtain ⟨i0, hi, hz0, hz1, hz2⟩ := info_parts infoTk
  refine wpList_append_own w hgd s x _ ho B 29 i0 _ 4 40 Tryd.underlying23 hi hz0 hz1 hz2 rfl (by decide) v l.length (tkcells l) hs hown ad m c (tkcells rs) hx (by rw [tkcells_length, hm]) hnews (tkcells_one rs) (by unfold maxLen; omega) (by omega) hB ?_
  intro v' w' h1 h2 h3
  refine h v' w' ?_ h2
  unfold OwT
  rw [tkcells_app, List.length_append, hm]
  exact h1
/-- append of nothing -/
theorem wp_pushT0 {ops : Array Oper} {rest : List Oper} {o : Oper} {a : Act} {w : World} {Q : Exit → Act → World → Prop} (hgd : o.guard = none) (s x : Operand)
    (ho : o.op = .call { callee := .builtin .append, args := #[s, x], argTypes := #[23, 23] })
    (B : Nat) (v : Value) (l : List Tk) (hs : a.eval s = v) (hown : OwT w B v l) (hx : a.eval x = .slice none 0 0)
    (h : wpList Tryd.prog ops Q rest (a.put o.dst v) w) : wpList Tryd.prog ops Q (o :: rest) a w := by
  obtain ⟨i0, hi, hz0, hz1, hz2⟩ := info_parts infoTk
  exact wpList_append_own_none hgd s x _ ho B 29 i0 4 Tryd.underlying23 hi v l.length (tkcells l) hs hown hx h
theorem newsT (w : World) (t : Tk) : ∀ j x, (tkcells [t])[j]? = some x → (w.alloc (.cells #[.int .i64 (t.kind : Int), .string (strB t.text), .int .i64 (t.num : Int), .int .i64 (t.scale : Int)] 29)).cell? ((⟨w.heap.size, 0, none⟩ : Addr).add j) = some x :=
  World.news_of_block (cs := #[.int .i64 (t.kind : Int), .string (strB t.text), .int .i64 (t.num : Int), .int .i64 (t.scale : Int)]) (heap_alloc_new w _)
/-- a token that lies in a block of its own -/
theorem newsTk {w : World} {g : Nat} {t : Tk} (hg : w.heap[g]? = some (.cells #[.int .i64 (t.kind : Int), .string (strB t.text), .int .i64 (t.num : Int), .int .i64 (t.scale : Int)] 29 (0, 0))) : ∀ j x, (tkcells [t])[j]? = some x → w.cell? ((⟨g, 0, none⟩ : Addr).add j) = some x :=
  World.news_of_block (cs := #[.int .i64 (t.kind : Int), .string (strB t.text), .int .i64 (t.num : Int), .int .i64 (t.scale : Int)]) hg
/-- the state of a loop that makes a list of tokens -/
structure EnT (W w : World) (B : Nat) (v : Value) (l : List Tk) : Prop where
  own : OwT w B v l
  bel : Below B W w
  sz : B ≤ w.heap.size
theorem EnT.step {W w w' : World} {B : Nat} {v : Value} {l : List Tk} (h : EnT W w B v l) (hb : Below w.heap.size w w') : EnT W w' B v l := ⟨h.own.below hb, h.bel.trans (hb.mono h.sz), Nat.le_trans h.sz hb.size⟩
theorem EnT.alloc {W w : World} {B : Nat} {v : Value} {l : List Tk} (h : EnT W w B v l) (o : Obj) : EnT W (w.alloc o) B v l := h.step ((Below.refl _ _).alloc (Nat.le_refl _) _)
theorem EnT.push {W w w' : World} {B : Nat} {v v' : Value} {l l' : List Tk} (h : EnT W w B v l) (ho : OwT w' B v' l') (hg : w.grownBy w' v.ownBlock) : EnT W w' B v' l' :=
  ⟨ho, h.bel.grown hg h.sz (fun k hk => (h.own.lt k hk).1), Nat.le_trans h.sz hg.size⟩
theorem EnT.nil (W : World) : EnT W W W.heap.size (.slice none 0 0) [] := ⟨OwT.nil _ _, Below.refl _ _, Nat.le_refl _⟩
theorem EnT.made (W w : World) (B : Nat) (hb : Below B W w) (hs : B ≤ w.heap.size) : EnT W (w.alloc (.cells #[] 29)) B (.slice (some ⟨w.heap.size, 0, none⟩) 0 0) [] :=
  ⟨World.ownsRow_made w #[] 0 hs (by decide) rfl, hb.alloc hs _, by simp; exact Nat.le_succ_of_le hs⟩

end Go.Proofs.YtlhipnklljjahaaDoor
