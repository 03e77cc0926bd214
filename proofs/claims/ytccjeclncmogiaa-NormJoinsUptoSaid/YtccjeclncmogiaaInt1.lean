/-
  Lists of whole numbers in memory, those that came in and those of a call's own, cut at either end, and append onto them.
  Conditions: none.
-/
import Derived.Test.YtccjeclncmogiaaFrm
import Derived.Test.YtccjeclncmogiaaKp
import Derived.BigQuiet
import Derived.Deep.RegionLaw
import Derived.Deep.AppendLies
import Derived.ArgAppend
import Derived.Laws.AppendOwnNone
namespace Go.Proofs.Ytccjeclncmogiaa
open Go.RowKit Go.Joins Go.ChangeShapes Go.WideShapes
set_option linter.unusedVariables false
set_option linter.unusedSimpArgs false

/-- whole numbers in memory -/
structure IsN (w : World) (b off : Nat) (l : List Int) : Prop where
  hb : 0 < l.length → b < w.heap.size
  c : ∀ (i : Nat) (x : Int), l[i]? = some x → w.cell? ⟨b, off + i, none⟩ = some (.int .i64 x)
theorem IsN.below {w w' : World} {b off : Nat} {l : List Int} (h : IsN w b off l) (hw : Below w.heap.size w w') : IsN w' b off l := by
  obtain ⟨hc, _⟩ := bcell hw
  refine ⟨fun hl => Nat.lt_of_lt_of_le (h.hb hl) hw.size, fun i x hx => ?_⟩
  have hl : 0 < l.length := by have := (List.getElem?_eq_some_iff.1 hx).1; omega
  rw [hc _ _ (h.hb hl)]
  exact h.c i x hx
theorem Frm.isN {F : Bl} {w w1 : World} (h : Frm F w w1) {b off : Nat} {l : List Int} (hb : IsN w b off l) (hf : 0 < l.length → ¬ F b) : IsN w1 b off l := by
  refine ⟨fun hl => Nat.lt_of_lt_of_le (hb.hb hl) h.size, fun i x hx => ?_⟩
  have hl : 0 < l.length := by have := (List.getElem?_eq_some_iff.1 hx).1; omega
  rw [h.cell (hb.hb hl) (hf hl)]
  exact hb.c i x hx
theorem IsN.drop {w : World} {b off : Nat} {l : List Int} (h : IsN w b off l) (n : Nat) : IsN w b (off + n) (l.drop n) :=
  ⟨fun hl => h.hb (by rw [List.length_drop] at hl; omega), fun i x hx => by rw [List.getElem?_drop] at hx; rw [Nat.add_assoc]; exact h.c _ x hx⟩
theorem IsN.nil (w : World) (b off : Nat) : IsN w b off [] := ⟨fun h => absurd h (by simp), fun i x hx => by simp at hx⟩
def icells (l : List Int) : List Value := l.map fun n : Int => .int .i64 n
theorem icells_length (l : List Int) : (icells l).length = l.length := by simp [icells]
theorem icells_app (l r : List Int) : icells (l ++ r) = icells l ++ icells r := List.map_append
theorem icells_at {l : List Int} {i : Nat} {x : Int} (h : l[i]? = some x) : (icells l)[i]? = some (.int .i64 x) := by simp only [icells, List.getElem?_map, h, Option.map_some]
theorem icells_take (l : List Int) (n : Nat) : icells (l.take n) = (icells l).take n := by simp [icells, List.map_take]
theorem icells_drop (l : List Int) (n : Nat) : icells (l.drop n) = (icells l).drop n := by simp [icells, List.map_drop]
theorem icells_set (l : List Int) (n : Nat) (x : Int) : icells (l.set n x) = (icells l).set n (.int .i64 x) := by simp [icells, List.map_set]

/-- a list of values of one cell each, in memory of the call's own -/
def QR (w : World) (B : Nat) (e : TypeId) (v : Value) (xs : List Value) : Prop :=
  (v = .slice none 0 0 ∧ xs = []) ∨ ∃ g o cap cur, v = .slice (some ⟨g, o, none⟩) xs.length cap ∧ B ≤ g ∧ w.heap[g]? = some (.cells cur e (0, 0)) ∧ xs.length ≤ cap ∧ cap ≤ maxLen ∧ o + cap ≤ cur.size ∧ ∀ i u, xs[i]? = some u → cur[o + i]? = some u
theorem QR.nil (w : World) (B : Nat) (e : TypeId) : QR w B e (.slice none 0 0) [] := .inl ⟨rfl, rfl⟩
theorem QR.of_own {w : World} {B : Nat} {e : TypeId} {v : Value} {n : Nat} {xs : List Value} (h : w.ownsRow B e 1 v n xs) : QR w B e v xs := by
  obtain ⟨h1, h2⟩ := h
  rw [Nat.mul_one] at h1
  subst h1
  rcases h2 with ⟨rfl, e⟩ | ⟨g, cap, cur, rfl, hb, hg, hn, hc, hs, ht⟩
  · exact .inl ⟨rfl, List.eq_nil_of_length_eq_zero e⟩
  · refine .inr ⟨g, 0, cap, cur, rfl, hb, hg, hn, hc, by omega, fun i u hu => ?_⟩
    rw [← ht, List.getElem?_take] at hu
    split at hu
    · rw [Nat.zero_add]; simpa using hu
    · cases hu
theorem QR.made {w : World} {B : Nat} (hB : B ≤ w.heap.size) (e : TypeId) (cs : List Value) (hm : cs.length ≤ maxLen) : QR (w.alloc (.cells cs.toArray e)) B e (.slice (some ⟨w.heap.size, 0, none⟩) cs.length cs.length) cs :=
  .inr ⟨_, 0, cs.length, _, rfl, hB, heap_alloc_new w _, Nat.le_refl _, hm, by simp, fun i u hu => by simpa using hu⟩
theorem QR.le {w : World} {B B' : Nat} {e : TypeId} {v : Value} {xs : List Value} (h : QR w B e v xs) (hb : B' ≤ B) : QR w B' e v xs := by
  rcases h with h | ⟨g, o, cap, cur, h1, h2, h3⟩
  · exact .inl h
  · exact .inr ⟨g, o, cap, cur, h1, Nat.le_trans hb h2, h3⟩
theorem QR.lt {w : World} {B : Nat} {e : TypeId} {v : Value} {xs : List Value} (h : QR w B e v xs) : ∀ k, v.ownBlock = some k → B ≤ k ∧ k < w.heap.size := by
  intro k hk
  rcases h with ⟨rfl, _⟩ | ⟨g, o, cap, cur, rfl, h2, h3, _⟩
  · simp [Value.ownBlock] at hk
  · simp only [Value.ownBlock, Option.some.injEq] at hk
    subst hk
    exact ⟨h2, (Array.getElem?_eq_some_iff.1 h3).1⟩
theorem QR.step {w w1 : World} {F : Bl} {B : Nat} {e : TypeId} {v : Value} {xs : List Value} (h : QR w B e v xs) (hf : Frm F w w1) (hv : ∀ k, v.ownBlock = some k → ¬ F k) : QR w1 B e v xs := by
  rcases h with h | ⟨g, o, cap, cur, rfl, h2, h3, h4⟩
  · exact .inl h
  · exact .inr ⟨g, o, cap, cur, rfl, h2, (hf.heap (Array.getElem?_eq_some_iff.1 h3).1 (hv g rfl)).trans h3, h4⟩
theorem QR.below {w w1 : World} {B : Nat} {e : TypeId} {v : Value} {xs : List Value} (h : QR w B e v xs) (hb : Below w.heap.size w w1) : QR w1 B e v xs := h.step (F := fun _ => False) (Frm.of_below hb) (fun _ _ h => h)
theorem QR.form {w : World} {B : Nat} {e : TypeId} {v : Value} {xs : List Value} (h : QR w B e v xs) : ∃ a cap, v = .slice a xs.length cap ∧ xs.length ≤ cap ∧ cap ≤ maxLen ∧ (a = none ∧ xs = [] ∧ cap = 0 ∨ ∃ g o, a = some ⟨g, o, none⟩ ∧ B ≤ g ∧ g < w.heap.size ∧ (∀ i, w.frozen? ⟨g, i, none⟩ = false) ∧ ∀ i u, xs[i]? = some u → w.cell? ⟨g, o + i, none⟩ = some u) := by
  rcases h with ⟨rfl, rfl⟩ | ⟨g, o, cap, cur, rfl, h2, h3, h4, h5, h6, h7⟩
  · exact ⟨none, 0, rfl, Nat.le_refl _, by decide, .inl ⟨rfl, rfl, rfl⟩⟩
  · exact ⟨_, cap, rfl, h4, h5, .inr ⟨g, o, rfl, h2, (Array.getElem?_eq_some_iff.1 h3).1, fun i => unfrozen_of_block h3 i, fun i u hu => by rw [cell_of_block h3 _]; exact h7 i u hu⟩⟩
/-- where it is not empty -/
theorem QR.at {w : World} {B : Nat} {e : TypeId} {v : Value} {xs : List Value} (h : QR w B e v xs) (hn : 0 < xs.length) : ∃ g o cap, v = .slice (some ⟨g, o, none⟩) xs.length cap ∧ xs.length ≤ cap ∧ cap ≤ maxLen ∧ B ≤ g ∧ g < w.heap.size ∧ (∀ i, w.frozen? ⟨g, i, none⟩ = false) ∧ ∀ i u, xs[i]? = some u → w.cell? ⟨g, o + i, none⟩ = some u := by
  obtain ⟨a, cap, rfl, h1, h2, ⟨-, rfl, -⟩ | ⟨g, o, rfl, h3⟩⟩ := h.form
  · simp at hn
  · exact ⟨g, o, cap, rfl, h1, h2, h3⟩
theorem QR.cut {w : World} {B : Nat} {e : TypeId} {a : Option Addr} {n cap : Nat} {xs : List Value} (h : QR w B e (.slice a n cap) xs) (m : Nat) (hm : m ≤ xs.length) : QR w B e (.slice a m cap) (xs.take m) := by
  rcases h with ⟨e1, rfl⟩ | ⟨g, o, c, cur, e1, h2, h3, h4, h5, h6, h7⟩
  · injection e1 with e1 e2 e3
    subst e1 e3
    have : m = 0 := by simpa using hm
    subst this
    exact .inl ⟨rfl, rfl⟩
  · injection e1 with e1 e2 e3
    subst e1 e2 e3
    have hl : (xs.take m).length = m := by rw [List.length_take]; omega
    refine .inr ⟨g, o, cap, cur, by rw [hl], h2, h3, by omega, h5, h6, fun i u hu => ?_⟩
    rw [List.getElem?_take] at hu
    split at hu
    · exact h7 i u hu
    · cases hu
theorem QR.drop {w : World} {B : Nat} {e : TypeId} {g o n cap : Nat} {xs : List Value} (h : QR w B e (.slice (some ⟨g, o, none⟩) n cap) xs) (m : Nat) (hm : m ≤ n) (o' : Nat) (ho : o' = o + m ∨ (o' = o ∧ cap = m)) : QR w B e (.slice (some ⟨g, o', none⟩) (n - m) (cap - m)) (xs.drop m) := by
  rcases h with ⟨e1, rfl⟩ | ⟨g', o1, c, cur, e1, h2, h3, h4, h5, h6, h7⟩
  · cases e1
  · injection e1 with e1 e2 e3
    injection e1 with e1
    injection e1 with e1 e4
    subst e1 e2 e3 e4
    have hl : (xs.drop m).length = xs.length - m := List.length_drop
    refine .inr ⟨g, o', cap - m, cur, by rw [hl], h2, h3, by omega, by omega, by omega, fun i u hu => ?_⟩
    rw [List.getElem?_drop] at hu
    rcases ho with rfl | ⟨rfl, rfl⟩
    · rw [Nat.add_assoc]; exact h7 _ u hu
    · have := (List.getElem?_eq_some_iff.1 hu).1; omega
theorem QR.set {w : World} {B : Nat} {e : TypeId} {g o n cap : Nat} {xs : List Value} (h : QR w B e (.slice (some ⟨g, o, none⟩) n cap) xs) (j : Nat) (x : Value) (hj : j < xs.length) : QR (w.setCell ⟨g, o + j, none⟩ x) B e (.slice (some ⟨g, o, none⟩) n cap) (xs.set j x) := by
  rcases h with ⟨e1, rfl⟩ | ⟨g', o1, c, cur, e1, h2, h3, h4, h5, h6, h7⟩
  · cases e1
  · injection e1 with e1 e2 e3
    injection e1 with e1
    injection e1 with e1 e4
    subst e1 e2 e3 e4
    refine .inr ⟨g, o, cap, cur.set (o + j) x (by omega), by rw [List.length_set], h2, ?_, by rw [List.length_set]; exact h4, h5, by simpa using h6, fun i u hu => ?_⟩
    · rw [setCell_eq_setRow w g (o + j) cur _ _ x h3, setRow_heap w g _ _ _ _ h3]
      simp [Array.setIfInBounds, show o + j < cur.size by omega]
    · rw [List.getElem?_set] at hu
      rw [Array.getElem?_set]
      by_cases c : j = i
      · subst c
        rw [if_pos rfl] at hu ⊢
        rw [if_pos hj] at hu
        exact hu
      · rw [if_neg c] at hu
        rw [if_neg (by omega)]
        exact h7 i u hu
/-- a list's other blocks stay, when one is lengthened -/
def NewO (w : World) (v v' : Value) : Prop := ∀ k, v'.ownBlock = some k → v.ownBlock = some k ∨ w.heap.size ≤ k
theorem QR.push {P : Program} {w : World} {B : Nat} {e : TypeId} {v : Value} {xs : List Value} (h : QR w B e v xs) (hB : B ≤ w.heap.size) {t ty : TypeId} {i : TypeInfo} {z : Value} (ht : P.underlying t = some (.slice e)) (hi : P.info? e = some i) (hz : i.zero = some z)
    (hs : i.size = 1) (hby : i.bytes ≤ 8) (hzs : z.cells.size = 1) (ad : Addr) (c : Nat) (x : Value) (hx : w.cell? ad = some x) (h1 : x.oneCell' = true) (hsz : xs.length + 1 ≤ 8796093022208) :
    ∃ v' w', (Builtin.append_ #[t, t] ty #[v, .slice (some ad) 1 c]).run P w = .ok v' w' ∧ QR w' B e v' (xs ++ [x]) ∧ w.grownBy w' v.ownBlock ∧ NewO w v v' := by
  have hnews : ∀ j u, [x][j]? = some u → w.cell? (ad.add j) = some u := by
    intro j u hj
    cases j with
    | zero =>
      simp at hj
      subst hj
      obtain ⟨b, o, s⟩ := ad
      have hsn : s = none := by simpa using World.cell?_spot hx
      subst hsn
      simpa [Addr.add] using hx
    | succ j => simp at hj
  have hml : xs.length + 1 ≤ maxLen := by unfold maxLen; omega
  have hb2 : (xs.length + 1) * i.bytes ≤ 140737488355328 := by
    have := Nat.mul_le_mul_left (xs.length + 1) hby
    omega
  have hone : ∀ u ∈ [x], u.oneCell' = true := by intro u hu; simp at hu; rw [hu]; exact h1
  rcases h with ⟨rfl, rfl⟩ | ⟨g, o, cap, cur, rfl, h2, h3, h4, h5, h6, h7⟩
  · obtain ⟨v', w', hr, g1, g2, g3⟩ := run_append_own (P := P) w w.heap.size t ty e i z 1 i.bytes ht hi hz hs rfl hzs (by decide) (.slice none 0 0) 0 [] (World.ownsRow_nil w _ e 1) ad 1 c [x] rfl hnews hone (by simpa using hml) (by simpa using hb2) (Nat.le_refl _)
    refine ⟨v', w', hr, (QR.of_own g1).le hB, g2, fun k hk => .inr (g1.lt k hk).1⟩
  · by_cases hroom : xs.length + 1 ≤ cap
    · have hcs : cur[o + xs.length]? = some (cur[o + xs.length]'(by omega)) := Array.getElem?_eq_getElem _
      have hr := run_append_room_cells (P := P) w t ty e i ht hi g o xs.length cap ad 1 c [x] (by simp [hs]) hnews hone hroom
        (fun j hj => by
          have hj0 : j = 0 := by simpa using hj
          subst hj0
          rw [hs, Nat.mul_one, Nat.add_zero, cell_of_block h3, hcs]; rfl) (fun j hj => unfrozen_of_block h3 _)
      refine ⟨_, _, hr, ?_, ?_, fun k hk => .inl hk⟩
      · have hw : w.setCells g (o + xs.length * i.size) [x] = w.setCell ⟨g, o + xs.length, none⟩ x := by rw [hs, Nat.mul_one]; rfl
        rw [hw]
        refine .inr ⟨g, o, cap, cur.set (o + xs.length) x (by omega), by simp, h2, ?_, by simpa using hroom, h5, by simpa using h6, fun i' u hu => ?_⟩
        · rw [setCell_eq_setRow w g (o + xs.length) cur _ _ x h3, setRow_heap w g _ _ _ _ h3]
          simp [Array.setIfInBounds, show o + xs.length < cur.size by omega]
        · rw [Array.getElem?_set]
          by_cases c : i' < xs.length
          · rw [List.getElem?_append_left c] at hu
            rw [if_neg (by omega)]
            exact h7 i' u hu
          · have hi' : i' = xs.length := by
              have := (List.getElem?_eq_some_iff.1 hu).1
              simp at this
              omega
            subst hi'
            rw [if_pos rfl]
            simpa using hu
      · refine ⟨rfl, rfl, rfl, by simp [World.setCells, World.setCell], fun k hk hne => ?_⟩
        exact heap_setCell_other w ⟨g, _, none⟩ k x (fun e => hne (by simp [Value.ownBlock, e]))
    · obtain ⟨v', w', hr, g1, g2⟩ := run_append_arg_grows (P := P) w t ty e i z 1 i.bytes ht hi hz hs rfl hzs (by decide) ⟨g, o, none⟩ xs.length cap xs (by simp)
        (fun j u hj => by
          have ea : (⟨g, o, none⟩ : Addr).add j = ⟨g, o + j, none⟩ := by unfold Addr.add; split <;> simp_all
          rw [ea, cell_of_block h3]
          exact h7 j u hj) ad 1 c [x] rfl hnews (by omega) hml hb2
      exact ⟨v', w', hr, (QR.of_own g1).le hB, ⟨g2.os, g2.tape, g2.output, g2.size, fun k hk _ => g2.block k hk (by simp)⟩, fun k hk => .inr (g1.lt k hk).1⟩

theorem infoI : (Try.prog.info? 3).map (fun i => (i.zero, i.size, i.bytes)) = some (some (.int .i64 0), 1, 8) := by kernel_rfl
theorem infoBl : (Try.prog.info? 4).map (fun i => (i.zero, i.size, i.bytes)) = some (some (.bool false), 1, 1) := by kernel_rfl
/-- whole numbers in memory of the call's own -/
def QI (w : World) (B : Nat) (v : Value) (l : List Int) : Prop := QR w B 3 v (icells l)
theorem QI.isN {w : World} {B : Nat} {v : Value} {l : List Int} (h : QI w B v l) : ∃ a b o cap, v = .slice a l.length cap ∧ l.length ≤ cap ∧ cap ≤ maxLen ∧ (l.length = 0 ∨ a = some ⟨b, o, none⟩) ∧ IsN w b o l := by
  obtain ⟨a, cap, e, h1, h2, h3⟩ := QR.form h
  rw [icells_length] at e h1
  rcases h3 with ⟨rfl, h4, -⟩ | ⟨g, o, rfl, -, h5, -, h6⟩
  · have : l = [] := by cases l with | nil => rfl | cons x l => simp [icells] at h4
    subst this
    exact ⟨none, 0, 0, cap, e, h1, h2, .inl rfl, IsN.nil _ _ _⟩
  · exact ⟨_, g, o, cap, e, h1, h2, .inr rfl, ⟨fun _ => h5, fun i x hx => h6 i _ (icells_at hx)⟩⟩
theorem wp_pushQ {ops : Array Oper} {rest : List Oper} {o : Oper} {a : Act} {w : World} {Q : Exit → Act → World → Prop} (hgd : o.guard = none) (s x : Operand)
    (ho : o.op = .call { callee := .builtin .append, args := #[s, x], argTypes := #[35, 35] })
    (B : Nat) (v : Value) (l : List Int) (hs : a.eval s = v) (hown : QI w B v l) (hB : B ≤ w.heap.size) (ad : Addr) (c : Nat) (y : Int) (hx : a.eval x = .slice (some ad) 1 c) (hy : w.cell? ad = some (.int .i64 y)) (hsz : l.length + 1 ≤ 8796093022208)
    (h : ∀ v' w', QI w' B v' (l ++ [y]) → w.grownBy w' v.ownBlock → NewO w v v' → wpList Try.prog ops Q rest (a.put o.dst v') w') : wpList Try.prog ops Q (o :: rest) a w := by
  obtain ⟨i0, hi, hz0, hz1, hz2⟩ := info_parts infoI
  obtain ⟨v', w', hr, g1, g2, g3⟩ := QR.push (P := Try.prog) (t := 35) (ty := o.type) hown hB Try.underlying35 hi hz0 hz1 (by omega) rfl ad c _ hy rfl (by rw [icells_length]; exact hsz)
  refine wpList_plain hgd fun K hK => ?_
  unfold Oper.wp
  simp [execOp, ho, resolve, invoke, builtin, hs, hx, hr, Result.andThen]
  refine hK _ _ (h v' w' ?_ g2 g3)
  unfold QI
  rw [icells_app]
  exact g1
theorem step_pushQ {ops : Array Oper} {o : Oper} {a : Act} {w : World} {K : Act → World → Prop} {Q : Exit → Act → World → Prop} {E : Prop} (hgd : o.guard = none) (s x : Operand)
    (ho : o.op = .call { callee := .builtin .append, args := #[s, x], argTypes := #[35, 35] })
    (B : Nat) (v : Value) (l : List Int) (hs : a.eval s = v) (hown : QI w B v l) (hB : B ≤ w.heap.size) (ad : Addr) (c : Nat) (y : Int) (hx : a.eval x = .slice (some ad) 1 c) (hy : w.cell? ad = some (.int .i64 y)) (hsz : l.length + 1 ≤ 8796093022208)
    (h : ∀ v' w', QI w' B v' (l ++ [y]) → w.grownBy w' v.ownBlock → NewO w v v' → K (a.put o.dst v') w') : if Region.wanted o (yielded ops a.tmps) = true then Oper.wp Try.prog o a w K Q else E := by
  have hw : Region.wanted o (yielded ops a.tmps) = true := by simp [Region.wanted, hgd]
  rw [if_pos hw]
  obtain ⟨i0, hi, hz0, hz1, hz2⟩ := info_parts infoI
  obtain ⟨v', w', hr, g1, g2, g3⟩ := QR.push (P := Try.prog) (t := 35) (ty := o.type) hown hB Try.underlying35 hi hz0 hz1 (by omega) rfl ad c _ hy rfl (by rw [icells_length]; exact hsz)
  unfold Oper.wp
  simp [execOp, ho, resolve, invoke, builtin, hs, hx, hr, Result.andThen]
  refine h v' w' ?_ g2 g3
  unfold QI
  rw [icells_app]
  exact g1
theorem QI.nil (w : World) (B : Nat) : QI w B (.slice none 0 0) [] := QR.nil w B _
theorem QI.below {w w1 : World} {B : Nat} {v : Value} {l : List Int} (h : QI w B v l) (hb : Below w.heap.size w w1) : QI w1 B v l := QR.below h hb
theorem QI.step {w w1 : World} {F : Bl} {B : Nat} {v : Value} {l : List Int} (h : QI w B v l) (hf : Frm F w w1) (hv : ∀ k, v.ownBlock = some k → ¬ F k) : QI w1 B v l := QR.step h hf hv
theorem QI.lt {w : World} {B : Nat} {v : Value} {l : List Int} (h : QI w B v l) : ∀ k, v.ownBlock = some k → B ≤ k ∧ k < w.heap.size := QR.lt h

end Go.Proofs.Ytccjeclncmogiaa
