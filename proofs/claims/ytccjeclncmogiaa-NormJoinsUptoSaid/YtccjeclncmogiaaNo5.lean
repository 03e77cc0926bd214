/-
  Boxes, codes loaded and stored, an element of a row of the call's own stored, a row cloned (layer 18).
  Conditions: none.
-/
import Derived.Test.YtccjeclncmogiaaNo3
import Derived.Test.YtccjeclncmogiaaKp
import Derived.Deep.MidRow
import Derived.Shelf.Abstract
import Derived.Laws.AppendOwnNone
import Derived.Deep.QuietTactic
namespace Go.Proofs.Ytccjeclncmogiaa
open Go.RowKit Go.Joins Go.ChangeShapes Go.WideShapes
set_option linter.unusedVariables false
set_option linter.unusedSimpArgs false

/-- a block of these cells -/
def Bx (w : World) (g : Nat) (cs : Array Value) (T : TypeId) : Prop := w.heap[g]? = some (.cells cs T (0, 0))
theorem Bx.lt {w : World} {g : Nat} {cs : Array Value} {T : TypeId} (h : Bx w g cs T) : g < w.heap.size := (Array.getElem?_eq_some_iff.1 h).1
theorem Bx.cell {w : World} {g : Nat} {cs : Array Value} {T : TypeId} (h : Bx w g cs T) {o : Nat} {v : Value} (hv : cs[o]? = some v) : w.cell? ⟨g, o, none⟩ = some v := by rw [cell_of_block h]; exact hv
theorem Bx.frz {w : World} {g : Nat} {cs : Array Value} {T : TypeId} (h : Bx w g cs T) (o : Nat) : w.frozen? ⟨g, o, none⟩ = false := unfrozen_of_block h o
theorem Bx.below {w w1 : World} {g : Nat} {cs : Array Value} {T : TypeId} (h : Bx w g cs T) (hb : Below w.heap.size w w1) : Bx w1 g cs T := (hb.block g h.lt).trans h
theorem Bx.new (w : World) (cs : Array Value) (T : TypeId) : Bx (w.alloc (.cells cs T)) w.heap.size cs T := heap_alloc_new w _
theorem box_set {w : World} {g : Nat} {cs : Array Value} {ty : TypeId} {fz : Nat × Nat} (hb : w.heap[g]? = some (.cells cs ty fz)) (o : Nat) (u : Value) : (w.setCell ⟨g, o, none⟩ u).heap[g]? = some (.cells (cs.setIfInBounds o u) ty fz) := by
  rw [setCell_eq_setRow w g o _ _ _ _ hb, setRow_heap w g _ _ _ _ hb]
theorem setc_frm {F : Bl} {w : World} {g : Nat} (hg : F g ∨ w.heap.size ≤ g) : ∀ (l : List Value) (o : Nat) {w1 : World}, Frm F w w1 → Frm F w (w1.setCells g o l)
  | [], _, _, f => f
  | v :: r, o, w1, f => setc_frm hg r (o + 1) (f.setCell hg o v)
theorem setc_box {g : Nat} {T : TypeId} : ∀ (l : List Value) (o : Nat) {w : World} {cs : Array Value}, Bx w g cs T → o + l.length ≤ cs.size → ∃ ds : Array Value, Bx (w.setCells g o l) g ds T ∧ ds.size = cs.size ∧ (∀ j, j < o → ds[j]? = cs[j]?) ∧ (∀ j, j < l.length → ds[o + j]? = l[j]?) ∧ ∀ j, o + l.length ≤ j → ds[j]? = cs[j]?
  | [], o, w, cs, hb, _ => ⟨cs, hb, rfl, fun _ _ => rfl, fun j hj => absurd hj (Nat.not_lt_zero j), fun _ _ => rfl⟩
  | v :: r, o, w, cs, hb, hl => by
    rw [List.length_cons] at hl
    obtain ⟨ds, h1, h2, h3, h4, h5⟩ := setc_box r (o + 1) (box_set hb o v) (by simp; omega)
    have hsz : (cs.setIfInBounds o v).size = cs.size := by simp
    refine ⟨ds, h1, h2.trans hsz, fun j hj => ?_, fun j hj => ?_, fun j hj => ?_⟩
    · rw [h3 j (by omega), Array.getElem?_setIfInBounds]
      rw [if_neg (by omega)]
    · cases j with
      | zero =>
        rw [Nat.add_zero, h3 o (by omega), Array.getElem?_setIfInBounds, if_pos rfl, if_pos (by omega)]
        rfl
      | succ j =>
        rw [List.length_cons] at hj
        have := h4 j (by omega)
        rw [show o + (j + 1) = o + 1 + j by omega, this]
        rfl
    · rw [List.length_cons] at hj
      rw [h5 j (by omega), Array.getElem?_setIfInBounds]
      rw [if_neg (by omega)]
/-- the whole box stored -/
theorem setc_all {w : World} {g : Nat} {T : TypeId} {cs : Array Value} (hb : Bx w g cs T) (l : List Value) (hl : l.length = cs.size) : Bx (w.setCells g 0 l) g l.toArray T := by
  obtain ⟨ds, h1, h2, -, h4, -⟩ := setc_box l 0 hb (by omega)
  have : ds = l.toArray := by
    apply Array.ext_getElem?
    intro i
    by_cases c : i < l.length
    · have := h4 i c
      rw [Nat.zero_add] at this
      rw [this, List.getElem?_toArray]
    · rw [Array.getElem?_eq_none (by omega), Array.getElem?_eq_none (by simp; omega)]
  rw [← this]
  exact h1
/-- one more element, as it lies in a box that was just made -/
theorem one_new {P : Program} {α : Type} (K : RK P α) (w : World) (x : α) (cs : Array Value) (hcs : cs.toList = K.enc x) : ∀ j u, (K.cells [x])[j]? = some u → (w.alloc (.cells cs K.te)).cell? ((⟨w.heap.size, 0, none⟩ : Addr).add j) = some u := by
  have := OwR.made_cells (K := K) w [x]
  rw [K.cells_one, ← hcs] at this
  rw [K.cells_one, ← hcs]
  simpa using this
theorem wpLd {ops : Array Oper} {rest : List Oper} {o : Oper} {a : Act} {w : World} {Q : Exit → Act → World → Prop} {T : TypeId} (hgd : o.guard = none) (x : Operand) (ho : o.op = .load T x) {p v : Value} (hx : a.eval x = p)
    (hld : (Instr.loadAt T p).run Try.prog w = .ok v w) (h : wpList Try.prog ops Q rest (a.put o.dst v) w) : wpList Try.prog ops Q (o :: rest) a w :=
  wpList_plain hgd fun _ hK => by
    unfold Oper.wp execOp
    simp only [ho, hx, Sem.run_bind, Sem.run_pure, Result.andThen_ok, hld]
    exact hK _ _ h
theorem wpSt {ops : Array Oper} {rest : List Oper} {o : Oper} {a : Act} {w wz : World} {Q : Exit → Act → World → Prop} {T : TypeId} (hgd : o.guard = none) (x y : Operand) (ho : o.op = .store T x y) {p v : Value} (hx : a.eval x = p) (hy : a.eval y = v)
    (hst : (Instr.storeAt T p v).run Try.prog w = .ok () wz) (h : wpList Try.prog ops Q rest (a.put o.dst undef) wz) : wpList Try.prog ops Q (o :: rest) a w :=
  wpList_plain hgd fun _ hK => by
    unfold Oper.wp execOp
    simp only [ho, hx, hy, Sem.run_bind, Sem.run_pure, Result.andThen_ok, hst]
    exact hK _ _ h
theorem wpLdG {ops : Array Oper} {rest : List Oper} {o : Oper} {a : Act} {w : World} {Q : Exit → Act → World → Prop} {T : TypeId} (hw : Region.wanted o (yielded ops a.tmps) = true) (x : Operand) (ho : o.op = .load T x) {p v : Value} (hx : a.eval x = p)
    (hld : (Instr.loadAt T p).run Try.prog w = .ok v w) (h : wpList Try.prog ops Q rest (a.put o.dst v) w) : wpList Try.prog ops Q (o :: rest) a w :=
  wpList_step fun _ hK => by
    rw [if_pos hw]
    unfold Oper.wp execOp
    simp only [ho, hx, Sem.run_bind, Sem.run_pure, Result.andThen_ok, hld]
    exact hK _ _ h


theorem Bx.frm' {w w1 : World} {g g' : Nat} {cs : Array Value} {T : TypeId} (h : Bx w g cs T) (f : Frm (fun k => k = g') w w1) (hg : g ≠ g') : Bx w1 g cs T := (f.heap h.lt hg).trans h
theorem infoC : (Try.prog.info? 26).map (·.size) = some 8 := by kernel_rfl
theorem rowC : ∃ d, Try.prog.underlying 26 = some d ∧ d.isRow = true := ⟨_, Try.underlying26, rfl⟩
/-- the cells of no code -/
abbrev zc8 : Array Value := #[.int .i64 0, .int .i64 0, .slice none 0 0, .int .i64 0, .int .i64 0, .string ⟨#[]⟩, .int .i64 0, .int .i64 0]
/-- a code loaded -/
theorem ld_C {w : World} {b o : Nat} {x : XC} (h : ∀ j u, x.enc[j]? = some u → w.cell? ⟨b, o + j, none⟩ = some u) : (Instr.loadAt 26 (.pointer (some ⟨b, o, none⟩))).run Try.prog w = .ok x.val w := by
  obtain ⟨d, h1, h2⟩ := rowC
  rw [XC.val_eq, XC.encA_eq]
  exact run_loadAt_mid w b o 26 x.enc d (fun j v hj => h j v hj) h1 h2 (by rw [XC.enc_len]; exact infoC)
theorem XC.at_box {w : World} {g : Nat} {x : XC} (h : Bx w g x.encA 26) : ∀ j u, x.enc[j]? = some u → w.cell? ⟨g, 0 + j, none⟩ = some u := fun j u hj => by
  rw [Nat.zero_add]
  exact h.cell (by rw [XC.encA_eq]; simpa using hj)
/-- a code stored into its box -/
theorem st_C {w : World} {g : Nat} {cs : Array Value} (hb : Bx w g cs 26) (hcs : cs.size = 8) (x : XC) : ∃ wz, (Instr.storeAt 26 (.pointer (some ⟨g, 0, none⟩)) x.val).run Try.prog w = .ok () wz ∧ Frm (fun k => k = g) w wz ∧ Bx wz g x.encA 26 := by
  rw [XC.val_eq, XC.encA_eq]
  refine ⟨_, run_storeAt_mid (P := Try.prog) w g 0 26 x.enc.toArray (fun j hj => ?_) (by rw [infoC]; simp [XC.enc_len]) (all_oneCell_toArray x.enc_one), ?_, ?_⟩
  · rw [Nat.zero_add]
    have hj' : j < 8 := by simpa [XC.enc_len] using hj
    exact ⟨by rw [cell_of_block hb, Array.getElem?_eq_getElem (by rw [hcs]; exact hj')]; rfl, hb.frz j⟩
  · exact setc_frm (F := fun k => k = g) (.inl rfl) _ _ (Frm.refl _ _)
  · exact setc_all hb _ (by simp [XC.enc_len, hcs])
/-- a code stored into a new box -/
theorem put_C (w : World) (x : XC) : ∃ wz, (Instr.storeAt 26 (.pointer (some ⟨w.heap.size, 0, none⟩)) x.val).run Try.prog (w.alloc (.cells zc8 26)) = .ok () wz ∧ Below w.heap.size w wz ∧ Bx wz w.heap.size x.encA 26 := by
  obtain ⟨wz, h1, h2, h3⟩ := st_C (Bx.new w zc8 26) rfl x
  refine ⟨wz, h1, ?_, h3⟩
  have b1 : Below w.heap.size w (w.alloc (.cells zc8 26)) := (Below.refl _ _).alloc (Nat.le_refl _) _
  exact ((Frm.of_below (F := fun _ => False) b1).trans h2 (fun k hk => .inr (Nat.le_of_eq hk.symm))).nothing
theorem retC {R : Ending → World → Prop} {fn : Func} {k : Nat} (hr : fn.results = #[.cell k 26]) {a : Act} {w : World} {g : Nat} {u0 u1 u2 u3 u4 u5 u6 u7 : Value} (hb : Bx w g #[u0, u1, u2, u3, u4, u5, u6, u7] 26)
    (h2 : a.tmps[k]?.getD undef = .pointer (some ⟨g, 0, none⟩)) (hd : a.defers = []) (hR : R (.returned (.agg #[u0, u1, u2, u3, u4, u5, u6, u7])) w) : bodyPost Try.prog fn R .ret a w := by
  have z0 : w.cell? ⟨g, 0, none⟩ = some u0 := hb.cell rfl
  have z1 : w.cell? ⟨g, 1, none⟩ = some u1 := hb.cell rfl
  have z2 : w.cell? ⟨g, 2, none⟩ = some u2 := hb.cell rfl
  have z3 : w.cell? ⟨g, 3, none⟩ = some u3 := hb.cell rfl
  have z4 : w.cell? ⟨g, 4, none⟩ = some u4 := hb.cell rfl
  have z5 : w.cell? ⟨g, 5, none⟩ = some u5 := hb.cell rfl
  have z6 : w.cell? ⟨g, 6, none⟩ = some u6 := hb.cell rfl
  have z7 : w.cell? ⟨g, 7, none⟩ = some u7 := hb.cell rfl
  exact bodyPost_ret (v := .agg #[u0, u1, u2, u3, u4, u5, u6, u7]) (by simp [results, hr, go_sem, z0, z1, z2, z3, z4, z5, z6, z7, h2]) hd hR
theorem retB {R : Ending → World → Prop} {fn : Func} {k m : Nat} (hr : fn.results = #[.cell k 30, .tmp m]) {a : Act} {w : World} {g : Nat} {b : Bool} {u0 u1 u2 u3 u4 u5 u6 u7 u8 u9 : Value} (hb : Bx w g #[u0, u1, u2, u3, u4, u5, u6, u7, u8, u9] 30)
    (h2 : a.tmps[k]?.getD undef = .pointer (some ⟨g, 0, none⟩)) (h3 : a.tmps[m]?.getD undef = .bool b) (hd : a.defers = []) (hR : R (.returned (.tuple #[.agg #[u0, u1, u2, u3, u4, u5, u6, u7, u8, u9], .bool b])) w) : bodyPost Try.prog fn R .ret a w := by
  have z0 : w.cell? ⟨g, 0, none⟩ = some u0 := hb.cell rfl
  have z1 : w.cell? ⟨g, 1, none⟩ = some u1 := hb.cell rfl
  have z2 : w.cell? ⟨g, 2, none⟩ = some u2 := hb.cell rfl
  have z3 : w.cell? ⟨g, 3, none⟩ = some u3 := hb.cell rfl
  have z4 : w.cell? ⟨g, 4, none⟩ = some u4 := hb.cell rfl
  have z5 : w.cell? ⟨g, 5, none⟩ = some u5 := hb.cell rfl
  have z6 : w.cell? ⟨g, 6, none⟩ = some u6 := hb.cell rfl
  have z7 : w.cell? ⟨g, 7, none⟩ = some u7 := hb.cell rfl
  have z8 : w.cell? ⟨g, 8, none⟩ = some u8 := hb.cell rfl
  have z9 : w.cell? ⟨g, 9, none⟩ = some u9 := hb.cell rfl
  exact bodyPost_ret (v := .tuple #[.agg #[u0, u1, u2, u3, u4, u5, u6, u7, u8, u9], .bool b]) (by simp [results, hr, go_sem, z0, z1, z2, z3, z4, z5, z6, z7, z8, z9, h2, h3]) hd hR
theorem cells_set {P : Program} {α : Type} (K : RK P α) (l : List α) (i : Nat) (y : α) (hi : i < l.length) (p : Nat) : (K.cells (l.set i y))[p]? = if i * K.n ≤ p ∧ p < i * K.n + K.n then (K.enc y)[p - i * K.n]? else (K.cells l)[p]? := by
  have hn := K.pos
  by_cases hp : p < l.length * K.n
  · have hq : p / K.n < l.length := Nat.div_lt_of_lt_mul (by rw [Nat.mul_comm]; exact hp)
    have hr : p % K.n < K.n := Nat.mod_lt _ hn
    have hpd : p / K.n * K.n + p % K.n = p := Nat.div_add_mod' p K.n
    have hx : l[p / K.n]? = some (l[p / K.n]'hq) := List.getElem?_eq_getElem hq
    by_cases c : p / K.n = i
    · have hx2 : (l.set i y)[p / K.n]? = some y := by rw [c, List.getElem?_set_self hi]
      have h2 := K.cells_at (l.set i y) (p / K.n) (p % K.n) y hx2 hr
      rw [hpd] at h2
      rw [h2, if_pos (by rw [← c]; omega)]
      congr 1
      rw [← c]; omega
    · have hx2 : (l.set i y)[p / K.n]? = some (l[p / K.n]'hq) := by rw [List.getElem?_set_ne (fun e => c e.symm)]; exact hx
      have h2 := K.cells_at (l.set i y) (p / K.n) (p % K.n) _ hx2 hr
      have h3 := K.cells_at l (p / K.n) (p % K.n) _ hx hr
      rw [hpd] at h2 h3
      rw [h2, h3, if_neg]
      rintro ⟨g1, g2⟩
      apply c
      have e1 : i ≤ p / K.n := (Nat.le_div_iff_mul_le hn).2 g1
      have e2 : p / K.n < i + 1 := (Nat.div_lt_iff_lt_mul hn).2 (by rw [Nat.add_mul]; omega)
      omega
  · have h1 : i * K.n + K.n ≤ l.length * K.n := by rw [← Nat.succ_mul]; exact Nat.mul_le_mul_right _ hi
    rw [List.getElem?_eq_none (by rw [K.cells_length, List.length_set]; omega), if_neg (by omega), List.getElem?_eq_none (by rw [K.cells_length]; omega)]
/-- an element of a row of the call's own stored -/
theorem OwR.put {P : Program} {α : Type} {K : RK P α} {w : World} {B : Nat} {v : Value} {l : List α} (h : OwR K w B v l) {i : Nat} (hi : i < l.length) (y : α) :
    ∃ g cap wz, v = .slice (some ⟨g, 0, none⟩) l.length cap ∧ B ≤ g ∧ g < w.heap.size ∧ (Instr.storeAt K.te (.pointer (some ⟨g, i * K.n, none⟩)) (.agg (K.enc y).toArray)).run P w = .ok () wz ∧ OwR K wz B v (l.set i y) ∧ Frm (fun k => k = g) w wz ∧ wz = w.setCells g (i * K.n) (K.enc y) := by
  rcases h.cases with ⟨-, rfl⟩ | ⟨g, cap, cur, rfl, hb, hg, hn, hc, hs, ht⟩
  · simp at hi
  · have hin : i * K.n + K.n ≤ l.length * K.n := by rw [← Nat.succ_mul]; exact Nat.mul_le_mul_right _ hi
    have hlc : l.length * K.n ≤ cur.length := by rw [hs]; exact Nat.mul_le_mul_right _ hn
    have hlen := K.len y
    obtain ⟨ds, h1, h2, h3, h4, h5⟩ := setc_box (K.enc y) (i * K.n) (show Bx w g cur.toArray K.te from hg) (by rw [hlen]; simp; omega)
    refine ⟨g, cap, _, rfl, hb, (Array.getElem?_eq_some_iff.1 hg).1, run_storeAt_mid (P := P) w g (i * K.n) K.te (K.enc y).toArray (fun j hj => ?_) ?_ (all_oneCell_toArray (K.one y)), ?_, ?_, by simp⟩
    · have hj' : j < K.n := by rw [← hlen]; simpa using hj
      exact ⟨by rw [cell_of_block hg, Array.getElem?_eq_getElem (by simp; omega)]; rfl, unfrozen_of_block hg _⟩
    · obtain ⟨i0, q1, q2, q3, q4⟩ := K.parts
      rw [q1]
      simp [q3, hlen]
    · have hd : ds = ds.toList.toArray := by simp
      have hh : (w.setCells g (i * K.n) (K.enc y)).heap[g]? = some (.cells ds.toList.toArray K.te (0, 0)) := by rw [← hd]; exact h1
      have := OwR.mk (K := K) (l := l.set i y) (cap := cap) hb hh (by rw [List.length_set]; exact hn) hc (by rw [Array.length_toList, h2]; simpa using hs) (by
        apply List.ext_getElem?
        intro p
        rw [cells_set K l i y hi p, List.length_set, List.getElem?_take]
        split
        · rename_i hp
          split
          · rename_i hr
            have := h4 (p - i * K.n) (by rw [hlen]; omega)
            rw [show i * K.n + (p - i * K.n) = p by omega] at this
            rw [← this]; simp
          · rename_i hr
            rw [← ht, List.getElem?_take, if_pos hp]
            by_cases c : p < i * K.n
            · have := h3 p c
              simpa using this
            · have := h5 p (by rw [hlen]; omega)
              simpa using this
        · rename_i hp
          split
          · omega
          · rw [List.getElem?_eq_none (by rw [K.cells_length]; omega)])
      rw [List.length_set] at this
      exact this
    · have := setc_frm (F := fun k => k = g) (w := w) (g := g) (.inl rfl) (K.enc y) (i * K.n) (Frm.refl _ _)
      simpa using this
/-- a row of the call's own as a code's operands -/
theorem OwR.row {w : World} {B : Nat} {v : Value} {l : List XC} (h : OwR ck w B v l) {K : Bl} (hm : XC.MemL K w l) (hk : ∀ k, v.ownBlock = some k → K k) : ∃ a cap, v = .slice a l.length cap ∧ XC.Row K w a cap l := by
  rcases h.cases with ⟨rfl, rfl⟩ | ⟨g, cap, cur, rfl, hb, hg, hn, hc, hs, ht⟩
  · refine ⟨none, 0, rfl, ?_⟩
    unfold XC.Row XC.Mem
    exact ⟨Nat.le_refl _, by decide, .inl rfl, hm⟩
  · refine ⟨_, cap, rfl, ?_⟩
    unfold XC.Row XC.Mem
    refine ⟨hn, hc, .inr ⟨g, 0, rfl, hk g rfl, (Array.getElem?_eq_some_iff.1 hg).1, fun j u hj => ?_⟩, hm⟩
    have hj' : j < l.length * 8 := by
      have h1 := (List.getElem?_eq_some_iff.1 hj).1
      have h2 : (XC.encL l).length = l.length * 8 := RK.cells_length ck l
      omega
    have ht' : cur.take (l.length * 8) = XC.encL l := ht
    rw [Nat.zero_add, cell_of_block hg]
    rw [← ht', List.getElem?_take, if_pos hj'] at hj
    simpa using hj

end Go.Proofs.Ytccjeclncmogiaa
