/-
  Instructions of a plan as they lie in memory: rows that are read, an instruction loaded, stored into its box.
  Conditions: none.
-/
import Derived.Test.YtgndbhgpdcelpaaDoorGr1
import Derived.Deep.MidRow
import Derived.Shelf.Abstract
namespace Go.Proofs.YtgndbhgpdcelpaaDoor
set_option maxRecDepth 100000
open Go.RowKit Go.Joins Go.ChangeShapes Go.WideShapes
set_option linter.unusedVariables false
set_option linter.unusedSimpArgs false

/-- a slice as it stands in a cell -/
structure SlV where
  a : Option Addr
  n : Nat
  c : Nat
/-- an instruction -/
structure Ins where
  op : Int
  c : Int
  jt : Int
  mode : Int
  part : Int
  tab : ByteArray
  idx : Int
  lo : SlV
  hi : SlV
  lx : Bool
  hx : Bool
  e : SlV
  n : Int
  ds : SlV
def Ins.enc (x : Ins) : List Value := [.int .i64 x.op, .int .i64 x.c, .int .i64 x.jt, .int .i64 x.mode, .int .i64 x.part, .string x.tab, .int .i64 x.idx, .slice x.lo.a x.lo.n x.lo.c, .slice x.hi.a x.hi.n x.hi.c, .bool x.lx, .bool x.hx, .slice x.e.a x.e.n x.e.c, .int .i64 x.n, .slice x.ds.a x.ds.n x.ds.c]
def Ins.val (x : Ins) : Value := .agg #[.int .i64 x.op, .int .i64 x.c, .int .i64 x.jt, .int .i64 x.mode, .int .i64 x.part, .string x.tab, .int .i64 x.idx, .slice x.lo.a x.lo.n x.lo.c, .slice x.hi.a x.hi.n x.hi.c, .bool x.lx, .bool x.hx, .slice x.e.a x.e.n x.e.c, .int .i64 x.n, .slice x.ds.a x.ds.n x.ds.c]
theorem Ins.enc_len (x : Ins) : x.enc.length = 14 := rfl
theorem Ins.enc_one (x : Ins) : ∀ u ∈ x.enc, u.oneCell' = true := by
  intro u hu
  unfold Ins.enc at hu
  simp only [List.mem_cons, List.not_mem_nil, or_false] at hu
  rcases hu with rfl | rfl | rfl | rfl | rfl | rfl | rfl | rfl | rfl | rfl | rfl | rfl | rfl | rfl <;> rfl
/-- the kind of row -/
def KI : RK Tryd.prog Ins where
  enc := Ins.enc
  n := 14
  te := 33
  ts := 23
  bytes := 176
  z := .agg #[.int .i64 0, .int .i64 0, .int .i64 0, .int .i64 0, .int .i64 0, .string ⟨#[]⟩, .int .i64 0, .slice none 0 0, .slice none 0 0, .bool false, .bool false, .slice none 0 0, .int .i64 0, .slice none 0 0]
  len := Ins.enc_len
  one := Ins.enc_one
  pos := by decide
  by0 := by decide
  hu := Tryd.underlying23
  info := by kernel_rfl
  zc := rfl
theorem infoI : (Tryd.prog.info? 33).map (·.size) = some 14 := by kernel_rfl
/-- instructions that lie at a slice's row -/
structure RowA (w : World) (a : Option Addr) (l : List Ins) : Prop where
  b : ∃ b off, (l = [] ∨ a = some ⟨b, off, none⟩) ∧ (0 < l.length → b < w.heap.size) ∧ ∀ i x, l[i]? = some x → w.rangeAt b (off + i * 14) x.enc
theorem RowA.at {w : World} {a : Option Addr} {l : List Ins} (h : RowA w a l) {i : Nat} {x : Ins} (hx : l[i]? = some x) : ∃ b off, a = some ⟨b, off, none⟩ ∧ b < w.heap.size ∧ w.rangeAt b (off + i * 14) x.enc := by
  obtain ⟨b, off, h1, h2, h3⟩ := h.b
  rcases h1 with rfl | h1
  · simp at hx
  · exact ⟨b, off, h1, h2 (by have := (List.getElem?_eq_some_iff.1 hx).1; omega), h3 i x hx⟩
theorem RowA.below {w w1 : World} {a : Option Addr} {l : List Ins} (h : RowA w a l) (hb : Below w.heap.size w w1) : RowA w1 a l := by
  obtain ⟨b, off, h1, h2, h3⟩ := h.b
  refine ⟨b, off, h1, fun h => Nat.lt_of_lt_of_le (h2 h) hb.size, fun i x hx j v hv => ?_⟩
  have hl : b < w.heap.size := h2 (by have := (List.getElem?_eq_some_iff.1 hx).1; omega)
  exact (hb.cell (p := ⟨b, _, none⟩) hl).trans (h3 i x hx j v hv)
theorem RowA.nil (w : World) (a : Option Addr) : RowA w a [] := ⟨0, 0, .inl rfl, fun h => absurd h (by simp), fun i x hx => by simp at hx⟩
/-- what stands behind the first ones -/
theorem RowA.drop {w : World} {b off : Nat} {l : List Ins} (h : RowA w (some ⟨b, off, none⟩) l) (k : Nat) : RowA w (some ⟨b, off + k * 14, none⟩) (l.drop k) := by
  by_cases hk : k < l.length
  · obtain ⟨b', off', h1, h2, h3⟩ := h.b
    rcases h1 with rfl | h1
    · simp at hk
    · injection h1 with h1
      injection h1 with e1 e2
      subst e1 e2
      refine ⟨b, off + k * 14, .inr rfl, fun _ => h2 (by omega), fun i x hx => ?_⟩
      rw [List.getElem?_drop] at hx
      have := h3 (k + i) x hx
      rwa [show off + (k + i) * 14 = off + k * 14 + i * 14 by rw [Nat.add_mul]; omega] at this
  · rw [List.drop_of_length_le (by omega)]
    exact RowA.nil _ _
theorem RowA.own {w : World} {B : Nat} {v : Value} {l : List Ins} (h : OwR KI w B v l) : ∃ a c, v = .slice a l.length c ∧ RowA w a l := by
  rcases h.cases with ⟨rfl, rfl⟩ | ⟨g, cap, cur, rfl, hb, hg, hn, hc, hs, ht⟩
  · exact ⟨_, _, rfl, RowA.nil _ _⟩
  · refine ⟨_, _, rfl, g, 0, .inr rfl, fun _ => (Array.getElem?_eq_some_iff.1 hg).1, fun i x hx j u hu => ?_⟩
    obtain ⟨g', cap', e, -, -, -, -, h6, -⟩ := h.at hx
    injection e with e1 e2 e3
    injection e1 with e1
    injection e1 with e1 e4
    subst e1
    rw [Nat.zero_add]
    exact h6 j u hu
/-- a block of these cells -/
def Bx (w : World) (g : Nat) (cs : Array Value) (T : TypeId) : Prop := w.heap[g]? = some (.cells cs T (0, 0))
theorem Bx.lt {w : World} {g : Nat} {cs : Array Value} {T : TypeId} (h : Bx w g cs T) : g < w.heap.size := (Array.getElem?_eq_some_iff.1 h).1
theorem Bx.cell {w : World} {g : Nat} {cs : Array Value} {T : TypeId} (h : Bx w g cs T) {o : Nat} {v : Value} (hv : cs[o]? = some v) : w.cell? ⟨g, o, none⟩ = some v := by rw [cell_of_block h]; exact hv
theorem Bx.frz {w : World} {g : Nat} {cs : Array Value} {T : TypeId} (h : Bx w g cs T) (o : Nat) : w.frozen? ⟨g, o, none⟩ = false := unfrozen_of_block h o
theorem Bx.below {w w1 : World} {g : Nat} {cs : Array Value} {T : TypeId} (h : Bx w g cs T) (hb : Below w.heap.size w w1) : Bx w1 g cs T := (hb.block g h.lt).trans h
theorem Bx.new (w : World) (cs : Array Value) (T : TypeId) : Bx (w.alloc (.cells cs T)) w.heap.size cs T := heap_alloc_new w _
theorem box_set {w : World} {g : Nat} {cs : Array Value} {ty : TypeId} {fz : Nat × Nat} (hb : w.heap[g]? = some (.cells cs ty fz)) (o : Nat) (u : Value) : (w.setCell ⟨g, o, none⟩ u).heap[g]? = some (.cells (cs.setIfInBounds o u) ty fz) := by
  rw [setCell_eq_setRow w g o _ _ _ _ hb, setRow_heap w g _ _ _ _ hb]
theorem setc_frm {F : Bl} {w : World} {g : Nat} (hg : F g ∨ w.heap.size ≤ g) : ∀ (l : List Value) (o : Nat) {w1 : World}, Frm F w w1 → Frm F w (w1.setCells g o l)
  | [], _, _, f => f
  | v :: r, o, w1, f => setc_frm hg r (o + 1) (f.setCell hg o v)
theorem setc_box {g : Nat} {T : TypeId} : ∀ (l : List Value) (o : Nat) {w : World} {cs : Array Value}, Bx w g cs T → o + l.length ≤ cs.size → ∃ ds : Array Value, Bx (w.setCells g o l) g ds T ∧ ds.size = cs.size ∧ (∀ j, j < o → ds[j]? = cs[j]?) ∧ (∀ j, j < l.length → ds[o + j]? = l[j]?) ∧ ∀ j, o + l.length ≤ j → ds[j]? = cs[j]?
  | [], o, w, cs, hb, _ => ⟨cs, hb, rfl, fun _ _ => rfl, fun j hj => absurd hj (Nat.not_lt_zero j), fun _ _ => rfl⟩
  | v :: r, o, w, cs, hb, hl => by
    rw [List.length_cons] at hl
    obtain ⟨ds, h1, h2, h3, h4, h5⟩ := setc_box r (o + 1) (box_set hb o v) (by simp; omega)
    have hsz : (cs.setIfInBounds o v).size = cs.size := by simp
    refine ⟨ds, h1, h2.trans hsz, fun j hj => ?_, fun j hj => ?_, fun j hj => ?_⟩
    · rw [h3 j (by omega), Array.getElem?_setIfInBounds]
      rw [if_neg (by omega)]
    · cases j with
      | zero =>
        rw [Nat.add_zero, h3 o (by omega), Array.getElem?_setIfInBounds, if_pos rfl, if_pos (by omega)]
        rfl
      | succ j =>
        rw [List.length_cons] at hj
        have := h4 j (by omega)
        rw [show o + (j + 1) = o + 1 + j by omega, this]
        rfl
    · rw [List.length_cons] at hj
      rw [h5 j (by omega), Array.getElem?_setIfInBounds]
      rw [if_neg (by omega)]
/-- the whole box stored -/
theorem setc_all {w : World} {g : Nat} {T : TypeId} {cs : Array Value} (hb : Bx w g cs T) (l : List Value) (hl : l.length = cs.size) : Bx (w.setCells g 0 l) g l.toArray T := by
  obtain ⟨ds, h1, h2, -, h4, -⟩ := setc_box l 0 hb (by omega)
  have : ds = l.toArray := by
    apply Array.ext_getElem?
    intro i
    by_cases c : i < l.length
    · have := h4 i c
      rw [Nat.zero_add] at this
      rw [this, List.getElem?_toArray]
    · rw [Array.getElem?_eq_none (by omega), Array.getElem?_eq_none (by simp; omega)]
  rw [← this]
  exact h1
/-- a list of the call's own, all behind W -/
structure EnR {P : Program} {α : Type} (K : RK P α) (W wx : World) (u : Value) (L : List α) : Prop where
  own : OwR K wx W.heap.size u L
  bel : Below W.heap.size W wx
theorem EnR.below {P : Program} {α : Type} {K : RK P α} {w wx wy : World} {u : Value} {L : List α} (h : EnR K w wx u L) (hb : Below wx.heap.size wx wy) : EnR K w wy u L := ⟨h.own.below hb, h.bel.trans (hb.mono h.bel.size)⟩
theorem EnR.push {P : Program} {α : Type} {K : RK P α} {w wx wy : World} {u u' : Value} {L L' : List α} (h : EnR K w wx u L) (ho : OwR K wy w.heap.size u' L') (hg : wx.grownBy wy u.ownBlock) : EnR K w wy u' L' :=
  ⟨ho, h.bel.grown hg h.bel.size (fun k hk => (h.own.lt hk).1)⟩
/-- one more element, as it lies in a box that was just made -/
theorem one_new {P : Program} {α : Type} (K : RK P α) (w : World) (x : α) (cs : Array Value) (hcs : cs.toList = K.enc x) : ∀ j u, (K.cells [x])[j]? = some u → (w.alloc (.cells cs K.te)).cell? ((⟨w.heap.size, 0, none⟩ : Addr).add j) = some u := by
  have := OwR.made_cells (K := K) w [x]
  rw [K.cells_one, ← hcs] at this
  rw [K.cells_one, ← hcs]
  simpa using this
/-- an instruction loaded -/
theorem ld_I {w : World} {b o : Nat} {x : Ins} (h : w.rangeAt b o x.enc) : (Instr.loadAt 33 (.pointer (some ⟨b, o, none⟩))).run Tryd.prog w = .ok x.val w := by
  have hu : ∃ d, Tryd.prog.underlying 33 = some d ∧ d.isRow = true := ⟨_, Tryd.underlying33, rfl⟩
  obtain ⟨d, h1, h2⟩ := hu
  exact run_loadAt_mid w b o 33 x.enc d h h1 h2 infoI
/-- an instruction stored into a new box -/
theorem put_I (w : World) (x : Ins) : ∃ wz, (Instr.storeAt 33 (.pointer (some ⟨w.heap.size, 0, none⟩)) x.val).run Tryd.prog (w.alloc (.cells #[.int .i64 0, .int .i64 0, .int .i64 0, .int .i64 0, .int .i64 0, .string ⟨#[]⟩, .int .i64 0, .slice none 0 0, .slice none 0 0, .bool false, .bool false, .slice none 0 0, .int .i64 0, .slice none 0 0] 33)) = .ok () wz ∧ Below w.heap.size w wz ∧ Bx wz w.heap.size x.enc.toArray 33 := by
  have hb := Bx.new w #[.int .i64 0, .int .i64 0, .int .i64 0, .int .i64 0, .int .i64 0, .string ⟨#[]⟩, .int .i64 0, .slice none 0 0, .slice none 0 0, .bool false, .bool false, .slice none 0 0, .int .i64 0, .slice none 0 0] 33
  have b1 : Below w.heap.size w (w.alloc (.cells #[.int .i64 0, .int .i64 0, .int .i64 0, .int .i64 0, .int .i64 0, .string ⟨#[]⟩, .int .i64 0, .slice none 0 0, .slice none 0 0, .bool false, .bool false, .slice none 0 0, .int .i64 0, .slice none 0 0] 33)) := (Below.refl _ _).alloc (Nat.le_refl _) _
  refine ⟨_, run_storeAt_mid (P := Tryd.prog) _ w.heap.size 0 33 x.enc.toArray (fun j hj => ?_) (by rw [infoI]; rfl) (all_oneCell_toArray x.enc_one), ?_, ?_⟩
  · rw [Nat.zero_add]
    have hj' : j < 14 := hj
    exact ⟨by rw [cell_of_block hb, Array.getElem?_eq_getElem (by exact hj')]; rfl, hb.frz j⟩
  · exact (setc_frm (F := fun _ => False) (.inr (Nat.le_refl _)) _ _ (Frm.of_below b1)).nothing
  · exact setc_all hb _ rfl
theorem wpLd {ops : Array Oper} {rest : List Oper} {o : Oper} {a : Act} {w : World} {Q : Exit → Act → World → Prop} {T : TypeId} (hgd : o.guard = none) (x : Operand) (ho : o.op = .load T x) {p v : Value} (hx : a.eval x = p)
    (hld : (Instr.loadAt T p).run Tryd.prog w = .ok v w) (h : wpList Tryd.prog ops Q rest (a.put o.dst v) w) : wpList Tryd.prog ops Q (o :: rest) a w :=
  wpList_plain hgd fun _ hK => by
    unfold Oper.wp execOp
    simp only [ho, hx, Sem.run_bind, Sem.run_pure, Result.andThen_ok, hld]
    exact hK _ _ h
theorem wpSt {ops : Array Oper} {rest : List Oper} {o : Oper} {a : Act} {w wz : World} {Q : Exit → Act → World → Prop} {T : TypeId} (hgd : o.guard = none) (x y : Operand) (ho : o.op = .store T x y) {p v : Value} (hx : a.eval x = p) (hy : a.eval y = v)
    (hst : (Instr.storeAt T p v).run Tryd.prog w = .ok () wz) (h : wpList Tryd.prog ops Q rest (a.put o.dst undef) wz) : wpList Tryd.prog ops Q (o :: rest) a w :=
  wpList_plain hgd fun _ hK => by
    unfold Oper.wp execOp
    simp only [ho, hx, hy, Sem.run_bind, Sem.run_pure, Result.andThen_ok, hst]
    exact hK _ _ h
theorem wpLdG {ops : Array Oper} {rest : List Oper} {o : Oper} {a : Act} {w : World} {Q : Exit → Act → World → Prop} {T : TypeId} (hw : Region.wanted o (yielded ops a.tmps) = true) (x : Operand) (ho : o.op = .load T x) {p v : Value} (hx : a.eval x = p)
    (hld : (Instr.loadAt T p).run Tryd.prog w = .ok v w) (h : wpList Tryd.prog ops Q rest (a.put o.dst v) w) : wpList Tryd.prog ops Q (o :: rest) a w :=
  wpList_step fun _ hK => by
    rw [if_pos hw]
    unfold Oper.wp execOp
    simp only [ho, hx, Sem.run_bind, Sem.run_pure, Result.andThen_ok, hld]
    exact hK _ _ h

end Go.Proofs.YtgndbhgpdcelpaaDoor
