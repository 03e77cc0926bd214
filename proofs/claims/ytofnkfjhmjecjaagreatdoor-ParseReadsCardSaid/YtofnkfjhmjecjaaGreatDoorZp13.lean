/-
  Texts of mine put together, in build order.
  Conditions: as each declaration says.
-/
import Derived.Deep.MidRow
import Derived.Test.YtofnkfjhmjecjaaGreatDoorZp12
namespace Go.Proofs.YtofnkfjhmjecjaaGreatDoor
set_option maxRecDepth 100000
open Go.RowKit Go.Joins Go.ChangeShapes Go.WideShapes
set_option linter.unusedVariables false
set_option linter.unusedSimpArgs false
structure XSt where
 kind : Nat
 table : List Nat := []
 index : List Nat := []
 cols : XL Co := ⟨none, 0, []⟩
 names : XL (List Nat) := ⟨none, 0, []⟩
 uniq : Bool := false
 rows : XL (XL XE) := ⟨none, 0, []⟩
 items : XL (XE × List Nat) := ⟨none, 0, []⟩
 src : XL (List Nat × List Nat × XE) := ⟨none, 0, []⟩
 whr : XE := .mk 0 0 0 0 ⟨#[]⟩ ⟨#[]⟩ none 0 []
 order : XL (XE × Bool) := ⟨none, 0, []⟩
 sets : XL (List Nat × XE) := ⟨none, 0, []⟩
def XSt.er (x : XSt) : Stm := { kind := x.kind, table := x.table, index := x.index, cols := x.cols.xs.map cok.er, names := x.names.xs.map stk.er, uniq := x.uniq, rows := x.rows.xs.map rok.er, items := x.items.xs.map itk.er, src := x.src.xs.map sok.er, whr := x.whr.er, order := x.order.xs.map srk.er, sets := x.sets.xs.map sek.er }
def XSt.enc (x : XSt) : List Value := [.int .i64 (x.kind : Int), .string (strB x.table), .string (strB x.index), x.cols.val, x.names.val, .bool x.uniq, x.rows.val, x.items.val, x.src.val] ++ x.whr.enc ++ [x.order.val, x.sets.val]
def XSt.val (x : XSt) : Value := .agg x.enc.toArray
structure XSt.Mem (K : Bl) (w : World) (x : XSt) : Prop where
 cols : XL.Mem cok K w x.cols
 names : XL.Mem stk K w x.names
 rows : XL.Mem rok K w x.rows
 items : XL.Mem itk K w x.items
 src : XL.Mem sok K w x.src
 whr : XE.Mem K w x.whr
 order : XL.Mem srk K w x.order
 sets : XL.Mem sek K w x.sets
theorem XSt.Mem.frm {K F : Bl} {w w1 : World} (f : Frm F w w1) (hd : ∀ k, K k → ¬ F k) {x : XSt} (h : XSt.Mem K w x) : XSt.Mem K w1 x :=
 ⟨XL.Mem.frm f hd _ h.cols, XL.Mem.frm f hd _ h.names, XL.Mem.frm f hd _ h.rows, XL.Mem.frm f hd _ h.items, XL.Mem.frm f hd _ h.src, XE.Mem.frm f hd _ h.whr, XL.Mem.frm f hd _ h.order, XL.Mem.frm f hd _ h.sets⟩
theorem XSt.Mem.mono {K K' : Bl} {w : World} (hd : ∀ k, K k → K' k) {x : XSt} (h : XSt.Mem K w x) : XSt.Mem K' w x :=
 ⟨XL.Mem.mono hd _ h.cols, XL.Mem.mono hd _ h.names, XL.Mem.mono hd _ h.rows, XL.Mem.mono hd _ h.items, XL.Mem.mono hd _ h.src, XE.Mem.mono hd _ h.whr, XL.Mem.mono hd _ h.order, XL.Mem.mono hd _ h.sets⟩
def RSt (B : Nat) (w : World) (v : Value) (st : Stm) : Prop := ∃ x : XSt, v = x.val ∧ x.er = st ∧ XSt.Mem (GE B) w x
theorem fin_St {w w2 : World} {pb : Nat} {s : PS} (hS : Stp w w2 pb s) (hp : pb < w.heap.size) {cs : Array Value} (hb : Bx w2 w.heap.size cs 34) (hcs : cs.size = 18) (x : XSt) (hm : XSt.Mem (fun k => w.heap.size < k) w2 x) :
  Bx (stL w2 w.heap.size 0 x.enc) w.heap.size x.enc.toArray 34 ∧ EndP w pb (RSt w.heap.size) (.ok (x.er, s)) (.returned x.val) (stL w2 w.heap.size 0 x.enc) := by
 have hS2 := hS.stL (Nat.le_refl _) hp x.enc 0
 refine ⟨stL_all hb _ (by rw [hcs]; unfold XSt.enc; simp [XE.enc_len]), hS2.fr, _, rfl, ⟨x, rfl, rfl, ?_⟩, hS2.ps⟩
 exact XSt.Mem.mono (fun k hk => Nat.le_of_lt hk) (XSt.Mem.frm (stL_one w2 w.heap.size 0 x.enc) (fun k hk e => by omega) hm)
abbrev GT (g : Nat) : Bl := fun k => g < k
theorem upL {α β : Type} {P : Program} {E : EK P α β} {pb g : Nat} {w w' : World} {y : XL α} (f : Frm (PF pb) w w') (hg : pb < g) (h : XL.Mem E (GT g) w y) : XL.Mem E (GT g) w' y := XL.Mem.frm f (fun k hk e => by have : g < k := hk; omega) y h
theorem upLs {α β : Type} {P : Program} {E : EK P α β} {g : Nat} {w : World} {y : XL α} (h : XL.Mem E (GT g) w y) (o : Nat) (l : List Value) : XL.Mem E (GT g) (stL w g o l) y := XL.Mem.frm (stL_one w g o l) (fun k hk e => by have : g < k := hk; omega) y h
theorem upX {pb g : Nat} {w w' : World} {x : XE} (f : Frm (PF pb) w w') (hg : pb < g) (h : XE.Mem (GT g) w x) : XE.Mem (GT g) w' x := XE.Mem.frm f (fun k hk e => by have : g < k := hk; omega) x h
theorem upXs {g : Nat} {w : World} {x : XE} (h : XE.Mem (GT g) w x) (o : Nat) (l : List Value) : XE.Mem (GT g) (stL w g o l) x := XE.Mem.frm (stL_one w g o l) (fun k hk e => by have : g < k := hk; omega) x h
theorem gtL {α β : Type} {P : Program} {E : EK P α β} {g B : Nat} {w : World} {y : XL α} (hg : g < B) (h : XL.Mem E (GE B) w y) : XL.Mem E (GT g) w y := XL.Mem.mono (fun k hk => Nat.lt_of_lt_of_le hg hk) y h
theorem gtX {g B : Nat} {w : World} {x : XE} (hg : g < B) (h : XE.Mem (GE B) w x) : XE.Mem (GT g) w x := XE.Mem.mono (fun k hk => Nat.lt_of_lt_of_le hg hk) x h
theorem dnL {α β : Type} {P : Program} {E : EK P α β} {g g' : Nat} {w : World} {y : XL α} (hg : g ≤ g') (h : XL.Mem E (GT g') w y) : XL.Mem E (GT g) w y := XL.Mem.mono (fun k hk => Nat.lt_of_le_of_lt hg hk) y h
theorem dnX {g g' : Nat} {w : World} {x : XE} (hg : g ≤ g') (h : XE.Mem (GT g') w x) : XE.Mem (GT g) w x := XE.Mem.mono (fun k hk => Nat.lt_of_le_of_lt hg hk) x h
theorem memz (g : Nat) (w : World) {x : XSt} (h1 : XL.Mem cok (GT g) w x.cols) (h2 : XL.Mem stk (GT g) w x.names) (h3 : XL.Mem rok (GT g) w x.rows) (h4 : XL.Mem itk (GT g) w x.items) (h5 : XL.Mem sok (GT g) w x.src) (h6 : XE.Mem (GT g) w x.whr) (h7 : XL.Mem srk (GT g) w x.order) (h8 : XL.Mem sek (GT g) w x.sets) : XSt.Mem (fun k => g < k) w x := ⟨h1, h2, h3, h4, h5, h6, h7, h8⟩
abbrev nl {α β : Type} {P : Program} {E : EK P α β} {g : Nat} {w : World} : XL.Mem E (GT g) w ⟨none, 0, []⟩ := XL.Mem.nil _ _
abbrev nx {g : Nat} {w : World} : XE.Mem (GT g) w (.mk 0 0 0 0 ⟨#[]⟩ ⟨#[]⟩ none 0 []) := XE.Mem.leaf _ _ _ _ _ _ _ _
theorem er0 : XE.er (.mk 0 0 0 0 ⟨#[]⟩ ⟨#[]⟩ none 0 []) = zE := by simp [XE.er, XE.erL, zE]
def st18 (w : World) (g : Nat) (v0 v1 v2 v3 v4 v5 v6 v7 v8 v9 v10 v11 v12 v13 v14 v15 v16 v17 : Value) : World := (((((((((((((((((w.setCell ⟨g, 0, none⟩ v0).setCell ⟨g, 1, none⟩ v1).setCell ⟨g, 2, none⟩ v2).setCell ⟨g, 3, none⟩ v3).setCell ⟨g, 4, none⟩ v4).setCell ⟨g, 5, none⟩ v5).setCell ⟨g, 6, none⟩ v6).setCell ⟨g, 7, none⟩ v7).setCell ⟨g, 8, none⟩ v8).setCell ⟨g, 9, none⟩ v9).setCell ⟨g, 10, none⟩ v10).setCell ⟨g, 11, none⟩ v11).setCell ⟨g, 12, none⟩ v12).setCell ⟨g, 13, none⟩ v13).setCell ⟨g, 14, none⟩ v14).setCell ⟨g, 15, none⟩ v15).setCell ⟨g, 16, none⟩ v16).setCell ⟨g, 17, none⟩ v17
theorem stL18 (w : World) (g : Nat) (v0 v1 v2 v3 v4 v5 v6 v7 v8 v9 v10 v11 v12 v13 v14 v15 v16 v17 : Value) : stL w g 0 [v0, v1, v2, v3, v4, v5, v6, v7, v8, v9, v10, v11, v12, v13, v14, v15, v16, v17] = st18 w g v0 v1 v2 v3 v4 v5 v6 v7 v8 v9 v10 v11 v12 v13 v14 v15 v16 v17 := rfl
theorem fin_S {w w2 : World} {pb : Nat} {s : PS} (hS : Stp w w2 pb s) (hp : pb < w.heap.size) {cs : Array Value} (hb : Bx w2 w.heap.size cs 34) (hcs : cs.size = 18) (x : XSt) (hm : XSt.Mem (fun k => w.heap.size < k) w2 x) {v0 v1 v2 v3 v4 v5 v6 v7 v8 v9 v10 v11 v12 v13 v14 v15 v16 v17 : Value} (he : x.enc = [v0, v1, v2, v3, v4, v5, v6, v7, v8, v9, v10, v11, v12, v13, v14, v15, v16, v17]) {st : Stm} (hst : x.er = st) :
  Bx (st18 w2 w.heap.size v0 v1 v2 v3 v4 v5 v6 v7 v8 v9 v10 v11 v12 v13 v14 v15 v16 v17) w.heap.size #[v0, v1, v2, v3, v4, v5, v6, v7, v8, v9, v10, v11, v12, v13, v14, v15, v16, v17] 34 ∧ EndP w pb (RSt w.heap.size) (.ok (st, s)) (.returned (.agg #[v0, v1, v2, v3, v4, v5, v6, v7, v8, v9, v10, v11, v12, v13, v14, v15, v16, v17])) (st18 w2 w.heap.size v0 v1 v2 v3 v4 v5 v6 v7 v8 v9 v10 v11 v12 v13 v14 v15 v16 v17) := by
 have h := fin_St hS hp hb hcs x hm
 have hv : x.val = .agg #[v0, v1, v2, v3, v4, v5, v6, v7, v8, v9, v10, v11, v12, v13, v14, v15, v16, v17] := by unfold XSt.val; rw [he]
 rw [he, stL18, hv, hst] at h
 exact h
theorem setCells_stL (g : Nat) : ∀ (l : List Value) (o : Nat) (w : World), w.setCells g o l = stL w g o l
 | [], o, w => rfl
 | v :: r, o, w => by rw [World.setCells, stL]; exact setCells_stL g r (o + 1) _
theorem XSt.enc_one (x : XSt) : ∀ u ∈ x.enc, u.oneCell' = true := by
 unfold XSt.enc
 refine one_app (one_app ?_ (XE.enc_one x.whr)) ?_
 ·intro u hu
  simp only [List.mem_cons, List.not_mem_nil, or_false] at hu
  rcases hu with rfl | rfl | rfl | rfl | rfl | rfl | rfl | rfl | rfl <;> rfl
 ·intro u hu
  simp only [List.mem_cons, List.not_mem_nil, or_false] at hu
  rcases hu with rfl | rfl <;> rfl
theorem infoSt : (Tryz.prog.info? 34).map (·.size) = some 18 := by kernel_rfl
theorem fin_T {w w2 : World} {pb : Nat} {s : PS} (hS : Stp w w2 pb s) (hp : pb < w.heap.size) {cs : Array Value} (hb : Bx w2 w.heap.size cs 34) (hcs : cs.size = 18) (x : XSt) (hm : XSt.Mem (fun k => w.heap.size < k) w2 x) {v0 v1 v2 v3 v4 v5 v6 v7 v8 v9 v10 v11 v12 v13 v14 v15 v16 v17 : Value} (he : x.enc = [v0, v1, v2, v3, v4, v5, v6, v7, v8, v9, v10, v11, v12, v13, v14, v15, v16, v17]) {st : Stm} (hst : x.er = st) :
  ∃ wz, (Instr.storeAt 34 (.pointer (some ⟨w.heap.size, 0, none⟩)) (.agg #[v0, v1, v2, v3, v4, v5, v6, v7, v8, v9, v10, v11, v12, v13, v14, v15, v16, v17])).run Tryz.prog w2 = .ok () wz ∧ Bx wz w.heap.size #[v0, v1, v2, v3, v4, v5, v6, v7, v8, v9, v10, v11, v12, v13, v14, v15, v16, v17] 34 ∧ EndP w pb (RSt w.heap.size) (.ok (st, s)) (.returned (.agg #[v0, v1, v2, v3, v4, v5, v6, v7, v8, v9, v10, v11, v12, v13, v14, v15, v16, v17])) wz := by
 have h := fin_S hS hp hb hcs x hm he hst
 refine ⟨_, ?_, h.1, h.2⟩
 rw [← stL18, ← setCells_stL]
 have := run_storeAt_mid (P := Tryz.prog) w2 w.heap.size 0 34 #[v0, v1, v2, v3, v4, v5, v6, v7, v8, v9, v10, v11, v12, v13, v14, v15, v16, v17] (fun j hj => by
  rw [Nat.zero_add]
  exact ⟨by rw [cell_of_block hb, Array.getElem?_eq_getElem (by rw [hcs]; exact hj)]; rfl, hb.frz j⟩) infoSt (by
   have h1 := XSt.enc_one x
   rw [he] at h1
   exact all_oneCell_toArray h1)
 exact this
theorem ld_T {w : World} {g : Nat} {v0 v1 v2 v3 v4 v5 v6 v7 v8 v9 v10 v11 v12 v13 v14 v15 v16 v17 : Value} (hb : Bx w g #[v0, v1, v2, v3, v4, v5, v6, v7, v8, v9, v10, v11, v12, v13, v14, v15, v16, v17] 34) : (Instr.loadAt 34 (.pointer (some ⟨g, 0, none⟩))).run Tryz.prog w = .ok (.agg #[v0, v1, v2, v3, v4, v5, v6, v7, v8, v9, v10, v11, v12, v13, v14, v15, v16, v17]) w := by
 have hu : ∃ d, Tryz.prog.underlying 34 = some d ∧ d.isRow = true := ⟨_, Tryz.underlying34, rfl⟩
 obtain ⟨d, h1, h2⟩ := hu
 exact run_loadAt_mid w g 0 34 [v0, v1, v2, v3, v4, v5, v6, v7, v8, v9, v10, v11, v12, v13, v14, v15, v16, v17] d (fun j v hj => by rw [Nat.zero_add]; exact hb.cell (by simpa using hj)) h1 h2 infoSt
theorem wpSt {ops : Array Oper} {rest : List Oper} {o : Oper} {a : Act} {w wz : World} {Q : Exit → Act → World → Prop} (hgd : o.guard = none) (x y : Operand) (ho : o.op = .store 34 x y) {p v : Value} (hx : a.eval x = p) (hy : a.eval y = v)
  (hst : (Instr.storeAt 34 p v).run Tryz.prog w = .ok () wz) (h : wpList Tryz.prog ops Q rest (a.put o.dst undef) wz) : wpList Tryz.prog ops Q (o :: rest) a w :=
 wpList_plain hgd fun _ hK => by
  unfold Oper.wp execOp
  simp only [ho, hx, hy, Sem.run_bind, Sem.run_pure, Result.andThen_ok, hst]
  exact hK _ _ h
theorem wpLd {ops : Array Oper} {rest : List Oper} {o : Oper} {a : Act} {w : World} {Q : Exit → Act → World → Prop} (hgd : o.guard = none) (x : Operand) (ho : o.op = .load 34 x) {p v : Value} (hx : a.eval x = p)
  (hld : (Instr.loadAt 34 p).run Tryz.prog w = .ok v w) (h : wpList Tryz.prog ops Q rest (a.put o.dst v) w) : wpList Tryz.prog ops Q (o :: rest) a w :=
 wpList_plain hgd fun _ hK => by
  unfold Oper.wp execOp
  simp only [ho, hx, Sem.run_bind, Sem.run_pure, Result.andThen_ok, hld]
  exact hK _ _ h
theorem bx_where {w : World} {g : Nat} {T : TypeId} {u0 u1 u2 u3 u4 u5 u6 u7 u8 u9 u10 u11 u12 u13 u14 u15 u16 u17 : Value} (hb : Bx w g #[u0, u1, u2, u3, u4, u5, u6, u7, u8, u9, u10, u11, u12, u13, u14, u15, u16, u17] T) (op kind num scale : Int) (text qual : ByteArray) (a : Option Addr) (cap : Nat) (args : List XE) :
  Bx (stL w g 9 (XE.enc (.mk op kind num scale text qual a cap args))) g #[u0, u1, u2, u3, u4, u5, u6, u7, u8, .int .i64 op, .slice a args.length cap, .int .i64 kind, .int .i64 num, .int .i64 scale, .string text, .string qual, u16, u17] T := by
 have h0 : Bx _ g #[u0, u1, u2, u3, u4, u5, u6, u7, u8, .int .i64 op, u10, u11, u12, u13, u14, u15, u16, u17] T := box_set hb 9 (.int .i64 op)
 have h1 : Bx _ g #[u0, u1, u2, u3, u4, u5, u6, u7, u8, .int .i64 op, .slice a args.length cap, u11, u12, u13, u14, u15, u16, u17] T := box_set h0 10 (.slice a args.length cap)
 have h2 : Bx _ g #[u0, u1, u2, u3, u4, u5, u6, u7, u8, .int .i64 op, .slice a args.length cap, .int .i64 kind, u12, u13, u14, u15, u16, u17] T := box_set h1 11 (.int .i64 kind)
 have h3 : Bx _ g #[u0, u1, u2, u3, u4, u5, u6, u7, u8, .int .i64 op, .slice a args.length cap, .int .i64 kind, .int .i64 num, u13, u14, u15, u16, u17] T := box_set h2 12 (.int .i64 num)
 have h4 : Bx _ g #[u0, u1, u2, u3, u4, u5, u6, u7, u8, .int .i64 op, .slice a args.length cap, .int .i64 kind, .int .i64 num, .int .i64 scale, u14, u15, u16, u17] T := box_set h3 13 (.int .i64 scale)
 have h5 : Bx _ g #[u0, u1, u2, u3, u4, u5, u6, u7, u8, .int .i64 op, .slice a args.length cap, .int .i64 kind, .int .i64 num, .int .i64 scale, .string text, u15, u16, u17] T := box_set h4 14 (.string text)
 have h6 : Bx _ g #[u0, u1, u2, u3, u4, u5, u6, u7, u8, .int .i64 op, .slice a args.length cap, .int .i64 kind, .int .i64 num, .int .i64 scale, .string text, .string qual, u16, u17] T := box_set h5 15 (.string qual)
 exact h6
end Go.Proofs.YtofnkfjhmjecjaaGreatDoor

namespace Go.Proofs.YtofnkfjhmjecjaaGreatDoor
set_option maxRecDepth 100000
open Go.RowKit Go.Joins Go.ChangeShapes Go.WideShapes
set_option linter.unusedVariables false
set_option linter.unusedSimpArgs false
set_option maxHeartbeats 8000000 in
theorem drop_p (pb : Nat) : PR 40 pb RSt (dropP isN) := by
 intro w s r h hr
 generalize hP : EndP w pb (RSt w.heap.size) r = P
 have HP := Lib.hid hP
 have hpb := h.lt
 have hne : ¬ w.heap.size = pb := by omega
 obtain ⟨w1, hw1⟩ : ∃ w1, w.alloc (.cells #[.int .i64 0, .string ⟨#[]⟩, .string ⟨#[]⟩, .slice none 0 0, .slice none 0 0, .bool false, .slice none 0 0, .slice none 0 0, .slice none 0 0, .int .i64 0, .slice none 0 0, .int .i64 0, .int .i64 0, .int .i64 0, .string ⟨#[]⟩, .string ⟨#[]⟩, .slice none 0 0, .slice none 0 0] 34) = w1 := ⟨_, rfl⟩
 have hb1 := Bx.new w #[.int .i64 0, .string ⟨#[]⟩, .string ⟨#[]⟩, .slice none 0 0, .slice none 0 0, .bool false, .slice none 0 0, .slice none 0 0, .slice none 0 0, .int .i64 0, .slice none 0 0, .int .i64 0, .int .i64 0, .int .i64 0, .string ⟨#[]⟩, .string ⟨#[]⟩, .slice none 0 0, .slice none 0 0] 34
 have S1 := Lib.hid ((Stp.refl h).alloc (.cells #[.int .i64 0, .string ⟨#[]⟩, .string ⟨#[]⟩, .slice none 0 0, .slice none 0 0, .bool false, .slice none 0 0, .slice none 0 0, .slice none 0 0, .int .i64 0, .slice none 0 0, .int .i64 0, .int .i64 0, .int .i64 0, .string ⟨#[]⟩, .string ⟨#[]⟩, .slice none 0 0, .slice none 0 0] 34))
 have hz1 : w1.heap.size = w.heap.size + 1 := by rw [← hw1]; simp
 rw [hw1] at hb1 S1
 have HB1 := Lib.hid hb1
 have HZ1 := Lib.hid hz1
 have HR := Lib.hid hr
 skip
 clear hP h hr hb1 hz1
 have hR := HR.out
 unfold dropP at hR
 clear HR
 cases hc : atP wTable s with
 | true =>
  rw [if_pos hc] at hR
  have HR := Lib.hid hR
  clear hR
  go_enter Tryz.func40, Tryz.ntmps40
  go_wp2_with (first | (go_at_call 38; refine (found_yes S1.out.ps zqtable (by decide) hc).mono ?_; rintro e w2 ⟨rfl, ss⟩; have S2 := Lib.hid (S1.out.trans ss); have HB2 := Lib.hid (HB1.out.frm ss.fr hne); clear ss hc) | (go_at_call 45; rcases bind_call HR.out with ⟨c, hx, rfl⟩ | ⟨aa, sa, hx, hrr⟩; refine (name_p S2.out.ps hx).mono ?_; rintro e w3 ⟨ff, rfl⟩; exact ⟨rfl, by rw [← HP.out]; exact ⟨S2.out.fr.trans ff (New.refl _ _), rfl⟩⟩; refine (name_p S2.out.ps hx).mono ?_; rintro e w3 ⟨ff, v, rfl, hv, pp⟩; obtain ⟨tb, htb⟩ : ∃ t, t = aa := ⟨_, rfl⟩; subst htb; have hv2 : v = .string (strB tb) := hv; subst hv2; have S3 := Lib.hid (S2.out.trans ⟨ff, pp⟩); have HR3 := Lib.hid hrr; have HB3 := Lib.hid (HB2.out.frm ff hne); have hq : XSt.er { kind := 2, table := tb } = { kind := 2, table := tb } := (by unfold XSt.er; simp only [er0, List.map_nil]); obtain ⟨wz, hst, hbz, hez⟩ := fin_T S3.out hpb HB3.out rfl { kind := 2, table := tb } (memz _ _ nl nl nl nl nl nx nl nl) (show XSt.enc { kind := 2, table := tb } = [.int .i64 2, .string (strB tb), .string ⟨#[]⟩, .slice none 0 0, .slice none 0 0, .bool false, .slice none 0 0, .slice none 0 0, .slice none 0 0, .int .i64 0, .slice none 0 0, .int .i64 0, .int .i64 0, .int .i64 0, .string ⟨#[]⟩, .string ⟨#[]⟩, .slice none 0 0, .slice none 0 0] from rfl) hq; have HFI := Lib.hid (And.intro hbz hez); have HST := Lib.hid hst; clear hq hst hbz hez; clear hv; clear pp hrr hx HR) | (refine wpSt rfl _ _ rfl rfl rfl HST.out ?_; clear HST))
  have hrc := ret_ok HR3.out
  exact retStmt Tryz.results40 HFI.out.1 rfl rfl (by rw [← HP.out, hrc]; exact HFI.out.2)
 | false =>
  rw [if_neg (by rw [hc]; decide)] at hR
  have HR := Lib.hid hR
  clear hR
  go_enter Tryz.func40, Tryz.ntmps40
  go_wp2_with (first | (go_at_call 38; refine (found_no S1.out.ps zqtable (by decide) hc).mono ?_; rintro e w2 ⟨rfl, ss⟩; have S2 := Lib.hid (S1.out.trans ss); have HB2 := Lib.hid (HB1.out.frm ss.fr hne); clear ss hc) | (go_at_call 44; rcases need_bind HR.out with ⟨ha, rfl⟩ | ⟨ha, hrr⟩; refine (need_g S2.out.ps zqindex (by decide) (by first | rfl | simp | assumption)).mono ?_; rintro e w3 hn; obtain ⟨rfl, ff⟩ := hn.2 ha; exact ⟨rfl, by rw [← HP.out]; exact ⟨S2.out.fr.trans ff (New.refl _ _), rfl⟩⟩; refine (need_g S2.out.ps zqindex (by decide) (by first | rfl | simp | assumption)).mono ?_; rintro e w3 hn; obtain ⟨rfl, ss⟩ := hn.1 ha; have S3 := Lib.hid (S2.out.trans ss); have HR3 := Lib.hid hrr; have HB3 := Lib.hid (HB2.out.frm ss.fr hne); clear ss hn hrr ha HR) | (go_at_call 45; rcases bind_call HR3.out with ⟨c, hx, rfl⟩ | ⟨aa, sa, hx, hrr⟩; refine (name_p S3.out.ps hx).mono ?_; rintro e w4 ⟨ff, rfl⟩; exact ⟨rfl, by rw [← HP.out]; exact ⟨S3.out.fr.trans ff (New.refl _ _), rfl⟩⟩; refine (name_p S3.out.ps hx).mono ?_; rintro e w4 ⟨ff, v, rfl, hv, pp⟩; obtain ⟨tb, htb⟩ : ∃ t, t = aa := ⟨_, rfl⟩; subst htb; have hv2 : v = .string (strB tb) := hv; subst hv2; have S4 := Lib.hid (S3.out.trans ⟨ff, pp⟩); have HR4 := Lib.hid hrr; have HB4 := Lib.hid (HB3.out.frm ff hne); have hq : XSt.er { kind := 4, index := tb } = { kind := 4, index := tb } := (by unfold XSt.er; simp only [er0, List.map_nil]); obtain ⟨wz, hst, hbz, hez⟩ := fin_T S4.out hpb HB4.out rfl { kind := 4, index := tb } (memz _ _ nl nl nl nl nl nx nl nl) (show XSt.enc { kind := 4, index := tb } = [.int .i64 4, .string ⟨#[]⟩, .string (strB tb), .slice none 0 0, .slice none 0 0, .bool false, .slice none 0 0, .slice none 0 0, .slice none 0 0, .int .i64 0, .slice none 0 0, .int .i64 0, .int .i64 0, .int .i64 0, .string ⟨#[]⟩, .string ⟨#[]⟩, .slice none 0 0, .slice none 0 0] from rfl) hq; have HFI := Lib.hid (And.intro hbz hez); have HST := Lib.hid hst; clear hq hst hbz hez; clear hv; clear pp hrr hx HR3) | (refine wpSt rfl _ _ rfl rfl rfl HST.out ?_; clear HST))
  have hrc := ret_ok HR4.out
  exact retStmt Tryz.results40 HFI.out.1 rfl rfl (by rw [← HP.out, hrc]; exact HFI.out.2)
end Go.Proofs.YtofnkfjhmjecjaaGreatDoor

namespace Go.Proofs.YtofnkfjhmjecjaaGreatDoor
set_option maxRecDepth 100000
open Go.RowKit Go.Joins Go.ChangeShapes Go.WideShapes
set_option linter.unusedVariables false
set_option linter.unusedSimpArgs false
theorem al_T (w : World) {vs : List Value} (x : XSt) (hx : x.enc = vs) :
  ∃ wl, (Instr.storeAt 34 (.pointer (some ⟨w.heap.size, 0, none⟩)) (.agg vs.toArray)).run Tryz.prog (w.alloc (.cells #[.int .i64 0, .string ⟨#[]⟩, .string ⟨#[]⟩, .slice none 0 0, .slice none 0 0, .bool false, .slice none 0 0, .slice none 0 0, .slice none 0 0, .int .i64 0, .slice none 0 0, .int .i64 0, .int .i64 0, .int .i64 0, .string ⟨#[]⟩, .string ⟨#[]⟩, .slice none 0 0, .slice none 0 0] 34)) = .ok () wl ∧ Below w.heap.size w wl ∧ Bx wl w.heap.size vs.toArray 34 := by
 have b1 : Below w.heap.size w (w.alloc (.cells #[.int .i64 0, .string ⟨#[]⟩, .string ⟨#[]⟩, .slice none 0 0, .slice none 0 0, .bool false, .slice none 0 0, .slice none 0 0, .slice none 0 0, .int .i64 0, .slice none 0 0, .int .i64 0, .int .i64 0, .int .i64 0, .string ⟨#[]⟩, .string ⟨#[]⟩, .slice none 0 0, .slice none 0 0] 34)) := (Below.refl _ _).alloc (Nat.le_refl _) _
 have hl : vs.length = 18 := by rw [← hx]; unfold XSt.enc; simp [XE.enc_len]
 have h1 : vs.toArray.all (·.oneCell') = true := by
  have := XSt.enc_one x
  rw [hx] at this
  exact all_oneCell_toArray this
 have hb := Bx.new w #[.int .i64 0, .string ⟨#[]⟩, .string ⟨#[]⟩, .slice none 0 0, .slice none 0 0, .bool false, .slice none 0 0, .slice none 0 0, .slice none 0 0, .int .i64 0, .slice none 0 0, .int .i64 0, .int .i64 0, .int .i64 0, .string ⟨#[]⟩, .string ⟨#[]⟩, .slice none 0 0, .slice none 0 0] 34
 refine ⟨_, run_storeAt_mid (P := Tryz.prog) _ w.heap.size 0 34 vs.toArray (fun j hj => ?_) (by rw [infoSt]; simp [hl]) h1, ?_, ?_⟩
 ·rw [Nat.zero_add]
  have hj' : j < 18 := by simpa [hl] using hj
  exact ⟨by rw [cell_of_block hb, Array.getElem?_eq_getElem (by exact hj')]; rfl, hb.frz j⟩
 ·rw [setCells_stL]
  exact (stL_frm (F := fun _ => False) (.inr (Nat.le_refl _)) _ _ (Frm.of_below b1)).nothing
 ·rw [setCells_stL]
  exact stL_all hb _ (by simp [hl])
theorem Bx.setc {w : World} {g' g : Nat} {cs : Array Value} {T : TypeId} (h : Bx w g' cs T) (hne : ¬ g' = g) (o : Nat) (u : Value) : Bx (w.setCell ⟨g, o, none⟩ u) g' cs T := h.frm (Frm.set1 (F := fun k => k = g) w rfl o u) hne
theorem upLc {α β : Type} {P : Program} {E : EK P α β} {g : Nat} {w : World} {y : XL α} (h : XL.Mem E (GT g) w y) (o : Nat) (u : Value) : XL.Mem E (GT g) (w.setCell ⟨g, o, none⟩ u) y := upLs h o [u]
theorem upXc {g : Nat} {w : World} {x : XE} (h : XE.Mem (GT g) w x) (o : Nat) (u : Value) : XE.Mem (GT g) (w.setCell ⟨g, o, none⟩ u) x := upXs h o [u]
def stW (w : World) (g : Nat) (op kind num scale : Int) (text qual : ByteArray) (a : Option Addr) (cap : Nat) (args : List XE) : World := ((((((w.setCell ⟨g, 9, none⟩ (.int .i64 op)).setCell ⟨g, 10, none⟩ (.slice a args.length cap)).setCell ⟨g, 11, none⟩ (.int .i64 kind)).setCell ⟨g, 12, none⟩ (.int .i64 num)).setCell ⟨g, 13, none⟩ (.int .i64 scale)).setCell ⟨g, 14, none⟩ (.string text)).setCell ⟨g, 15, none⟩ (.string qual)
theorem stW_eq (w : World) (g : Nat) (op kind num scale : Int) (text qual : ByteArray) (a : Option Addr) (cap : Nat) (args : List XE) : stW w g op kind num scale text qual a cap args = stL w g 9 (XE.enc (.mk op kind num scale text qual a cap args)) := rfl
set_option maxHeartbeats 8000000 in
theorem insert_p (n pb : Nat) : PR 41 pb RSt (insertP isN n) := by
 intro w s r h hr
 generalize hP : EndP w pb (RSt w.heap.size) r = P
 have HP := Lib.hid hP
 have hpb := h.lt
 have hne : ¬ w.heap.size = pb := by omega
 obtain ⟨w1, hw1⟩ : ∃ w1, w.alloc (.cells #[.int .i64 0, .string ⟨#[]⟩, .string ⟨#[]⟩, .slice none 0 0, .slice none 0 0, .bool false, .slice none 0 0, .slice none 0 0, .slice none 0 0, .int .i64 0, .slice none 0 0, .int .i64 0, .int .i64 0, .int .i64 0, .string ⟨#[]⟩, .string ⟨#[]⟩, .slice none 0 0, .slice none 0 0] 34) = w1 := ⟨_, rfl⟩
 have hb1 := Bx.new w #[.int .i64 0, .string ⟨#[]⟩, .string ⟨#[]⟩, .slice none 0 0, .slice none 0 0, .bool false, .slice none 0 0, .slice none 0 0, .slice none 0 0, .int .i64 0, .slice none 0 0, .int .i64 0, .int .i64 0, .int .i64 0, .string ⟨#[]⟩, .string ⟨#[]⟩, .slice none 0 0, .slice none 0 0] 34
 have S1 := Lib.hid ((Stp.refl h).alloc (.cells #[.int .i64 0, .string ⟨#[]⟩, .string ⟨#[]⟩, .slice none 0 0, .slice none 0 0, .bool false, .slice none 0 0, .slice none 0 0, .slice none 0 0, .int .i64 0, .slice none 0 0, .int .i64 0, .int .i64 0, .int .i64 0, .string ⟨#[]⟩, .string ⟨#[]⟩, .slice none 0 0, .slice none 0 0] 34))
 have hz1 : w1.heap.size = w.heap.size + 1 := by rw [← hw1]; simp
 rw [hw1] at hb1 S1
 have HB1 := Lib.hid hb1
 have HZ1 := Lib.hid hz1
 have HR := Lib.hid hr
 unfold insertP at HR
 clear hP h hr hb1 hz1
 go_enter Tryz.func41, Tryz.ntmps41
 go_wp2_with (first | (go_at_call 44; rcases need_bind HR.out with ⟨ha, rfl⟩ | ⟨ha, hrr⟩; refine (need_g S1.out.ps zqinto (by decide) (by first | rfl | simp | assumption)).mono ?_; rintro e w2 hn; obtain ⟨rfl, ff⟩ := hn.2 ha; exact ⟨rfl, by rw [← HP.out]; exact ⟨S1.out.fr.trans ff (New.refl _ _), rfl⟩⟩; refine (need_g S1.out.ps zqinto (by decide) (by first | rfl | simp | assumption)).mono ?_; rintro e w2 hn; obtain ⟨rfl, ss⟩ := hn.1 ha; have S2 := Lib.hid (S1.out.trans ss); have HR2 := Lib.hid hrr; have HB2 := Lib.hid (HB1.out.frm ss.fr hne); clear ss hn hrr ha HR) | (go_at_call 45; rcases bind_call HR2.out with ⟨c, hx, rfl⟩ | ⟨aa, sa, hx, hrr⟩; refine (name_p S2.out.ps hx).mono ?_; rintro e w3 ⟨ff, rfl⟩; exact ⟨rfl, by rw [← HP.out]; exact ⟨S2.out.fr.trans ff (New.refl _ _), rfl⟩⟩; refine (name_p S2.out.ps hx).mono ?_; rintro e w3 ⟨ff, v, rfl, hv, pp⟩; obtain ⟨tb, htb⟩ : ∃ t, t = aa := ⟨_, rfl⟩; subst htb; have hv2 : v = .string (strB tb) := hv; subst hv2; have S3 := Lib.hid (S2.out.trans ⟨ff, pp⟩); have HR3 := Lib.hid hrr; have HB3 := Lib.hid (HB2.out.frm ff hne); obtain ⟨wl, hsl, hbl, hll⟩ := al_T w3 (vs := [.int .i64 5, .string (strB tb), .string ⟨#[]⟩, .slice none 0 0, .slice none 0 0, .bool false, .slice none 0 0, .slice none 0 0, .slice none 0 0, .int .i64 0, .slice none 0 0, .int .i64 0, .int .i64 0, .int .i64 0, .string ⟨#[]⟩, .string ⟨#[]⟩, .slice none 0 0, .slice none 0 0]) ({ kind := 5, table := tb } : XSt) rfl; have S4 := Lib.hid (S3.out.below hbl); have HB4 := Lib.hid (HB3.out.below hbl); have LB4 : Hid (Bx wl w3.heap.size #[.int .i64 5, .string (strB tb), .string ⟨#[]⟩, .slice none 0 0, .slice none 0 0, .bool false, .slice none 0 0, .slice none 0 0, .slice none 0 0, .int .i64 0, .slice none 0 0, .int .i64 0, .int .i64 0, .int .i64 0, .string ⟨#[]⟩, .string ⟨#[]⟩, .slice none 0 0, .slice none 0 0] 34) := Lib.hid hll; have HSL := Lib.hid hsl; have g1 : w.heap.size < w3.heap.size := HB3.out.lt; have g2 : ¬ w.heap.size = w3.heap.size := (by omega); have g3 : ¬ w3.heap.size = pb := (by omega); have g4 : pb < w3.heap.size := (by omega); have g5 : w.heap.size ≤ w3.heap.size := (by omega); clear hsl hbl hll; clear hv; clear pp hrr hx HR2) | (go_at_call 44; rcases need_bind HR3.out with ⟨ha, rfl⟩ | ⟨ha, hrr⟩; refine (need_g S4.out.ps zqvalues (by decide) (by first | rfl | simp | simp [World.setCell] | assumption)).mono ?_; rintro e w5 hn; obtain ⟨rfl, ff⟩ := hn.2 ha; exact ⟨rfl, by rw [← HP.out]; exact ⟨S4.out.fr.trans ff (New.refl _ _), rfl⟩⟩; refine (need_g S4.out.ps zqvalues (by decide) (by first | rfl | simp | simp [World.setCell] | assumption)).mono ?_; rintro e w5 hn; obtain ⟨rfl, ss⟩ := hn.1 ha; have S5 := Lib.hid (S4.out.trans ss); have HR5 := Lib.hid hrr; have HB5 := Lib.hid (HB4.out.frm ss.fr hne); have LB5 := Lib.hid (LB4.out.frm ss.fr g3); clear ss hn hrr ha HR3) | (go_at_call 107; rcases bind_call HR5.out with ⟨c, hx, rfl⟩ | ⟨aa, sa, hx, hrr⟩; refine (list_ro (row_p n pb) (enters_of Tryz.func108 (by kernel_rfl) rfl) (fun s a s' q => ((Rdr.whole isN).encl 50).us n s a s' q) S5.out.ps n 50 (by decide) (by decide) hx).mono ?_; rintro e w6 ⟨ff, rfl⟩; exact ⟨rfl, by rw [← HP.out]; exact ⟨S5.out.fr.trans ff (New.refl _ _), rfl⟩⟩; refine (list_ro (row_p n pb) (enters_of Tryz.func108 (by kernel_rfl) rfl) (fun s a s' q => ((Rdr.whole isN).encl 50).us n s a s' q) S5.out.ps n 50 (by decide) (by decide) hx).mono ?_; rintro e w6 ⟨ff, v, rfl, hv, pp⟩; obtain ⟨yv, rfl, hye, my⟩ := hv; have S6 := Lib.hid (S5.out.trans ⟨ff, pp⟩); have HR6 := Lib.hid hrr; have HB6 := Lib.hid (HB5.out.frm ff hne); have LB6 := Lib.hid (LB5.out.frm ff g3); have Y6 := Lib.hid (gtL (show w3.heap.size < _ from LB5.out.lt) my); have EY := Lib.hid hye; clear hye my; obtain ⟨Ya, Yc, Yx⟩ := yv; simp only [XL.val]; have q6 := LB6.out.cell (o := 6) (v := .slice none 0 0) rfl; have y6 := LB6.out.frz 6; have S7 := Lib.hid (S6.out.set g5 g4 6 (.slice Ya Yx.length Yc)); have HB7 := Lib.hid (HB6.out.setc g2 6 (.slice Ya Yx.length Yc)); have LB7 : Hid (Bx _ w3.heap.size #[.int .i64 5, .string (strB tb), .string ⟨#[]⟩, .slice none 0 0, .slice none 0 0, .bool false, .slice Ya Yx.length Yc, .slice none 0 0, .slice none 0 0, .int .i64 0, .slice none 0 0, .int .i64 0, .int .i64 0, .int .i64 0, .string ⟨#[]⟩, .string ⟨#[]⟩, .slice none 0 0, .slice none 0 0] 34) := Lib.hid (box_set LB6.out 6 (.slice Ya Yx.length Yc)); have Y7 := Lib.hid (upLc Y6.out 6 (.slice Ya Yx.length Yc)); have HLD := Lib.hid (ld_T LB7.out); have hq : XSt.er { kind := 5, table := tb, rows := XL.mk Ya Yc Yx } = { kind := 5, table := tb, rows := aa } := (by unfold XSt.er; simp only [er0, List.map_nil, EY.out]); obtain ⟨wz, hst, hbz, hez⟩ := fin_T S7.out hpb HB7.out rfl { kind := 5, table := tb, rows := XL.mk Ya Yc Yx } (memz _ _ nl nl (dnL g5 Y7.out) nl nl nx nl nl) (show XSt.enc { kind := 5, table := tb, rows := XL.mk Ya Yc Yx } = [.int .i64 5, .string (strB tb), .string ⟨#[]⟩, .slice none 0 0, .slice none 0 0, .bool false, .slice Ya Yx.length Yc, .slice none 0 0, .slice none 0 0, .int .i64 0, .slice none 0 0, .int .i64 0, .int .i64 0, .int .i64 0, .string ⟨#[]⟩, .string ⟨#[]⟩, .slice none 0 0, .slice none 0 0] from rfl) hq; have HFI := Lib.hid (And.intro hbz hez); have HST := Lib.hid hst; clear hq hst hbz hez; clear pp hrr hx HR5) | (refine wpSt rfl _ _ rfl rfl rfl HSL.out ?_; clear HSL) | (refine wpLd rfl _ rfl rfl HLD.out ?_; clear HLD) | (refine wpSt rfl _ _ rfl rfl rfl HST.out ?_; clear HST))
 have hrc := ret_ok HR6.out
 exact retStmt Tryz.results41 HFI.out.1 rfl rfl (by rw [← HP.out, hrc]; exact HFI.out.2)
set_option maxHeartbeats 8000000 in
theorem update_p (n pb : Nat) : PR 43 pb RSt (updateP isN n) := by
 intro w s r h hr
 generalize hP : EndP w pb (RSt w.heap.size) r = P
 have HP := Lib.hid hP
 have hpb := h.lt
 have hne : ¬ w.heap.size = pb := by omega
 obtain ⟨w1, hw1⟩ : ∃ w1, w.alloc (.cells #[.int .i64 0, .string ⟨#[]⟩, .string ⟨#[]⟩, .slice none 0 0, .slice none 0 0, .bool false, .slice none 0 0, .slice none 0 0, .slice none 0 0, .int .i64 0, .slice none 0 0, .int .i64 0, .int .i64 0, .int .i64 0, .string ⟨#[]⟩, .string ⟨#[]⟩, .slice none 0 0, .slice none 0 0] 34) = w1 := ⟨_, rfl⟩
 have hb1 := Bx.new w #[.int .i64 0, .string ⟨#[]⟩, .string ⟨#[]⟩, .slice none 0 0, .slice none 0 0, .bool false, .slice none 0 0, .slice none 0 0, .slice none 0 0, .int .i64 0, .slice none 0 0, .int .i64 0, .int .i64 0, .int .i64 0, .string ⟨#[]⟩, .string ⟨#[]⟩, .slice none 0 0, .slice none 0 0] 34
 have S1 := Lib.hid ((Stp.refl h).alloc (.cells #[.int .i64 0, .string ⟨#[]⟩, .string ⟨#[]⟩, .slice none 0 0, .slice none 0 0, .bool false, .slice none 0 0, .slice none 0 0, .slice none 0 0, .int .i64 0, .slice none 0 0, .int .i64 0, .int .i64 0, .int .i64 0, .string ⟨#[]⟩, .string ⟨#[]⟩, .slice none 0 0, .slice none 0 0] 34))
 have hz1 : w1.heap.size = w.heap.size + 1 := by rw [← hw1]; simp
 rw [hw1] at hb1 S1
 have HB1 := Lib.hid hb1
 have HZ1 := Lib.hid hz1
 have HR := Lib.hid hr
 unfold updateP at HR
 clear hP h hr hb1 hz1
 go_enter Tryz.func43, Tryz.ntmps43
 go_wp2_with (first | (go_at_call 45; rcases bind_call HR.out with ⟨c, hx, rfl⟩ | ⟨aa, sa, hx, hrr⟩; refine (name_p S1.out.ps hx).mono ?_; rintro e w2 ⟨ff, rfl⟩; exact ⟨rfl, by rw [← HP.out]; exact ⟨S1.out.fr.trans ff (New.refl _ _), rfl⟩⟩; refine (name_p S1.out.ps hx).mono ?_; rintro e w2 ⟨ff, v, rfl, hv, pp⟩; obtain ⟨tb, htb⟩ : ∃ t, t = aa := ⟨_, rfl⟩; subst htb; have hv2 : v = .string (strB tb) := hv; subst hv2; have S2 := Lib.hid (S1.out.trans ⟨ff, pp⟩); have HR2 := Lib.hid hrr; have HB2 := Lib.hid (HB1.out.frm ff hne); obtain ⟨wl, hsl, hbl, hll⟩ := al_T w2 (vs := [.int .i64 7, .string (strB tb), .string ⟨#[]⟩, .slice none 0 0, .slice none 0 0, .bool false, .slice none 0 0, .slice none 0 0, .slice none 0 0, .int .i64 0, .slice none 0 0, .int .i64 0, .int .i64 0, .int .i64 0, .string ⟨#[]⟩, .string ⟨#[]⟩, .slice none 0 0, .slice none 0 0]) ({ kind := 7, table := tb } : XSt) rfl; have S3 := Lib.hid (S2.out.below hbl); have HB3 := Lib.hid (HB2.out.below hbl); have LB3 : Hid (Bx wl w2.heap.size #[.int .i64 7, .string (strB tb), .string ⟨#[]⟩, .slice none 0 0, .slice none 0 0, .bool false, .slice none 0 0, .slice none 0 0, .slice none 0 0, .int .i64 0, .slice none 0 0, .int .i64 0, .int .i64 0, .int .i64 0, .string ⟨#[]⟩, .string ⟨#[]⟩, .slice none 0 0, .slice none 0 0] 34) := Lib.hid hll; have HSL := Lib.hid hsl; have g1 : w.heap.size < w2.heap.size := HB2.out.lt; have g2 : ¬ w.heap.size = w2.heap.size := (by omega); have g3 : ¬ w2.heap.size = pb := (by omega); have g4 : pb < w2.heap.size := (by omega); have g5 : w.heap.size ≤ w2.heap.size := (by omega); clear hsl hbl hll; clear hv; clear pp hrr hx HR) | (go_at_call 44; rcases need_bind HR2.out with ⟨ha, rfl⟩ | ⟨ha, hrr⟩; refine (need_g S3.out.ps zqset (by decide) (by first | rfl | simp | simp [World.setCell] | assumption)).mono ?_; rintro e w4 hn; obtain ⟨rfl, ff⟩ := hn.2 ha; exact ⟨rfl, by rw [← HP.out]; exact ⟨S3.out.fr.trans ff (New.refl _ _), rfl⟩⟩; refine (need_g S3.out.ps zqset (by decide) (by first | rfl | simp | simp [World.setCell] | assumption)).mono ?_; rintro e w4 hn; obtain ⟨rfl, ss⟩ := hn.1 ha; have S4 := Lib.hid (S3.out.trans ss); have HR4 := Lib.hid hrr; have HB4 := Lib.hid (HB3.out.frm ss.fr hne); have LB4 := Lib.hid (LB3.out.frm ss.fr g3); clear ss hn hrr ha HR2) | (go_at_call 114; rcases bind_call HR4.out with ⟨c, hx, rfl⟩ | ⟨aa, sa, hx, hrr⟩; refine (list_se (set_p n pb) (enters_of Tryz.func115 (by kernel_rfl) rfl) (fun s a s' q => (Rdr.set isN).us n s a s' q) S4.out.ps n 50 (by decide) (by decide) hx).mono ?_; rintro e w5 ⟨ff, rfl⟩; exact ⟨rfl, by rw [← HP.out]; exact ⟨S4.out.fr.trans ff (New.refl _ _), rfl⟩⟩; refine (list_se (set_p n pb) (enters_of Tryz.func115 (by kernel_rfl) rfl) (fun s a s' q => (Rdr.set isN).us n s a s' q) S4.out.ps n 50 (by decide) (by decide) hx).mono ?_; rintro e w5 ⟨ff, v, rfl, hv, pp⟩; obtain ⟨yv, rfl, hye, my⟩ := hv; have S5 := Lib.hid (S4.out.trans ⟨ff, pp⟩); have HR5 := Lib.hid hrr; have HB5 := Lib.hid (HB4.out.frm ff hne); have LB5 := Lib.hid (LB4.out.frm ff g3); have Y5 := Lib.hid (gtL (show w2.heap.size < _ from LB4.out.lt) my); have EY := Lib.hid hye; clear hye my; obtain ⟨Ya, Yc, Yx⟩ := yv; simp only [XL.val]; obtain ⟨ya, hya⟩ : ∃ t, t = aa := ⟨_, rfl⟩; subst hya; have q17 := LB5.out.cell (o := 17) (v := .slice none 0 0) rfl; have y17 := LB5.out.frz 17; have S6 := Lib.hid (S5.out.set g5 g4 17 (.slice Ya Yx.length Yc)); have HB6 := Lib.hid (HB5.out.setc g2 17 (.slice Ya Yx.length Yc)); have LB6 : Hid (Bx _ w2.heap.size #[.int .i64 7, .string (strB tb), .string ⟨#[]⟩, .slice none 0 0, .slice none 0 0, .bool false, .slice none 0 0, .slice none 0 0, .slice none 0 0, .int .i64 0, .slice none 0 0, .int .i64 0, .int .i64 0, .int .i64 0, .string ⟨#[]⟩, .string ⟨#[]⟩, .slice none 0 0, .slice Ya Yx.length Yc] 34) := Lib.hid (box_set LB5.out 17 (.slice Ya Yx.length Yc)); have Y6 := Lib.hid (upLc Y5.out 17 (.slice Ya Yx.length Yc)); clear pp hrr hx HR4) | (go_at_call 46; rcases bind_call HR5.out with ⟨c, hx, rfl⟩ | ⟨aa, sa, hx, hrr⟩; refine (where_p n pb _ _ _ S6.out.ps hx).mono ?_; rintro e w7 ⟨ff, rfl⟩; exact ⟨rfl, by rw [← HP.out]; exact ⟨S6.out.fr.trans ff (New.refl _ _), rfl⟩⟩; refine (where_p n pb _ _ _ S6.out.ps hx).mono ?_; rintro e w7 ⟨ff, v, rfl, hv, pp⟩; obtain ⟨x, rfl, hxe, mx⟩ := hv; have S7 := Lib.hid (S6.out.trans ⟨ff, pp⟩); have HR7 := Lib.hid hrr; have HB7 := Lib.hid (HB6.out.frm ff hne); have LB7 := Lib.hid (LB6.out.frm ff g3); have Y7 := Lib.hid (upL ff g4 Y6.out); have X7 := Lib.hid (gtX (show w2.heap.size < _ from LB6.out.lt) mx); have EX := Lib.hid hxe; clear hxe mx; obtain ⟨op, kind, num, scale, text, qual, a, cap, args⟩ := x; unfold XE.val; have q9 := LB7.out.cell (o := 9) (v := .int .i64 0) rfl; have y9 := LB7.out.frz 9; have q10 := LB7.out.cell (o := 10) (v := .slice none 0 0) rfl; have y10 := LB7.out.frz 10; have q11 := LB7.out.cell (o := 11) (v := .int .i64 0) rfl; have y11 := LB7.out.frz 11; have q12 := LB7.out.cell (o := 12) (v := .int .i64 0) rfl; have y12 := LB7.out.frz 12; have q13 := LB7.out.cell (o := 13) (v := .int .i64 0) rfl; have y13 := LB7.out.frz 13; have q14 := LB7.out.cell (o := 14) (v := .string ⟨#[]⟩) rfl; have y14 := LB7.out.frz 14; have q15 := LB7.out.cell (o := 15) (v := .string ⟨#[]⟩) rfl; have y15 := LB7.out.frz 15; obtain ⟨wq, hwq⟩ : ∃ wq, stW w7 w2.heap.size op kind num scale text qual a cap args = wq := ⟨_, rfl⟩; have hsq := S7.out.stL g5 g4 (XE.enc (XE.mk op kind num scale text qual a cap args)) 9; have hbq := HB7.out.frm (stL_one w7 w2.heap.size 9 (XE.enc (XE.mk op kind num scale text qual a cap args))) g2; have hlq := bx_where LB7.out op kind num scale text qual a cap args; rw [← stW_eq, hwq] at hsq hbq hlq; have S8 := Lib.hid hsq; have HB8 := Lib.hid hbq; have LB8 : Hid (Bx wq w2.heap.size #[.int .i64 7, .string (strB tb), .string ⟨#[]⟩, .slice none 0 0, .slice none 0 0, .bool false, .slice none 0 0, .slice none 0 0, .slice none 0 0, .int .i64 op, .slice a args.length cap, .int .i64 kind, .int .i64 num, .int .i64 scale, .string text, .string qual, .slice none 0 0, .slice Ya Yx.length Yc] 34) := Lib.hid hlq; clear hsq hbq hlq; have Y8 := upLs Y7.out 9 (XE.enc (XE.mk op kind num scale text qual a cap args)); rw [← stW_eq, hwq] at Y8; have Y8 := Lib.hid Y8; have X8 := upXs X7.out 9 (XE.enc (XE.mk op kind num scale text qual a cap args)); rw [← stW_eq, hwq] at X8; have X8 := Lib.hid X8; unfold stW at hwq; have HLD := Lib.hid (ld_T LB8.out); have hq : XSt.er { kind := 7, table := tb, sets := XL.mk Ya Yc Yx, whr := XE.mk op kind num scale text qual a cap args } = { kind := 7, table := tb, sets := ya, whr := aa } := (by unfold XSt.er; simp only [List.map_nil, EY.out, EX.out]); obtain ⟨wz, hst, hbz, hez⟩ := fin_T S8.out hpb HB8.out rfl { kind := 7, table := tb, sets := XL.mk Ya Yc Yx, whr := XE.mk op kind num scale text qual a cap args } (memz _ _ nl nl nl nl nl (dnX g5 X8.out) nl (dnL g5 Y8.out)) (show XSt.enc { kind := 7, table := tb, sets := XL.mk Ya Yc Yx, whr := XE.mk op kind num scale text qual a cap args } = [.int .i64 7, .string (strB tb), .string ⟨#[]⟩, .slice none 0 0, .slice none 0 0, .bool false, .slice none 0 0, .slice none 0 0, .slice none 0 0, .int .i64 op, .slice a args.length cap, .int .i64 kind, .int .i64 num, .int .i64 scale, .string text, .string qual, .slice none 0 0, .slice Ya Yx.length Yc] from rfl) hq; have HFI := Lib.hid (And.intro hbz hez); have HST := Lib.hid hst; clear hq hst hbz hez; clear pp hrr hx HR5) | (refine wpSt rfl _ _ rfl rfl rfl HSL.out ?_; clear HSL) | (refine wpLd rfl _ rfl rfl HLD.out ?_; clear HLD) | (refine wpSt rfl _ _ rfl rfl rfl HST.out ?_; clear HST))
 have hrc := ret_ok HR7.out
 exact retStmt Tryz.results43 HFI.out.1 rfl rfl (by rw [← HP.out, hrc]; exact HFI.out.2)
end Go.Proofs.YtofnkfjhmjecjaaGreatDoor
