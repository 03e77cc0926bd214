/-
  Texts of mine put together, in build order.
  Conditions: as each declaration says.
-/
import Derived.Test.YtofnkfjhmjecjaaGreatDoorZp13
import Derived.Test.YtofnkfjhmjecjaaGreatDoorZp26
namespace Go.Proofs.YtofnkfjhmjecjaaGreatDoor
set_option maxRecDepth 100000
open Go.RowKit Go.Joins Go.ChangeShapes Go.WideShapes Go.Great
set_option linter.unusedVariables false
set_option linter.unusedSimpArgs false
abbrev zst : Array Value := #[.int .i64 0, .string ⟨#[]⟩, .string ⟨#[]⟩, .slice none 0 0, .slice none 0 0, .bool false, .slice none 0 0, .slice none 0 0, .slice none 0 0, .int .i64 0, .slice none 0 0, .int .i64 0, .int .i64 0, .int .i64 0, .string ⟨#[]⟩, .string ⟨#[]⟩, .slice none 0 0, .slice none 0 0]
def EndV (w : World) (pb : Nat) (ts : List Tk) (r : Stm × DS) (e : Ending) (w' : World) : Prop :=
 ∃ x : XSt, e = .returned x.val ∧ x.er = r.1 ∧ XSt.Mem (GE w.heap.size) w' x ∧ Dp w w' pb ts r.2
theorem XSt.Mem.old {K : Bl} {w : World} {x : XSt} (h : XSt.Mem K w x) : XSt.Mem (fun k => K k ∧ k < w.heap.size) w x :=
 ⟨XL.Mem.old _ h.cols, XL.Mem.old _ h.names, XL.Mem.old _ h.rows, XL.Mem.old _ h.items, XL.Mem.old _ h.src, XE.Mem.old _ h.whr, XL.Mem.old _ h.order, XL.Mem.old _ h.sets⟩
theorem XSt.Mem.below {K : Bl} {w w1 : World} {x : XSt} (h : XSt.Mem K w x) (hb : Below w.heap.size w w1) : XSt.Mem K w1 x := h.frm (Frm.of_below (F := fun _ => False) hb) (fun _ _ e => e)
structure SmF (w0 wr : World) (pb g : Nat) (ts : List Tk) (d : DS) (x : XSt) : Prop where
 dp : Dp w0 wr pb ts d
 hp : pb < w0.heap.size
 hg : w0.heap.size < g
 rb : Bx wr w0.heap.size zst 34
 bx : Bx wr g x.enc.toArray 34
 mm : XSt.Mem (GT g) wr x
theorem SmF.made {w0 w2 wz : World} {pb : Nat} {ts : List Tk} {d : DS} {x : XSt} (hd : Dp w0 w2 pb ts d) (hp : pb < w0.heap.size) (hrb : Bx w2 w0.heap.size zst 34)
  (f : Frm (fun k => k = w2.heap.size) (w2.alloc (.cells zst 34)) wz) (hb : Bx wz w2.heap.size x.enc.toArray 34) (hm : XSt.Mem (GT w2.heap.size) wz x) : SmF w0 wz pb w2.heap.size ts d x := by
 have b1 : Below w2.heap.size w2 (w2.alloc (.cells zst 34)) := (Below.refl _ _).alloc (Nat.le_refl _) _
 have b2 : Below w2.heap.size w2 wz := ((Frm.of_below (F := fun k => k = w2.heap.size) b1).trans f (fun k hk => .inl hk)).below (fun k hk => Nat.le_of_eq hk.symm) (Nat.le_refl _)
 exact ⟨hd.below b2, hp, hrb.lt, hrb.below b2, hb, hm⟩
theorem SmF.step {w0 wr w' : World} {pb g : Nat} {ts : List Tk} {d d' : DS} {x : XSt} (h : SmF w0 wr pb g ts d x) (s : Dp wr w' pb ts d') : SmF w0 w' pb g ts d' x := by
 have h1 := h.hp
 have h2 := h.hg
 exact ⟨h.dp.trans s, h.hp, h.hg, h.rb.frm s.fr (fun e => by have e1 : w0.heap.size = pb := e; omega), h.bx.frm s.fr (fun e => by have e1 : g = pb := e; omega), h.mm.frm s.fr (fun k hk e => by have e1 : g < k := hk; have e2 : k = pb := e; omega)⟩
theorem SmF.frm {w0 wr w' : World} {pb g : Nat} {ts : List Tk} {d : DS} {x x' : XSt} (h : SmF w0 wr pb g ts d x) (f : Frm (fun k => k = g) wr w') (hb : Bx w' g x'.enc.toArray 34) (hm : XSt.Mem (GT g) wr x') : SmF w0 w' pb g ts d x' := by
 have h1 := h.hp
 have h2 := h.hg
 refine ⟨⟨h.dp.fr.trans f (fun k hk => .inr (by have : k = g := hk; omega)), h.dp.ds.frm f (fun k hk e => by have : k = g := e; omega)⟩, h.hp, h.hg, h.rb.frm f (fun e => by have : w0.heap.size = g := e; omega), hb, ?_⟩
 exact hm.frm f (fun k hk e => by have e1 : g < k := hk; have e2 : k = g := e; omega)
theorem SmF.set {w0 wr : World} {pb g : Nat} {ts : List Tk} {d : DS} {x : XSt} (h : SmF w0 wr pb g ts d x) (x' : XSt) (o : Nat) (u : Value) (hx : x.enc.toArray.setIfInBounds o u = x'.enc.toArray) (hm : XSt.Mem (GT g) wr x') : SmF w0 (wr.setCell ⟨g, o, none⟩ u) pb g ts d x' := by
 refine h.frm (Frm.set1 (F := fun k => k = g) wr rfl o u) ?_ hm
 have hb := box_set h.bx o u
 rw [hx] at hb
 exact hb
theorem SmF.whr {w0 wr : World} {pb g : Nat} {ts : List Tk} {d : DS} {x : XSt} (h : SmF w0 wr pb g ts d x) (e : XE) (he : XE.Mem (GT g) wr e) : SmF w0 (stL wr g 9 e.enc) pb g ts d { x with whr := e } := by
 refine h.frm (stL_frm (F := fun k => k = g) (.inl rfl) _ _ (Frm.refl _ _)) ?_ ⟨h.mm.cols, h.mm.names, h.mm.rows, h.mm.items, h.mm.src, he, h.mm.order, h.mm.sets⟩
 have hb := h.bx
 obtain ⟨x0, x1, x2, x3, x4, x5, x6, x7, x8, x9, x10, x11⟩ := x
 obtain ⟨e0, e1, e2, e3, e4, e5, e6, e7, e8⟩ := x9
 obtain ⟨o0, o1, o2, o3, o4, o5, o6, o7, o8⟩ := e
 exact bx_where hb _ _ _ _ _ _ _ _ _
theorem SmF.fin {w0 wr wz : World} {pb g : Nat} {ts : List Tk} {d : DS} {x : XSt} (h : SmF w0 wr pb g ts d x) (f : Frm (fun k => k = w0.heap.size) wr wz) {st : Stm} (hst : x.er = st) : EndV w0 pb ts (st, d) (.returned x.val) wz := by
 have h1 := h.hp
 have h2 := h.hg
 refine ⟨x, rfl, hst, ?_, ⟨h.dp.fr.trans f (fun k hk => .inr (by have : k = w0.heap.size := hk; omega)), h.dp.ds.frm f (fun k hk e => by have : k = w0.heap.size := e; omega)⟩⟩
 exact XSt.Mem.mono (fun k hk => by have : g < k := hk; show w0.heap.size ≤ k; omega) (h.mm.frm f (fun k hk e => by have e1 : g < k := hk; have e2 : k = w0.heap.size := e; omega))
section
variable {α β : Type} {E : EK Tryz.prog α β}
structure SmS (E : EK Tryz.prog α β) (X : Bl) (w0 wr : World) (pb g : Nat) (ts : List Tk) (d : DS) (c : Value → Array Value) (v : Value) (xs : List α) (x : XSt) : Prop where
 dp : Dp w0 wr pb ts d
 hp : pb < w0.heap.size
 hg : w0.heap.size < g
 rb : Bx wr w0.heap.size zst 34
 bx : Bx wr g (c v) 34
 own : OwR E.toRK wr (g + 1) v xs
 mm : ∀ y ∈ xs, E.Mem (fun k => g < k ∧ v.ownBlock ≠ some k ∧ ¬ X k) wr y
 oth : XSt.Mem (fun k => g < k ∧ v.ownBlock ≠ some k ∧ ¬ X k) wr x
 xg : ∀ k, X k → g < k ∧ k < wr.heap.size ∧ v.ownBlock ≠ some k
abbrev NX : Bl := fun _ => False
theorem SmF.grow {w0 wr : World} {pb g : Nat} {ts : List Tk} {d : DS} {x : XSt} (h : SmF w0 wr pb g ts d x) {c : Value → Array Value} (hc : c (.slice none 0 0) = x.enc.toArray) : SmS E NX w0 wr pb g ts d c (.slice none 0 0) [] x :=
 ⟨h.dp, h.hp, h.hg, h.rb, by rw [hc]; exact h.bx, OwR.nil _ _, (fun y hy => by cases hy), h.mm.mono (fun k hk => ⟨hk, by simp [Value.ownBlock], id⟩), fun k hk => hk.elim⟩
theorem SmF.growX {w0 wr w' : World} {pb g h9 : Nat} {ts : List Tk} {d d' : DS} {x : XSt} (h : SmF w0 wr pb g ts d x) (s : Dp wr w' pb ts d') (h1 : wr.heap.size ≤ h9) (h2 : h9 < w'.heap.size) {c : Value → Array Value} (hc : c (.slice none 0 0) = x.enc.toArray) : SmS E (fun k => k = h9) w0 w' pb g ts d' c (.slice none 0 0) [] x := by
 have h' := h.step s
 have hb := h.bx.lt
 have hm := h.mm.old.frm s.fr (fun k hk e => by have e1 : g < k := hk.1; have e2 : k = pb := e; have := h.hp; have := h.hg; omega)
 refine ⟨h'.dp, h.hp, h.hg, h'.rb, by rw [hc]; exact h'.bx, OwR.nil _ _, (fun y hy => by cases hy), hm.mono (fun k hk => ⟨hk.1, by simp [Value.ownBlock], fun e => by have := hk.2; omega⟩), fun k hk => ⟨by omega, by omega, by simp [Value.ownBlock]⟩⟩
theorem SmS.frm {X F : Bl} {w0 wr w' : World} {pb g : Nat} {ts : List Tk} {d d' : DS} {c : Value → Array Value} {v : Value} {xs : List α} {x : XSt} (h : SmS E X w0 wr pb g ts d c v xs x) (f : Frm F wr w') (hF : ∀ k, F k → k = pb ∨ X k ∨ wr.heap.size ≤ k) (hd : DsM w' pb ts d') : SmS E X w0 w' pb g ts d' c v xs x := by
 have h1 := h.hp
 have h2 := h.hg
 have hl := h.bx.lt
 have f' : Frm (fun k => k = pb ∨ X k) wr w' := ⟨f.os, f.tape, f.output, f.size, fun k hk hn => f.block k hk (fun e => by
  rcases hF k e with e | e | e
  ·exact hn (.inl e)
  ·exact hn (.inr e)
  ·omega)⟩
 refine ⟨⟨h.dp.fr.trans f' (fun k hk => ?_), hd⟩, h.hp, h.hg, h.rb.frm f' (fun e => ?_), h.bx.frm f' (fun e => ?_), h.own.step f' (fun k hk e => ?_), fun y hy => E.frm f' (fun k hk e => ?_) y (h.mm y hy), h.oth.frm f' (fun k hk e => ?_), fun k hk => ⟨(h.xg k hk).1, Nat.lt_of_lt_of_le (h.xg k hk).2.1 f'.size, (h.xg k hk).2.2⟩⟩
 ·rcases hk with e | e
  ·exact .inl e
  ·exact .inr (by have := (h.xg k e).1; omega)
 ·rcases e with e | e
  ·omega
  ·have := (h.xg _ e).1; omega
 ·rcases e with e | e
  ·omega
  ·have := (h.xg _ e).1; omega
 ·rcases e with e | e
  ·have e1 := (h.own.lt hk).1; omega
  ·exact (h.xg k e).2.2 hk
 ·rcases e with e | e
  ·have := hk.1; omega
  ·exact hk.2.2 e
 ·rcases e with e | e
  ·have := hk.1; omega
  ·exact hk.2.2 e
theorem SmS.step {X : Bl} {w0 wr w' : World} {pb g : Nat} {ts : List Tk} {d d' : DS} {c : Value → Array Value} {v : Value} {xs : List α} {x : XSt} (h : SmS E X w0 wr pb g ts d c v xs x) (s : Dp wr w' pb ts d') : SmS E X w0 w' pb g ts d' c v xs x :=
 h.frm s.fr (fun k hk => .inl hk) s.ds
theorem SmS.below {X : Bl} {w0 wr w' : World} {pb g : Nat} {ts : List Tk} {d : DS} {c : Value → Array Value} {v : Value} {xs : List α} {x : XSt} (h : SmS E X w0 wr pb g ts d c v xs x) (b : Below wr.heap.size wr w') : SmS E X w0 w' pb g ts d c v xs x :=
 h.frm (Frm.of_below (F := NX) b) (fun k hk => hk.elim) (h.dp.ds.below b)
theorem SmS.fresh {X : Bl} {w0 wr w' : World} {pb g : Nat} {ts : List Tk} {d : DS} {c : Value → Array Value} {v : Value} {xs : List α} {x : XSt} (h : SmS E X w0 wr pb g ts d c v xs x) {y : α} (hy : E.Mem (GE wr.heap.size) w' y) : E.Mem (fun k => g < k ∧ v.ownBlock ≠ some k ∧ ¬ X k) w' y := by
 have hl := h.bx.lt
 exact E.mono (fun k hk => ⟨by have : wr.heap.size ≤ k := hk; omega, fun e => by have e1 := (h.own.lt e).2.1; have : wr.heap.size ≤ k := hk; omega, fun e => by have e1 := (h.xg k e).2.1; have : wr.heap.size ≤ k := hk; omega⟩) y hy
theorem SmS.push {X : Bl} {w0 w2 w' : World} {pb g : Nat} {ts : List Tk} {d : DS} {c : Value → Array Value} {f : Nat} {v v' : Value} {xs : List α} {x : XSt} {y : α} (h : SmS E X w0 w2 pb g ts d c v xs x) (hy : E.Mem (fun k => g < k ∧ v.ownBlock ≠ some k ∧ ¬ X k) w2 y)
  (ho : OwR E.toRK w' (g + 1) v' (xs ++ [y])) (hgr : (w2.alloc (.cells (E.cells [y]).toArray E.te)).grownBy w' v.ownBlock) (hn : NewR (w2.alloc (.cells (E.cells [y]).toArray E.te)) v v') (hc : (c v).setIfInBounds f v' = c v') :
  Bx w' g (c v) 34 ∧ SmS E X w0 (w'.setCell ⟨g, f, none⟩ v') pb g ts d c v' (xs ++ [y]) x := by
 have h1 := h.hp
 have h2 := h.hg
 have b3 : Below w2.heap.size w2 (w2.alloc (.cells (E.cells [y]).toArray E.te)) := (Below.refl _ _).alloc (Nat.le_refl _) _
 have hs3 := b3.size
 have hA := h.below b3
 have f1 : Frm (fun k => v.ownBlock = some k) (w2.alloc (.cells (E.cells [y]).toArray E.te)) w' := (Frm.refl _ _).grown hgr (fun k hk => .inl hk)
 have f2 : Frm (fun k => k = g) w' (w'.setCell ⟨g, f, none⟩ v') := Frm.set1 (F := fun k => k = g) w' rfl f v'
 have hbx : Bx w' g (c v) 34 := hA.bx.frm f1 (fun e => by have := (hA.own.lt e).1; omega)
 have hbs := box_set hbx f v'
 rw [hc] at hbs
 have hne : ∀ k, k < w2.heap.size → v.ownBlock ≠ some k → v'.ownBlock ≠ some k := fun k hk h1 h3 => by
  rcases hn k h3 with g | g
  ·exact h1 g
  ·omega
 have fA : Frm (fun k => v.ownBlock = some k ∨ k = g) (w2.alloc (.cells (E.cells [y]).toArray E.te)) (w'.setCell ⟨g, f, none⟩ v') := (f1.mono (fun k hk => .inl hk)).trans f2 (fun k hk => .inl (.inr hk))
 refine ⟨hbx, ⟨⟨hA.dp.fr.trans fA (fun k hk => .inr ?_), hA.dp.ds.frm fA (fun k hk e => ?_)⟩, h.hp, h.hg, hA.rb.frm fA (fun e => ?_), hbs, ho.step f2 (fun k hk e => by have e1 := (ho.lt hk).1; have e2 : k = g := e; omega), fun z hz => ?_, ?_, fun k hk => ⟨(h.xg k hk).1, Nat.lt_of_lt_of_le (h.xg k hk).2.1 (Nat.le_trans hs3 fA.size), hne k (h.xg k hk).2.1 (h.xg k hk).2.2⟩⟩⟩
 ·rcases hk with e | e
  ·have := (hA.own.lt e).1; omega
  ·omega
 ·rcases e with e | e
  ·have := (hA.own.lt e).1; omega
  ·omega
 ·rcases e with e | e
  ·have := (hA.own.lt e).1; omega
  ·omega
 ·have key : ∀ z, E.Mem (fun k => g < k ∧ v.ownBlock ≠ some k ∧ ¬ X k) w2 z → E.Mem (fun k => g < k ∧ v'.ownBlock ≠ some k ∧ ¬ X k) (w'.setCell ⟨g, f, none⟩ v') z := fun z hz => by
   have g1 := E.old z hz
   refine E.mono (fun k hk => ?_) z (E.frm fA (fun k hk e => ?_) z (E.below g1 b3))
   ·exact ⟨hk.1.1, hne k hk.2 hk.1.2.1, hk.1.2.2⟩
   ·rcases e with e | e
    ·exact hk.1.2.1 e
    ·have := hk.1.1; omega
  rcases List.mem_append.1 hz with hz | hz
  ·exact key z (h.mm z hz)
  ·obtain rfl : z = y := by simpa using hz
   exact key z hy
 ·have g1 := h.oth.old
  refine XSt.Mem.mono (fun k hk => ?_) (XSt.Mem.frm fA (fun k hk e => ?_) (g1.below b3))
  ·exact ⟨hk.1.1, hne k hk.2 hk.1.2.1, hk.1.2.2⟩
  ·rcases e with e | e
   ·exact hk.1.2.1 e
   ·have := hk.1.1; omega
theorem SmS.done {X : Bl} {w0 wr : World} {pb g : Nat} {ts : List Tk} {d : DS} {c : Value → Array Value} {v : Value} {xs : List α} {x : XSt} (h : SmS E X w0 wr pb g ts d c v xs x) (up : XL α → XSt) (hup : ∀ y : XL α, (up y).enc.toArray = c y.val)
  (hum : ∀ (y : XL α), XL.Mem E (GT g) wr y → XSt.Mem (GT g) wr x → XSt.Mem (GT g) wr (up y)) : ∃ y : XL α, v = y.val ∧ y.xs = xs ∧ SmF w0 wr pb g ts d (up y) := by
 obtain ⟨y, e1, e2, e3⟩ := OwR.xl h.own (fun z hz => E.mono (fun k hk => hk.1) z (h.mm z hz))
 refine ⟨y, e1, e2, h.dp, h.hp, h.hg, h.rb, ?_, hum y (XL.Mem.mono (fun k hk => hk) y e3) (h.oth.mono (fun k hk => hk.1))⟩
 rw [hup, ← e1]
 exact h.bx
structure ElS (E : EK Tryz.prog α β) (wr wc : World) (pb h : Nat) (ts : List Tk) (d : DS) (y : α) : Prop where
 dp : Dp wr wc pb ts d
 hp : pb < wr.heap.size
 lo : wr.heap.size ≤ h
 bx : Bx wc h (E.enc y).toArray E.te
 mm : E.Mem (fun k => wr.heap.size ≤ k ∧ k ≠ h) wc y
theorem new_box {w wz : World} {o : Obj} (f : Frm (fun k => k = w.heap.size) (w.alloc o) wz) : Below w.heap.size w wz :=
 ((Frm.of_below (F := fun k => k = w.heap.size) ((Below.refl w.heap.size w).alloc (Nat.le_refl _) o)).trans f (fun k hk => .inl hk)).below (fun k hk => Nat.le_of_eq hk.symm) (Nat.le_refl _)
theorem ElS.made {wr w8 wz : World} {pb : Nat} {ts : List Tk} {d : DS} {y : α} {o : Obj} (s : Dp wr w8 pb ts d) (hp : pb < wr.heap.size) (f : Frm (fun k => k = w8.heap.size) (w8.alloc o) wz) (hb : Bx wz w8.heap.size (E.enc y).toArray E.te) (hm : E.Mem (GE wr.heap.size) w8 y) : ElS E wr wz pb w8.heap.size ts d y :=
 ⟨s.below (new_box f), hp, s.fr.size, hb, E.mono (fun k hk => ⟨hk.1, Nat.ne_of_lt hk.2⟩) y (E.below (E.old y hm) (new_box f))⟩
theorem ElS.step {wr wc w' : World} {pb h : Nat} {ts : List Tk} {d d' : DS} {y : α} (e : ElS E wr wc pb h ts d y) (s : Dp wc w' pb ts d') : ElS E wr w' pb h ts d' y := by
 have h1 := e.hp
 have h2 := e.lo
 exact ⟨e.dp.trans s, e.hp, e.lo, e.bx.frm s.fr (fun q => by have q1 : h = pb := q; omega), E.frm s.fr (fun k hk q => by have q1 := hk.1; have q2 : k = pb := q; omega) y e.mm⟩
theorem ElS.put {wr wc w' : World} {pb h : Nat} {ts : List Tk} {d : DS} {y y' : α} (e : ElS E wr wc pb h ts d y) (f : Frm (fun k => k = h) wc w') (hb : Bx w' h (E.enc y').toArray E.te) (hm : E.Mem (fun k => wr.heap.size ≤ k ∧ k ≠ h) wc y') : ElS E wr w' pb h ts d y' := by
 have h1 := e.hp
 have h2 := e.lo
 exact ⟨⟨e.dp.fr.trans f (fun k hk => .inr (by have : k = h := hk; omega)), e.dp.ds.frm f (fun k hk q => by have : k = h := q; omega)⟩, e.hp, e.lo, hb, E.frm f (fun k hk q => hk.2 q) y' hm⟩
theorem ElS.set {wr wc : World} {pb h : Nat} {ts : List Tk} {d : DS} {y : α} (e : ElS E wr wc pb h ts d y) (y' : α) (o : Nat) (u : Value) (hy : (E.enc y).toArray.setIfInBounds o u = (E.enc y').toArray) (hm : E.Mem (fun k => wr.heap.size ≤ k ∧ k ≠ h) wc y') : ElS E wr (wc.setCell ⟨h, o, none⟩ u) pb h ts d y' := by
 refine e.put (Frm.set1 (F := fun k => k = h) wc rfl o u) ?_ hm
 have hb := box_set e.bx o u
 rw [hy] at hb
 exact hb
structure LsD (E : EK Tryz.prog α β) (w wr : World) (pb : Nat) (ts : List Tk) (d : DS) (v : Value) (xs : List α) : Prop where
 st : Dp w wr pb ts d
 own : OwR E.toRK wr w.heap.size v xs
 mm : ∀ x ∈ xs, E.Mem (fun k => w.heap.size ≤ k ∧ v.ownBlock ≠ some k) wr x
 hp : pb < w.heap.size
theorem LsD.made {w : World} {pb : Nat} {ts : List Tk} {d : DS} (h : DsM w pb ts d) : LsD E w (w.alloc (.cells #[] E.te)) pb ts d (.slice (some ⟨w.heap.size, 0, none⟩) 0 0) [] :=
 ⟨(Dp.refl h).below ((Below.refl _ _).alloc (Nat.le_refl _) _), OwR.made (K := E.toRK) w (Nat.le_refl _) [] (by simp [maxLen]), (fun x hx => by cases hx), h.lt⟩
theorem LsD.step {w wr w2 : World} {pb : Nat} {ts : List Tk} {d d2 : DS} {v : Value} {xs : List α} (h : LsD E w wr pb ts d v xs) (h2 : Dp wr w2 pb ts d2) : LsD E w w2 pb ts d2 v xs :=
 ⟨h.st.trans h2, h.own.step h2.fr (fun k hk e => by have := (h.own.lt hk).1; have := h.hp; have : k = pb := e; omega), fun x hx => E.frm h2.fr (fun k hk e => by have := hk.1; have := h.hp; have : k = pb := e; omega) x (h.mm x hx), h.hp⟩
theorem LsD.push {w wr w2 w' : World} {pb : Nat} {ts : List Tk} {d d2 : DS} {v v' : Value} {xs : List α} {y : α} (h : LsD E w wr pb ts d v xs) (h2 : Dp wr w2 pb ts d2) (hy : E.Mem (GE wr.heap.size) w2 y)
  (ho : OwR E.toRK w' w.heap.size v' (xs ++ [y])) (hg : (w2.alloc (.cells (E.cells [y]).toArray E.te)).grownBy w' v.ownBlock) (hn : NewR (w2.alloc (.cells (E.cells [y]).toArray E.te)) v v') : LsD E w w' pb ts d2 v' (xs ++ [y]) := by
 have hA := h.step h2
 have b3 : Below w2.heap.size w2 (w2.alloc (.cells (E.cells [y]).toArray E.te)) := (Below.refl _ _).alloc (Nat.le_refl _) _
 have hs3 := b3.size
 have f : Frm (fun k => v.ownBlock = some k) (w2.alloc (.cells (E.cells [y]).toArray E.te)) w' := (Frm.refl _ _).grown hg (fun k hk => .inl hk)
 have hpb := h.hp
 have hw := h.st.fr.size
 have hw2 := h2.fr.size
 refine ⟨⟨(hA.st.fr.step b3).grown hg (fun k hk => .inr (h.own.lt hk).1), (hA.st.ds.below b3).frm f (fun k hk e => by have := (h.own.lt e).1; omega)⟩, ho, fun x hx => ?_, hpb⟩
 have hne : ∀ k, k < w2.heap.size → v.ownBlock ≠ some k → v'.ownBlock ≠ some k := fun k hk h1 h3 => by
  rcases hn k h3 with g | g
  ·exact h1 g
  ·omega
 rcases List.mem_append.1 hx with hx | hx
 ·have h1 := E.old x (hA.mm x hx)
  refine E.mono (fun k hk => ?_) x (E.frm f (fun k hk e => hk.1.2 e) x (E.below h1 b3))
  exact ⟨hk.1.1, hne k hk.2 hk.1.2⟩
 ·obtain rfl : x = y := by simpa using hx
  have h1 := E.old x hy
  have hq : ∀ k, wr.heap.size ≤ k → v.ownBlock ≠ some k := fun k hk e => by have := (h.own.lt e).2.1; omega
  refine E.mono (fun k hk => ?_) x (E.frm f (fun k hk e => hq k hk.1 e) x (E.below h1 b3))
  have hk1 : wr.heap.size ≤ k := hk.1
  exact ⟨by omega, hne k hk.2 (hq k hk.1)⟩
theorem LsD.out {w wr : World} {pb : Nat} {ts : List Tk} {d : DS} {v : Value} {xs : List α} (h : LsD E w wr pb ts d v xs) : ∃ y : XL α, v = y.val ∧ y.xs = xs ∧ XL.Mem E (GE w.heap.size) wr y :=
 OwR.xl h.own (fun x hx => E.mono (fun k hk => hk.1) x (h.mm x hx))
theorem LsD.xl {w wr : World} {pb : Nat} {ts : List Tk} {d : DS} {a : Option Addr} {n cap : Nat} {xs : List α} (h : LsD E w wr pb ts d (.slice a n cap) xs) : XL.Mem E (GE w.heap.size) wr ⟨a, cap, xs⟩ := by
 obtain ⟨y, h1, h2, h3⟩ := h.out
 obtain ⟨ya, yc, yx⟩ := y
 unfold XL.val at h1
 injection h1 with e1 e2 e3
 subst e1 e3
 dsimp only at h2
 subst h2
 exact h3
theorem EK.one_all (x : α) : (E.enc x).toArray.all (·.oneCell') = true := all_oneCell_toArray (E.one x)
theorem infoE : (Tryz.prog.info? E.te).map (·.size) = some E.n := by
 obtain ⟨i0, h1, -, h3, -⟩ := E.toRK.parts
 rw [h1]; simp [h3]
theorem wpSe {ops : Array Oper} {rest : List Oper} {o : Oper} {a : Act} {w : World} {Q : Exit → Act → World → Prop} (E : EK Tryz.prog α β) (hgd : o.guard = none) (p v : Operand) (ho : o.op = .store E.te p v) {g : Nat} {cs : Array Value} {x : α} (hv0 : E.val x = .agg (E.enc x).toArray) (hb : Bx w g cs E.te) (hcs : cs.size = E.n) (hp : a.eval p = .pointer (some ⟨g, 0, none⟩)) (hv : a.eval v = E.val x)
  (h : ∀ wz, Frm (fun k => k = g) w wz → Bx wz g (E.enc x).toArray E.te → wpList Tryz.prog ops Q rest (a.put o.dst undef) wz) : wpList Tryz.prog ops Q (o :: rest) a w := by
 have hst : (Instr.storeAt E.te (.pointer (some ⟨g, 0, none⟩)) (E.val x)).run Tryz.prog w = .ok () (stL w g 0 (E.enc x)) := by
  rw [hv0, ← setCells_stL]
  exact run_storeAt_mid (P := Tryz.prog) w g 0 E.te (E.enc x).toArray (fun j hj => by
   have hj' : j < E.n := by simpa [E.len] using hj
   rw [Nat.zero_add]
   exact ⟨by rw [cell_of_block hb, Array.getElem?_eq_getElem (by rw [hcs]; exact hj')]; rfl, hb.frz j⟩) (by rw [infoE]; simp [E.len]) (EK.one_all x)
 have hf : Frm (fun k => k = g) w (stL w g 0 (E.enc x)) := stL_frm (F := fun k => k = g) (.inl rfl) _ _ (Frm.refl _ _)
 have hbz : Bx (stL w g 0 (E.enc x)) g (E.enc x).toArray E.te := stL_all hb _ (by rw [E.len, hcs])
 exact wpList_plain hgd fun _ hK => by
  unfold Oper.wp execOp
  simp only [ho, hp, hv, Sem.run_bind, Sem.run_pure, Result.andThen_ok, hst]
  exact hK _ _ (h _ hf hbz)
theorem wpLe {ops : Array Oper} {rest : List Oper} {o : Oper} {a : Act} {w : World} {Q : Exit → Act → World → Prop} (E : EK Tryz.prog α β) {dd : TypeDesc} (hu : Tryz.prog.underlying E.te = some dd) (hr : dd.isRow = true) (hgd : o.guard = none) (p : Operand) (ho : o.op = .load E.te p) {g : Nat} {x : α} (hv0 : E.val x = .agg (E.enc x).toArray) (hb : Bx w g (E.enc x).toArray E.te) (hp : a.eval p = .pointer (some ⟨g, 0, none⟩))
  (h : wpList Tryz.prog ops Q rest (a.put o.dst (E.val x)) w) : wpList Tryz.prog ops Q (o :: rest) a w := by
 have hld : (Instr.loadAt E.te (.pointer (some ⟨g, 0, none⟩))).run Tryz.prog w = .ok (E.val x) w := by
  rw [hv0]
  exact run_loadAt_mid (P := Tryz.prog) w g 0 E.te (E.enc x) dd (fun j v hj => by rw [Nat.zero_add]; exact hb.cell (by simpa using hj)) hu hr (by rw [infoE, E.len])
 exact wpList_plain hgd fun _ hK => by
  unfold Oper.wp execOp
  simp only [ho, hp, Sem.run_bind, Sem.run_pure, Result.andThen_ok, hld]
  exact hK _ _ h
end
theorem wpSx9 {ops : Array Oper} {rest : List Oper} {o : Oper} {a : Act} {w : World} {Q : Exit → Act → World → Prop} (hgd : o.guard = none) (p v : Operand) (ho : o.op = .store 30 p v) {g off : Nat} {x : XE} {cs : Array Value} {T : TypeId} (hb : Bx w g cs T) (hcs : off + 7 ≤ cs.size) (hp : a.eval p = .pointer (some ⟨g, off, none⟩)) (hv : a.eval v = x.val)
  (h : wpList Tryz.prog ops Q rest (a.put o.dst undef) (stL w g off x.enc)) : wpList Tryz.prog ops Q (o :: rest) a w := by
 have hst : (Instr.storeAt 30 (.pointer (some ⟨g, off, none⟩)) x.val).run Tryz.prog w = .ok () (stL w g off x.enc) := by
  rw [XE.val_eq, XE.encA_eq, ← setCells_stL]
  exact run_storeAt_mid (P := Tryz.prog) w g off 30 x.enc.toArray (fun j hj => by
   have hj' : j < 7 := by simpa [XE.enc_len] using hj
   exact ⟨by rw [cell_of_block hb, Array.getElem?_eq_getElem (by omega)]; rfl, hb.frz _⟩) (by rw [infoXE]; simp [XE.enc_len]) (all_oneCell_toArray x.enc_one)
 exact wpList_plain hgd fun _ hK => by
  unfold Oper.wp execOp
  simp only [ho, hp, hv, Sem.run_bind, Sem.run_pure, Result.andThen_ok, hst]
  exact hK _ _ h
theorem dMore_opn (ts : List Tk) (n most : Nat) (s : DS) : (dMore ts n most s).2.opn = s.opn ∧ s.i ≤ (dMore ts n most s).2.i ∧ ((dMore ts n most s).1 = true → (dMore ts n most s).2.i = s.i + 1 ∧ s.i < ts.length ∧ n ≠ most) := by
 unfold dMore
 by_cases c : dIs ts 5 [44] s = true
 ·rw [if_pos c]
  by_cases c2 : n = most
  ·rw [if_pos c2]
   have := dFail_opn 151 s
   exact ⟨this.1, by rw [this.2.1]; exact Nat.le_refl _, fun e => by cases e⟩
  ·rw [if_neg c2]
   exact ⟨rfl, Nat.le_succ _, fun _ => ⟨rfl, dIs_lt c, c2⟩⟩
 ·rw [if_neg c]
  exact ⟨rfl, Nat.le_refl _, fun e => by cases e⟩
theorem bindO_some {α β : Type} {x : Option (α × DS)} {f : α → DS → Option (β × DS)} {r : β × DS} (h : bindO x f = some r) : ∃ a s, x = some (a, s) ∧ f a s = some r := by
 cases x with
 | none => cases h
 | some p => exact ⟨p.1, p.2, rfl, h⟩
end Go.Proofs.YtofnkfjhmjecjaaGreatDoor

namespace Go.Proofs.YtofnkfjhmjecjaaGreatDoor
set_option maxRecDepth 100000
open Go.RowKit Go.Joins Go.ChangeShapes Go.WideShapes Go.Great
set_option linter.unusedVariables false
set_option linter.unusedSimpArgs false
theorem must_n {w : World} {pb : Nat} {ts : List Tk} {s d : DS} (h : DsM w pb ts s) (k : Nat) (kz : Int) (hk : (k : Int) = kz) (wd : List Nat) (hwd : ∀ x ∈ wd, x < 256) (hd : dMust ts k wd s = d) :
  Calls Tryz.prog 51 #[.pointer (some ⟨pb, 0, none⟩), .int .i64 kz, .string (strB wd)] w fun e w' => e = .returned (.tuple #[]) ∧ Dp w w' pb ts d := by
 have := must_d h k wd hwd
 rw [hd, hk] at this
 exact this
theorem got_n {w : World} {pb : Nat} {ts : List Tk} {s d : DS} {b : Bool} (h : DsM w pb ts s) (k : Nat) (kz : Int) (hk : (k : Int) = kz) (wd : List Nat) (hwd : ∀ x ∈ wd, x < 256) (hd : dGot ts k wd s = (b, d)) :
  Calls Tryz.prog 48 #[.pointer (some ⟨pb, 0, none⟩), .int .i64 kz, .string (strB wd)] w fun e w' => e = .returned (.bool b) ∧ Dp w w' pb ts d := by
 have := got_d h k wd hwd
 rw [hd, hk] at this
 exact this
theorem is_n {w : World} {pb : Nat} {ts : List Tk} {s : DS} {b : Bool} (h : DsM w pb ts s) (k : Nat) (kz : Int) (hk : (k : Int) = kz) (wd : List Nat) (hwd : ∀ x ∈ wd, x < 256) (hd : dIs ts k wd s = b) :
  Calls Tryz.prog 123 #[.pointer (some ⟨pb, 0, none⟩), .int .i64 kz, .string (strB wd)] w fun e w' => e = .returned (.bool b) ∧ Dp w w' pb ts s := by
 have := is_d h k wd hwd
 rw [hd, hk] at this
 exact this.mono fun e w' ⟨h1, h2⟩ => ⟨h1, (Dp.refl h).below h2⟩
theorem fail_n {w : World} {pb : Nat} {ts : List Tk} {s d : DS} (h : DsM w pb ts s) (c : Nat) (cz : Int) (hk : (c : Int) = cz) (hc : c ≤ 1000) (hd : dFail c s = d) :
  Calls Tryz.prog 24 #[.pointer (some ⟨pb, 0, none⟩), .int .i64 cz] w fun e w' => e = .returned (.tuple #[]) ∧ Dp w w' pb ts d := by
 have := fail_d h c hc
 rw [hd, hk] at this
 exact this
theorem more_n {w : World} {pb : Nat} {ts : List Tk} {s d : DS} {b : Bool} (h : DsM w pb ts s) (n most : Nat) (mz : Int) (hm : (most : Int) = mz) (hd : dMore ts n most s = (b, d)) :
  Calls Tryz.prog 55 #[.pointer (some ⟨pb, 0, none⟩), .int .i64 (n : Int), .int .i64 mz] w fun e w' => e = .returned (.bool b) ∧ Dp w w' pb ts d := by
 have := more_d h n most
 rw [hd, hm] at this
 exact this
theorem name_n {w : World} {pb : Nat} {ts : List Tk} {s d : DS} {t : List Nat} (h : DsM w pb ts s) (hd : dName ts s = (t, d)) :
  Calls Tryz.prog 50 #[.pointer (some ⟨pb, 0, none⟩)] w fun e w' => e = .returned (.string (strB t)) ∧ Dp w w' pb ts d := by
 have := name_d h
 rw [hd] at this
 exact this
theorem alias_n {w : World} {pb : Nat} {ts : List Tk} {s d : DS} {t : List Nat} (h : DsM w pb ts s) (hd : dAlias ts s = (t, d)) :
  Calls Tryz.prog 125 #[.pointer (some ⟨pb, 0, none⟩)] w fun e w' => e = .returned (.string (strB t)) ∧ Dp w w' pb ts d := by
 have := alias_d h
 rw [hd] at this
 exact this
theorem whole_n {w : World} {pb : Nat} {ts : List Tk} {s d : DS} {n : Nat} {x : Ex} (h : DsM w pb ts s) (ho : s.opn = 0) (hd : dWhole ts n s = some (x, d)) :
  Calls Tryz.prog 54 #[.pointer (some ⟨pb, 0, none⟩)] w fun e w' => ∃ y : XE, e = .returned y.val ∧ y.er = x ∧ XE.Mem (GE w.heap.size) w' y ∧ Dp w w' pb ts d ∧ d.opn = 0 ∧ s.i ≤ d.i :=
 (whole_d h (.inl (by omega)) hd).mono fun e w' ⟨y, h1, h2, h3, h4, h5, h6⟩ => ⟨y, h1, h2, h3, h4, by rw [← ho]; exact h5, h6⟩
theorem where_n {w : World} {pb : Nat} {ts : List Tk} {s d : DS} {n : Nat} {x : Ex} (h : DsM w pb ts s) (ho : s.opn = 0) (hd : dWhere ts n s = some (x, d)) :
  Calls Tryz.prog 56 #[.pointer (some ⟨pb, 0, none⟩)] w fun e w' => ∃ y : XE, e = .returned y.val ∧ y.er = x ∧ XE.Mem (GE w.heap.size) w' y ∧ Dp w w' pb ts d ∧ d.opn = 0 ∧ s.i ≤ d.i :=
 (where_d h (.inl (by omega)) hd).mono fun e w' ⟨y, h1, h2, h3, h4, h5, h6⟩ => ⟨y, h1, h2, h3, h4, by rw [← ho]; exact h5, h6⟩
theorem some_pair {α β : Type} {a a' : α} {b b' : β} (h : some (a, b) = some (a', b')) : a = a' ∧ b = b' := by
 injection h with h
 injection h with h1 h2
 exact ⟨h1, h2⟩
structure SmP (w0 wr : World) (pb : Nat) (ts : List Tk) (d : DS) : Prop where
 dp : Dp w0 wr pb ts d
 hp : pb < w0.heap.size
 rb : Bx wr w0.heap.size zst 34
theorem SmP.start {w : World} {pb : Nat} {ts : List Tk} {s : DS} (h : DsM w pb ts s) : SmP w (w.alloc (.cells zst 34)) pb ts s :=
 ⟨(Dp.refl h).below ((Below.refl _ _).alloc (Nat.le_refl _) _), h.lt, Bx.new _ _ _⟩
theorem SmP.step {w0 wr w' : World} {pb : Nat} {ts : List Tk} {d d' : DS} (h : SmP w0 wr pb ts d) (s : Dp wr w' pb ts d') : SmP w0 w' pb ts d' :=
 ⟨h.dp.trans s, h.hp, h.rb.frm s.fr (fun e => by have e1 : w0.heap.size = pb := e; have := h.hp; omega)⟩
theorem SmP.made {w0 w2 wz : World} {pb : Nat} {ts : List Tk} {d : DS} {x : XSt} (h : SmP w0 w2 pb ts d) (f : Frm (fun k => k = w2.heap.size) (w2.alloc (.cells zst 34)) wz) (hb : Bx wz w2.heap.size x.enc.toArray 34) (hm : XSt.Mem (GT w2.heap.size) wz x) : SmF w0 wz pb w2.heap.size ts d x := SmF.made h.dp h.hp h.rb f hb hm
end Go.Proofs.YtofnkfjhmjecjaaGreatDoor
