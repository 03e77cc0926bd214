/-
  Texts of mine put together, in build order.
  Conditions: as each declaration says.
-/
import Derived.Test.YtofnkfjhmjecjaaGreatDoorZp6
import Derived.Test.YtofnkfjhmjecjaaGreatDoorZp9
namespace Go.Proofs.YtofnkfjhmjecjaaGreatDoor
set_option maxRecDepth 100000
open Go.RowKit Go.Joins Go.ChangeShapes Go.WideShapes
set_option linter.unusedVariables false
set_option linter.unusedSimpArgs false
structure EK (P : Program) (α β : Type) extends RK P α where
 er : α → β
 val : α → Value
 Mem : Bl → World → α → Prop
 frm : ∀ {K F : Bl} {w w1 : World}, Frm F w w1 → (∀ k, K k → ¬ F k) → ∀ x, Mem K w x → Mem K w1 x
 mono : ∀ {K K' : Bl} {w : World}, (∀ k, K k → K' k) → ∀ x, Mem K w x → Mem K' w x
 old : ∀ {K : Bl} {w : World} x, Mem K w x → Mem (fun k => K k ∧ k < w.heap.size) w x
def exk : EK Tryz.prog XE Ex where
 toRK := xk
 er := XE.er
 val := XE.val
 Mem := XE.Mem
 frm := XE.Mem.frm
 mono := XE.Mem.mono
 old := XE.Mem.old
def stk : EK Tryz.prog (List Nat) (List Nat) where
 enc := fun l => [.string (strB l)]
 n := 1
 te := 9
 ts := 24
 bytes := 16
 z := .string ByteArray.empty
 len := fun _ => rfl
 one := fun x u hu => by
  simp only [List.mem_cons, List.not_mem_nil, or_false] at hu
  subst hu; rfl
 pos := by decide
 by0 := by decide
 hu := Tryz.underlying24
 info := by kernel_rfl
 zc := rfl
 er := id
 val := fun l => .string (strB l)
 Mem := fun _ _ _ => True
 frm := fun _ _ _ h => h
 mono := fun _ _ h => h
 old := fun _ h => h
def cok : EK Tryz.prog Co Co where
 enc := fun c => [.string (strB c.name), .int .i64 (c.type : Int), .bool c.req]
 n := 3
 te := 74
 ts := 23
 bytes := 32
 z := .agg #[.string ByteArray.empty, .int .i64 0, .bool false]
 len := fun _ => rfl
 one := fun x u hu => by
  simp only [List.mem_cons, List.not_mem_nil, or_false] at hu
  rcases hu with rfl | rfl | rfl <;> rfl
 pos := by decide
 by0 := by decide
 hu := Tryz.underlying23
 info := by kernel_rfl
 zc := rfl
 er := id
 val := fun c => .agg #[.string (strB c.name), .int .i64 (c.type : Int), .bool c.req]
 Mem := fun _ _ _ => True
 frm := fun _ _ _ h => h
 mono := fun _ _ h => h
 old := fun _ h => h
theorem one_app {l r : List Value} (hl : ∀ u ∈ l, u.oneCell' = true) (hr : ∀ u ∈ r, u.oneCell' = true) : ∀ u ∈ l ++ r, u.oneCell' = true := fun u hu => by
 rcases List.mem_append.1 hu with h | h
 ·exact hl u h
 ·exact hr u h
theorem one_s (s : ByteArray) : ∀ u ∈ [Value.string s], u.oneCell' = true := fun u hu => by
 simp only [List.mem_cons, List.not_mem_nil, or_false] at hu
 subst hu; rfl
theorem one_s2 (s t : ByteArray) : ∀ u ∈ [Value.string s, Value.string t], u.oneCell' = true := fun u hu => by
 simp only [List.mem_cons, List.not_mem_nil, or_false] at hu
 rcases hu with rfl | rfl <;> rfl
theorem one_b (b : Bool) : ∀ u ∈ [Value.bool b], u.oneCell' = true := fun u hu => by
 simp only [List.mem_cons, List.not_mem_nil, or_false] at hu
 subst hu; rfl
def itk : EK Tryz.prog (XE × List Nat) Ite where
 enc := fun x => x.1.enc ++ [.string (strB x.2)]
 n := 8
 te := 50
 ts := 26
 bytes := 104
 z := .agg #[.int .i64 0, .slice none 0 0, .int .i64 0, .int .i64 0, .int .i64 0, .string ByteArray.empty, .string ByteArray.empty, .string ByteArray.empty]
 len := fun x => by rw [List.length_append, XE.enc_len]; rfl
 one := fun x => one_app (XE.enc_one x.1) (one_s _)
 pos := by decide
 by0 := by decide
 hu := Tryz.underlying26
 info := by kernel_rfl
 zc := rfl
 er := fun x => ⟨x.1.er, x.2⟩
 val := fun x => match x with | (.mk op kind num scale text qual a cap args, nm) => .agg #[.int .i64 op, .slice a args.length cap, .int .i64 kind, .int .i64 num, .int .i64 scale, .string text, .string qual, .string (strB nm)]
 Mem := fun K w x => XE.Mem K w x.1
 frm := fun f hd x h => XE.Mem.frm f hd x.1 h
 mono := fun hd x h => XE.Mem.mono hd x.1 h
 old := fun x h => XE.Mem.old x.1 h
def srk : EK Tryz.prog (XE × Bool) Srt where
 enc := fun x => x.1.enc ++ [.bool x.2]
 n := 8
 te := 98
 ts := 31
 bytes := 96
 z := .agg #[.int .i64 0, .slice none 0 0, .int .i64 0, .int .i64 0, .int .i64 0, .string ByteArray.empty, .string ByteArray.empty, .bool false]
 len := fun x => by rw [List.length_append, XE.enc_len]; rfl
 one := fun x => one_app (XE.enc_one x.1) (one_b _)
 pos := by decide
 by0 := by decide
 hu := Tryz.underlying31
 info := by kernel_rfl
 zc := rfl
 er := fun x => ⟨x.1.er, x.2⟩
 val := fun x => match x with | (.mk op kind num scale text qual a cap args, b) => .agg #[.int .i64 op, .slice a args.length cap, .int .i64 kind, .int .i64 num, .int .i64 scale, .string text, .string qual, .bool b]
 Mem := fun K w x => XE.Mem K w x.1
 frm := fun f hd x h => XE.Mem.frm f hd x.1 h
 mono := fun hd x h => XE.Mem.mono hd x.1 h
 old := fun x h => XE.Mem.old x.1 h
def sek : EK Tryz.prog (List Nat × XE) Se where
 enc := fun x => [.string (strB x.1)] ++ x.2.enc
 n := 8
 te := 95
 ts := 32
 bytes := 104
 z := .agg #[.string ByteArray.empty, .int .i64 0, .slice none 0 0, .int .i64 0, .int .i64 0, .int .i64 0, .string ByteArray.empty, .string ByteArray.empty]
 len := fun x => by rw [List.length_append, XE.enc_len]; rfl
 one := fun x => one_app (one_s _) (XE.enc_one x.2)
 pos := by decide
 by0 := by decide
 hu := Tryz.underlying32
 info := by kernel_rfl
 zc := rfl
 er := fun x => ⟨x.1, x.2.er⟩
 val := fun x => match x with | (nm, .mk op kind num scale text qual a cap args) => .agg #[.string (strB nm), .int .i64 op, .slice a args.length cap, .int .i64 kind, .int .i64 num, .int .i64 scale, .string text, .string qual]
 Mem := fun K w x => XE.Mem K w x.2
 frm := fun f hd x h => XE.Mem.frm f hd x.2 h
 mono := fun hd x h => XE.Mem.mono hd x.2 h
 old := fun x h => XE.Mem.old x.2 h
def sok : EK Tryz.prog (List Nat × List Nat × XE) Src where
 enc := fun x => [.string (strB x.1), .string (strB x.2.1)] ++ x.2.2.enc
 n := 9
 te := 52
 ts := 27
 bytes := 120
 z := .agg #[.string ByteArray.empty, .string ByteArray.empty, .int .i64 0, .slice none 0 0, .int .i64 0, .int .i64 0, .int .i64 0, .string ByteArray.empty, .string ByteArray.empty]
 len := fun x => by rw [List.length_append, XE.enc_len]; rfl
 one := fun x => one_app (one_s2 _ _) (XE.enc_one x.2.2)
 pos := by decide
 by0 := by decide
 hu := Tryz.underlying27
 info := by kernel_rfl
 zc := rfl
 er := fun x => ⟨x.1, x.2.1, x.2.2.er⟩
 val := fun x => match x with | (t, al, .mk op kind num scale text qual a cap args) => .agg #[.string (strB t), .string (strB al), .int .i64 op, .slice a args.length cap, .int .i64 kind, .int .i64 num, .int .i64 scale, .string text, .string qual]
 Mem := fun K w x => XE.Mem K w x.2.2
 frm := fun f hd x h => XE.Mem.frm f hd x.2.2 h
 mono := fun hd x h => XE.Mem.mono hd x.2.2 h
 old := fun x h => XE.Mem.old x.2.2 h
structure XL (α : Type) where
 a : Option Addr
 cap : Nat
 xs : List α
section
variable {P : Program} {α β : Type} (E : EK P α β)
def XL.val {α : Type} (y : XL α) : Value := .slice y.a y.xs.length y.cap
def XL.Mem (K : Bl) (w : World) (y : XL α) : Prop := y.xs.length ≤ y.cap ∧ y.cap ≤ maxLen ∧ (y.xs = [] ∨ ∃ b o, y.a = some ⟨b, o, none⟩ ∧ K b ∧ b < w.heap.size ∧ ∀ j u, (E.cells y.xs)[j]? = some u → w.cell? ⟨b, o + j, none⟩ = some u) ∧ ∀ x ∈ y.xs, E.Mem K w x
variable {E}
theorem XL.Mem.frm {K F : Bl} {w w1 : World} (f : Frm F w w1) (hd : ∀ k, K k → ¬ F k) (y : XL α) (h : XL.Mem E K w y) : XL.Mem E K w1 y := by
 obtain ⟨h1, h2, h3, h4⟩ := h
 refine ⟨h1, h2, ?_, fun x hx => E.frm f hd x (h4 x hx)⟩
 rcases h3 with h3 | ⟨b, o, e1, e2, e3, e4⟩
 ·exact .inl h3
 ·exact .inr ⟨b, o, e1, e2, Nat.lt_of_lt_of_le e3 f.size, fun j u hj => (f.cell e3 (hd b e2) _).trans (e4 j u hj)⟩
theorem XL.Mem.mono {K K' : Bl} {w : World} (hd : ∀ k, K k → K' k) (y : XL α) (h : XL.Mem E K w y) : XL.Mem E K' w y := by
 obtain ⟨h1, h2, h3, h4⟩ := h
 refine ⟨h1, h2, ?_, fun x hx => E.mono hd x (h4 x hx)⟩
 rcases h3 with h3 | ⟨b, o, e1, e2, e3, e4⟩
 ·exact .inl h3
 ·exact .inr ⟨b, o, e1, hd _ e2, e3, e4⟩
theorem XL.Mem.old {K : Bl} {w : World} (y : XL α) (h : XL.Mem E K w y) : XL.Mem E (fun k => K k ∧ k < w.heap.size) w y := by
 obtain ⟨h1, h2, h3, h4⟩ := h
 refine ⟨h1, h2, ?_, fun x hx => E.old x (h4 x hx)⟩
 rcases h3 with h3 | ⟨b, o, e1, e2, e3, e4⟩
 ·exact .inl h3
 ·exact .inr ⟨b, o, e1, ⟨e2, e3⟩, e3, e4⟩
theorem XL.Mem.below {K : Bl} {w w1 : World} {y : XL α} (h : XL.Mem E K w y) (hb : Below w.heap.size w w1) : XL.Mem E K w1 y := XL.Mem.frm (Frm.of_below (F := fun _ => False) hb) (fun _ _ e => e) y h
theorem XL.Mem.nil (K : Bl) (w : World) : XL.Mem E K w ⟨none, 0, []⟩ := ⟨Nat.le_refl _, Nat.zero_le _, .inl rfl, fun x hx => by cases hx⟩
theorem EK.below {K : Bl} {w w1 : World} {x : α} (h : E.Mem K w x) (hb : Below w.heap.size w w1) : E.Mem K w1 x := E.frm (Frm.of_below (F := fun _ => False) hb) (fun _ _ e => e) x h
theorem OwR.xl {w : World} {B : Nat} {v : Value} {l : List α} (h : OwR E.toRK w B v l) (hm : ∀ x ∈ l, E.Mem (GE B) w x) : ∃ y : XL α, v = y.val ∧ y.xs = l ∧ XL.Mem E (GE B) w y := by
 rcases h.cases with ⟨rfl, rfl⟩ | ⟨g, cap, cur, rfl, hb, hg, hn, hc, hs, ht⟩
 ·exact ⟨⟨none, 0, []⟩, rfl, rfl, XL.Mem.nil _ _⟩
 ·refine ⟨⟨some ⟨g, 0, none⟩, cap, l⟩, rfl, rfl, hn, hc, ?_, hm⟩
  refine .inr ⟨g, 0, rfl, hb, (Array.getElem?_eq_some_iff.1 hg).1, fun j u hj => ?_⟩
  rw [cell_of_block hg, Nat.zero_add]
  rw [← ht, List.getElem?_take] at hj
  split at hj
  ·simpa using hj
  ·cases hj
end
def rok : EK Tryz.prog (XL XE) (List Ex) where
 enc := fun y => [y.val]
 n := 1
 te := 28
 ts := 25
 bytes := 24
 z := .slice none 0 0
 len := fun _ => rfl
 one := fun x u hu => by
  simp only [List.mem_cons, List.not_mem_nil, or_false] at hu
  subst hu; rfl
 pos := by decide
 by0 := by decide
 hu := Tryz.underlying25
 info := by kernel_rfl
 zc := rfl
 er := fun y => y.xs.map XE.er
 val := XL.val
 Mem := XL.Mem exk
 frm := XL.Mem.frm
 mono := XL.Mem.mono
 old := XL.Mem.old
end Go.Proofs.YtofnkfjhmjecjaaGreatDoor

namespace Go.Proofs.YtofnkfjhmjecjaaGreatDoor
set_option maxRecDepth 100000
open Go.RowKit Go.Joins Go.ChangeShapes Go.WideShapes
set_option linter.unusedVariables false
set_option linter.unusedSimpArgs false
section
variable {P : Program} {α β : Type} {E : EK P α β}
def RE (E : EK P α β) (B : Nat) (w : World) (v : Value) (b : β) : Prop := ∃ x : α, v = E.val x ∧ E.er x = b ∧ E.Mem (GE B) w x
def RL (E : EK P α β) (B : Nat) (w : World) (v : Value) (l : List β) : Prop := ∃ y : XL α, v = y.val ∧ y.xs.map E.er = l ∧ XL.Mem E (GE B) w y
structure LsS (E : EK P α β) (w wr : World) (pb : Nat) (s : PS) (v : Value) (xs : List α) : Prop where
 st : Stp w wr pb s
 own : OwR E.toRK wr w.heap.size v xs
 mm : ∀ x ∈ xs, E.Mem (fun k => w.heap.size ≤ k ∧ v.ownBlock ≠ some k) wr x
 hp : pb < w.heap.size
theorem LsS.made {w w1 : World} {pb : Nat} {s : PS} (h : Stp w w1 pb s) (hp : pb < w.heap.size) {x : α} (hm : E.Mem (GE w.heap.size) w1 x) :
  LsS E w (w1.alloc (.cells (E.cells [x]).toArray E.te)) pb s (.slice (some ⟨w1.heap.size, 0, none⟩) 1 1) [x] := by
 have b1 : Below w1.heap.size w1 (w1.alloc (.cells (E.cells [x]).toArray E.te)) := (Below.refl _ _).alloc (Nat.le_refl _) _
 refine ⟨h.below b1, OwR.made w1 h.fr.size [x] (by simp [maxLen]), fun z hz => ?_, hp⟩
 obtain rfl : z = x := by simpa using hz
 refine E.mono (fun k hk => ⟨hk.1, fun e => ?_⟩) z (E.below (E.old z hm) b1)
 have h2 := hk.2
 simp only [Value.ownBlock, Option.some.injEq] at e
 omega
theorem LsS.stp {w wr w2 : World} {pb : Nat} {s s2 : PS} {v : Value} {xs : List α} (h : LsS E w wr pb s v xs) (h2 : Stp wr w2 pb s2) : LsS E w w2 pb s2 v xs :=
 ⟨h.st.trans h2, h.own.step h2.fr (fun k hk e => by have := (h.own.lt hk).1; have := h.hp; omega), fun x hx => E.frm h2.fr (fun k hk e => by have := hk.1; have := h.hp; omega) x (h.mm x hx), h.hp⟩
theorem LsS.push {w wr w2 w' : World} {pb : Nat} {s s2 : PS} {v v' : Value} {xs : List α} {y : α} (h : LsS E w wr pb s v xs) (h2 : Stp wr w2 pb s2) (hy : E.Mem (GE wr.heap.size) w2 y)
  (ho : OwR E.toRK w' w.heap.size v' (xs ++ [y])) (hg : (w2.alloc (.cells (E.cells [y]).toArray E.te)).grownBy w' v.ownBlock) (hn : NewR (w2.alloc (.cells (E.cells [y]).toArray E.te)) v v') : LsS E w w' pb s2 v' (xs ++ [y]) := by
 have hA := h.stp h2
 have b3 : Below w2.heap.size w2 (w2.alloc (.cells (E.cells [y]).toArray E.te)) := (Below.refl _ _).alloc (Nat.le_refl _) _
 have hs3 := b3.size
 have f : Frm (fun k => v.ownBlock = some k) (w2.alloc (.cells (E.cells [y]).toArray E.te)) w' := (Frm.refl _ _).grown hg (fun k hk => .inl hk)
 have hpb := h.hp
 have hw := h.st.fr.size
 have hw2 := h2.fr.size
 refine ⟨⟨(hA.st.fr.step b3).grown hg (fun k hk => .inr (h.own.lt hk).1), (hA.st.ps.below b3).frm f (fun k hk e => by have := (h.own.lt e).1; omega)⟩, ho, fun x hx => ?_, hpb⟩
 have hne : ∀ k, k < w2.heap.size → v.ownBlock ≠ some k → v'.ownBlock ≠ some k := fun k hk h1 h3 => by
  rcases hn k h3 with g | g
  ·exact h1 g
  ·omega
 rcases List.mem_append.1 hx with hx | hx
 ·have h1 := E.old x (hA.mm x hx)
  refine E.mono (fun k hk => ?_) x (E.frm f (fun k hk e => hk.1.2 e) x (E.below h1 b3))
  exact ⟨hk.1.1, hne k hk.2 hk.1.2⟩
 ·obtain rfl : x = y := by simpa using hx
  have h1 := E.old x hy
  have hq : ∀ k, wr.heap.size ≤ k → v.ownBlock ≠ some k := fun k hk e => by have := (h.own.lt e).2.1; omega
  refine E.mono (fun k hk => ?_) x (E.frm f (fun k hk e => hq k hk.1 e) x (E.below h1 b3))
  have hk1 : wr.heap.size ≤ k := hk.1
  exact ⟨by omega, hne k hk.2 (hq k hk.1)⟩
theorem LsS.out {w wr : World} {pb : Nat} {s : PS} {v : Value} {xs : List α} (h : LsS E w wr pb s v xs) : EndP w pb (RL E w.heap.size) (.ok (xs.map E.er, s)) (.returned v) wr := by
 obtain ⟨y, h1, h2, h3⟩ := OwR.xl h.own (fun x hx => E.mono (fun k hk => hk.1) x (h.mm x hx))
 exact ⟨h.st.fr, v, rfl, ⟨y, h1, by rw [h2], h3⟩, h.st.ps⟩
end
theorem qcomma : (⟨#[44]⟩ : ByteArray) = strB [44] := by rfl
end Go.Proofs.YtofnkfjhmjecjaaGreatDoor

namespace Go.Proofs.YtofnkfjhmjecjaaGreatDoor
set_option maxRecDepth 100000
open Go.RowKit Go.Joins Go.ChangeShapes Go.WideShapes
set_option linter.unusedVariables false
set_option linter.unusedSimpArgs false
theorem zqcreate : (⟨#[99, 114, 101, 97, 116, 101]⟩ : ByteArray) = strB wCreate := by rfl
theorem zqdrop : (⟨#[100, 114, 111, 112]⟩ : ByteArray) = strB wDrop := by rfl
theorem zqinsert : (⟨#[105, 110, 115, 101, 114, 116]⟩ : ByteArray) = strB wInsert := by rfl
theorem zqselect : (⟨#[115, 101, 108, 101, 99, 116]⟩ : ByteArray) = strB wSelect := by rfl
theorem zqupdate : (⟨#[117, 112, 100, 97, 116, 101]⟩ : ByteArray) = strB wUpdate := by rfl
theorem zqdelete : (⟨#[100, 101, 108, 101, 116, 101]⟩ : ByteArray) = strB wDelete := by rfl
theorem zqbegin : (⟨#[98, 101, 103, 105, 110]⟩ : ByteArray) = strB wBegin := by rfl
theorem zqcommit : (⟨#[99, 111, 109, 109, 105, 116]⟩ : ByteArray) = strB wCommit := by rfl
theorem zqrollback : (⟨#[114, 111, 108, 108, 98, 97, 99, 107]⟩ : ByteArray) = strB wRollback := by rfl
theorem zqtable : (⟨#[116, 97, 98, 108, 101]⟩ : ByteArray) = strB wTable := by rfl
theorem zqindex : (⟨#[105, 110, 100, 101, 120]⟩ : ByteArray) = strB wIndex := by rfl
theorem zqunique : (⟨#[117, 110, 105, 113, 117, 101]⟩ : ByteArray) = strB wUnique := by rfl
theorem zqon : (⟨#[111, 110]⟩ : ByteArray) = strB wOn := by rfl
theorem zqinto : (⟨#[105, 110, 116, 111]⟩ : ByteArray) = strB wInto := by rfl
theorem zqvalues : (⟨#[118, 97, 108, 117, 101, 115]⟩ : ByteArray) = strB wValues := by rfl
theorem zqfrom : (⟨#[102, 114, 111, 109]⟩ : ByteArray) = strB wFrom := by rfl
theorem zqorder : (⟨#[111, 114, 100, 101, 114]⟩ : ByteArray) = strB wOrder := by rfl
theorem zqby : (⟨#[98, 121]⟩ : ByteArray) = strB wBy := by rfl
theorem zqas : (⟨#[97, 115]⟩ : ByteArray) = strB wAs := by rfl
theorem zqinner : (⟨#[105, 110, 110, 101, 114]⟩ : ByteArray) = strB wInner := by rfl
theorem zqjoin : (⟨#[106, 111, 105, 110]⟩ : ByteArray) = strB wJoin := by rfl
theorem zqwhere : (⟨#[119, 104, 101, 114, 101]⟩ : ByteArray) = strB wWhere := by rfl
theorem zqdesc : (⟨#[100, 101, 115, 99]⟩ : ByteArray) = strB wDesc := by rfl
theorem zqset : (⟨#[115, 101, 116]⟩ : ByteArray) = strB wSet := by rfl
theorem zqbool : (⟨#[98, 111, 111, 108]⟩ : ByteArray) = strB wBool := by rfl
theorem zqtext : (⟨#[116, 101, 120, 116]⟩ : ByteArray) = strB wText := by rfl
theorem zqint : (⟨#[105, 110, 116]⟩ : ByteArray) = strB wInt := by rfl
theorem zqreal : (⟨#[114, 101, 97, 108]⟩ : ByteArray) = strB wReal := by rfl
theorem zqnull : (⟨#[110, 117, 108, 108]⟩ : ByteArray) = strB wNull := by rfl
theorem zqOpen : (⟨#[40]⟩ : ByteArray) = strB [40] := by rfl
theorem zqShut : (⟨#[41]⟩ : ByteArray) = strB [41] := by rfl
theorem zqEq : (⟨#[61]⟩ : ByteArray) = strB [61] := by rfl
theorem zqStar : (⟨#[42]⟩ : ByteArray) = strB [42] := by rfl
theorem bind_call {α β : Type} {x : RX α} {f : α → PS → RX β} {r : Except Nat (β × PS)} (hr : bindR x f = some r) : (∃ c, x = some (.error c) ∧ r = .error c) ∨ (∃ a s', x = some (.ok (a, s')) ∧ f a s' = some r) := by
 unfold bindR at hr
 match x, hr with
 | some (.error c), hr => exact .inl ⟨c, rfl, by injection hr with hr; exact hr.symm⟩
 | some (.ok (a, s')), hr => exact .inr ⟨a, s', rfl, hr⟩
theorem need_bind {β : Type} {wd : List Nat} {s : PS} {f : Unit → PS → RX β} {r : Except Nat (β × PS)} (hr : bindR (needP wd s) f = some r) : (atP wd s = false ∧ r = .error 130) ∨ (atP wd s = true ∧ f () s.next = some r) := by
 unfold needP at hr
 cases h : atP wd s with
 | true => rw [h] at hr; exact .inr ⟨rfl, hr⟩
 | false => rw [h] at hr; exact .inl ⟨rfl, by injection hr with hr; exact hr.symm⟩
theorem ret_ok {α : Type} {a : α} {s : PS} {r : Except Nat (α × PS)} (h : retR a s = some r) : r = .ok (a, s) := by injection h with h; exact h.symm
def RS1 (B : Nat) (w : World) (v : Value) (l : List Nat) : Prop := v = .string (strB l)
def RN1 (B : Nat) (w : World) (v : Value) (n : Nat) : Prop := v = .int .i64 (n : Int)
theorem as_bind {s : PS} (hc : atP wAs s = true) : aliasP isN s = nameP isN s.next := by unfold aliasP; rw [if_pos hc]
theorem as_no {s : PS} (hc : atP wAs s = false) : aliasP isN s = retR [] s := by unfold aliasP; rw [if_neg (by rw [hc]; decide)]
set_option maxHeartbeats 2000000 in
theorem alias_p (pb : Nat) : PR 171 pb RS1 (aliasP isN) := by
 intro w s r h hr
 generalize hP : EndP w pb (RS1 w.heap.size) r = P
 have HP := Lib.hid hP
 cases hc : atP wAs s with
 | true =>
  rw [as_bind hc] at hr
  have HF := Lib.hid (found_yes h zqas (by decide) hc)
  have HN := Lib.hid (fun (w' : World) (hp : PsM w' pb s.next) => name_p hp hr)
  clear hP h hr hc
  match r, HN, HP with
  | .error c, HN, HP =>
   go_enter Tryz.func171, Tryz.ntmps171
   go_wp2_with (first | (go_at_call 38; refine HF.out.mono ?_; rintro e w2 ⟨rfl, ss⟩; have S2 := Lib.hid ss; clear ss) | (go_at_call 45; refine (HN.out _ S2.out.ps).mono ?_; rintro e w3 ⟨ff, rfl⟩; have F3 := Lib.hid ff; clear ff))
   exact ⟨rfl, by rw [← HP.out]; exact ⟨S2.out.fr.trans F3.out (New.refl _ _), rfl⟩⟩
  | .ok (l, s3), HN, HP =>
   go_enter Tryz.func171, Tryz.ntmps171
   go_wp2_with (first | (go_at_call 38; refine HF.out.mono ?_; rintro e w2 ⟨rfl, ss⟩; have S2 := Lib.hid ss; clear ss) | (go_at_call 45; refine (HN.out _ S2.out.ps).mono ?_; rintro e w3 ⟨ff, v, rfl, hv, pp⟩; have hv2 : v = .string (strB l) := hv; subst hv2; have S3 := Lib.hid (S2.out.trans ⟨ff, pp⟩); clear ff pp hv))
   have hfin : P (.returned (.string (strB l))) w3 := by rw [← HP.out]; exact ⟨S3.out.fr, _, rfl, rfl, S3.out.ps⟩
   exact hfin
 | false =>
  rw [as_no hc] at hr
  have hrc := ret_ok hr
  subst hrc
  have HF := Lib.hid (found_no h zqas (by decide) hc)
  clear hP h hr hc
  go_enter Tryz.func171, Tryz.ntmps171
  go_wp2_with (first | (go_at_call 38; refine HF.out.mono ?_; rintro e w2 ⟨rfl, ss⟩; have S2 := Lib.hid ss; clear ss))
  have hfin : P (.returned (.string ⟨#[]⟩)) w2 := by rw [← HP.out]; exact ⟨S2.out.fr, _, rfl, rfl, S2.out.ps⟩
  exact hfin
set_option maxHeartbeats 2000000 in
theorem where_p (n pb : Nat) : PR 46 pb RX1 (whereP isN n) := by
 intro w s r h hr
 generalize hP : EndP w pb (RX1 w.heap.size) r = P
 have HP := Lib.hid hP
 have H1 := Hd.mk' h
 obtain ⟨wa, hw1⟩ : ∃ w1, w.alloc (.cells zx 30) = w1 := ⟨_, rfl⟩
 rw [hw1] at H1
 have HH := Lib.hid H1
 unfold zx at hw1
 unfold whereP at hr
 cases hc : atP wWhere s with
 | true =>
  rw [if_pos hc] at hr
  have HF := Lib.hid (found_yes H1.st.ps zqwhere (by decide) hc)
  have HN := Lib.hid (fun (w' : World) (hp : PsM w' pb s.next) => whole_p n pb w' s.next r hp hr)
  clear hP h hr hc H1
  match r, HN, HP with
  | .error c, HN, HP =>
   go_enter Tryz.func46, Tryz.ntmps46
   go_wp2_with (first | (go_at_call 38; refine HF.out.mono ?_; rintro e w2 ⟨rfl, ss⟩; have S2 := Lib.hid ss; clear ss) | (go_at_call 116; refine (HN.out _ S2.out.ps).mono ?_; rintro e w3 ⟨ff, rfl⟩; have F3 := Lib.hid ff; clear ff))
   exact ⟨rfl, by rw [← HP.out]; exact HH.out.err (S2.out.fr.trans F3.out (New.refl _ _)) c⟩
  | .ok (ex, s3), HN, HP =>
   go_enter Tryz.func46, Tryz.ntmps46
   go_wp2_with (first | (go_at_call 38; refine HF.out.mono ?_; rintro e w2 ⟨rfl, ss⟩; have S2 := Lib.hid ss; clear ss) | (go_at_call 116; refine (HN.out _ S2.out.ps).mono ?_; rintro e w3 ⟨f3, v, rfl, ⟨x, rfl, rfl, m3⟩, p3⟩; have st3 := S2.out.trans ⟨f3, p3⟩; obtain ⟨⟨x0, x1, x2, x3, x4, x5, x6⟩, z0, z1, z2, z3, z4, z5, z6⟩ := (HH.out.box st3).seven; have HFI := Lib.hid (HH.out.fin st3 x (XE.mem_up S2.out.fr.size m3)); clear f3 p3 m3 st3; obtain ⟨op2, kind2, num2, scale2, text2, qual2, a2, cap2, args2⟩ := x; unfold XE.val))
   exact ex_ret Tryz.results46 HFI.out.1 rfl rfl (by rw [← HP.out]; exact HFI.out.2)
 | false =>
  rw [if_neg (by rw [hc]; decide)] at hr
  have hrc := ret_ok hr
  subst hrc
  have HF := Lib.hid (found_no H1.st.ps zqwhere (by decide) hc)
  clear hP h hr hc H1
  go_enter Tryz.func46, Tryz.ntmps46
  go_wp2_with (first | (go_at_call 38; refine HF.out.mono ?_; rintro e w2 ⟨rfl, ss⟩; have HFI := Lib.hid (HH.out.leaf ss 0 0 0 0 ⟨#[]⟩ ⟨#[]⟩); obtain ⟨⟨x0, x1, x2, x3, x4, x5, x6⟩, z0, z1, z2, z3, z4, z5, z6⟩ := (HH.out.box ss).seven; clear ss))
  exact ex_ret Tryz.results46 HFI.out.1 rfl rfl (by rw [← HP.out]; exact HFI.out.2)
set_option maxHeartbeats 2000000 in
theorem type_p (pb : Nat) : PR 168 pb RN1 typeP := by
 intro w s r h hr
 generalize hP : EndP w pb (RN1 w.heap.size) r = P
 have HP := Lib.hid hP
 have S0 := Lib.hid (Stp.refl h)
 unfold typeP at hr
 cases c0 : atP wInt s with
 | true =>
  rw [if_pos c0] at hr
  have hrc := ret_ok hr
  subst hrc
  have HF0 := Lib.hid (fun (w' : World) (hp : PsM w' pb s) => found_yes hp zqint (by decide) c0)
  clear hP h hr c0
  go_enter Tryz.func168, Tryz.ntmps168
  go_wp2_with (first | (go_at_call 38; refine (HF0.out _ S0.out.ps).mono ?_; rintro e w1 ⟨rfl, ss⟩; have S1 := Lib.hid (S0.out.trans ss); clear ss HF0))
  have hfin : P (.returned (.int .i64 2)) w1 := by rw [← HP.out]; exact ⟨S1.out.fr, _, rfl, rfl, S1.out.ps⟩
  exact hfin
 | false =>
 rw [if_neg (by rw [c0]; decide)] at hr
 have HF0 := Lib.hid (fun (w' : World) (hp : PsM w' pb s) => found_no hp zqint (by decide) c0)
 cases c1 : atP wReal s with
 | true =>
  rw [if_pos c1] at hr
  have hrc := ret_ok hr
  subst hrc
  have HF1 := Lib.hid (fun (w' : World) (hp : PsM w' pb s) => found_yes hp zqreal (by decide) c1)
  clear hP h hr c1
  go_enter Tryz.func168, Tryz.ntmps168
  go_wp2_with (first | (go_at_call 38; refine (HF0.out _ S0.out.ps).mono ?_; rintro e w1 ⟨rfl, ss⟩; have S1 := Lib.hid (S0.out.trans ss); clear ss HF0) | (go_at_call 38; refine (HF1.out _ S1.out.ps).mono ?_; rintro e w2 ⟨rfl, ss⟩; have S2 := Lib.hid (S1.out.trans ss); clear ss HF1))
  have hfin : P (.returned (.int .i64 3)) w2 := by rw [← HP.out]; exact ⟨S2.out.fr, _, rfl, rfl, S2.out.ps⟩
  exact hfin
 | false =>
 rw [if_neg (by rw [c1]; decide)] at hr
 have HF1 := Lib.hid (fun (w' : World) (hp : PsM w' pb s) => found_no hp zqreal (by decide) c1)
 cases c2 : atP wBool s with
 | true =>
  rw [if_pos c2] at hr
  have hrc := ret_ok hr
  subst hrc
  have HF2 := Lib.hid (fun (w' : World) (hp : PsM w' pb s) => found_yes hp zqbool (by decide) c2)
  clear hP h hr c2
  go_enter Tryz.func168, Tryz.ntmps168
  go_wp2_with (first | (go_at_call 38; refine (HF0.out _ S0.out.ps).mono ?_; rintro e w1 ⟨rfl, ss⟩; have S1 := Lib.hid (S0.out.trans ss); clear ss HF0) | (go_at_call 38; refine (HF1.out _ S1.out.ps).mono ?_; rintro e w2 ⟨rfl, ss⟩; have S2 := Lib.hid (S1.out.trans ss); clear ss HF1) | (go_at_call 38; refine (HF2.out _ S2.out.ps).mono ?_; rintro e w3 ⟨rfl, ss⟩; have S3 := Lib.hid (S2.out.trans ss); clear ss HF2))
  have hfin : P (.returned (.int .i64 1)) w3 := by rw [← HP.out]; exact ⟨S3.out.fr, _, rfl, rfl, S3.out.ps⟩
  exact hfin
 | false =>
 rw [if_neg (by rw [c2]; decide)] at hr
 have HF2 := Lib.hid (fun (w' : World) (hp : PsM w' pb s) => found_no hp zqbool (by decide) c2)
 have HR := Lib.hid hr
 clear hP h hr c0 c1 c2
 go_enter Tryz.func168, Tryz.ntmps168
 go_wp2_with (first | (go_at_call 38; refine (HF0.out _ S0.out.ps).mono ?_; rintro e w1 ⟨rfl, ss⟩; have S1 := Lib.hid (S0.out.trans ss); clear ss HF0) | (go_at_call 38; refine (HF1.out _ S1.out.ps).mono ?_; rintro e w2 ⟨rfl, ss⟩; have S2 := Lib.hid (S1.out.trans ss); clear ss HF1) | (go_at_call 38; refine (HF2.out _ S2.out.ps).mono ?_; rintro e w3 ⟨rfl, ss⟩; have S3 := Lib.hid (S2.out.trans ss); clear ss HF2) | (go_at_call 44; rcases need_bind HR.out with ⟨ha, rfl⟩ | ⟨ha, hrr⟩; refine (need_g S3.out.ps zqtext (by decide) (by first | rfl | simp | assumption)).mono ?_; rintro e w4 hn; obtain ⟨rfl, ff⟩ := hn.2 ha; exact ⟨rfl, by rw [← HP.out]; exact ⟨S3.out.fr.trans ff (New.refl _ _), rfl⟩⟩; refine (need_g S3.out.ps zqtext (by decide) (by first | rfl | simp | assumption)).mono ?_; rintro e w4 hn; obtain ⟨rfl, ss⟩ := hn.1 ha; have S4 := Lib.hid (S3.out.trans ss); have HR4 := Lib.hid hrr; clear ss hn hrr ha HR))
 have hrc := ret_ok HR4.out
 have hfin : P (.returned (.int .i64 4)) w4 := by rw [← HP.out, hrc]; exact ⟨S4.out.fr, _, rfl, rfl, S4.out.ps⟩
 exact hfin
end Go.Proofs.YtofnkfjhmjecjaaGreatDoor

namespace Go.Proofs.YtofnkfjhmjecjaaGreatDoor
set_option maxRecDepth 100000
open Go.RowKit Go.Joins Go.ChangeShapes Go.WideShapes
set_option linter.unusedVariables false
set_option linter.unusedSimpArgs false
set_option maxHeartbeats 4000000 in
theorem list_ex {g pb : Nat} {one : PS → RX Ex} (hone : PR g pb (RE exk) one) (henter : ∀ args w, (callFunc g args).run Tryz.prog w = .ok (.enter g args) w) (hus : ∀ s a s', one s = some (.ok (a, s')) → s'.rest.length ≤ s.rest.length)
  {w : World} {s : PS} {r : Except Nat (List Ex × PS)} (h : PsM w pb s) (n0 most : Nat) (hmost : most ≤ 100) (hmost1 : 1 ≤ most) (hr : listP one most n0 s = some r) :
  Calls Tryz.prog 192 #[.pointer (some ⟨pb, 0, none⟩), .func (.func g) #[.pointer (some ⟨pb, 0, none⟩)] #[], .int .i64 (most : Int)] w (EndP w pb (RL exk w.heap.size) r) := by
 generalize hP : EndP w pb (RL exk w.heap.size) r = P
 have HP := Lib.hid hP
 have hpb := h.lt
 unfold listP at hr
 cases h1 : one s with
 | none => rw [h1] at hr; cases hr
 | some r1 =>
  have HB := Lib.hid (hone w s r1 h h1)
  rw [h1] at hr
  have HONE := Lib.hid hone
  have HUS := Lib.hid hus
  clear hone hus h1 h hP
  match r1, hr, HB with
  | .error c, hr, HB =>
   have hrc : r = .error c := by injection hr with hr; exact hr.symm
   subst hrc
   clear hr
   go_enter Tryz.func192, Tryz.ntmps192
   go_wp2_with (first | (go_at_fn g; refine HB.out.mono ?_; rintro e w1 ⟨f1, rfl⟩; have F1 := Lib.hid f1; clear f1 HB))
   exact ⟨rfl, by rw [← HP.out]; exact ⟨F1.out, rfl⟩⟩
  | .ok (b1, s1), hr, HB =>
   have HR : Hid (lsP one most n0 [b1] s1 = some r) := Lib.hid hr
   clear hr
   go_enter Tryz.func192, Tryz.ntmps192
   go_wp2_with (first | (go_at_fn g; refine HB.out.mono ?_; rintro e w1 ⟨f1, v, rfl, ⟨x, rfl, hxe, m1⟩, p1⟩; have HL := Lib.hid (LsS.made (E := exk) (x := x) ⟨f1, p1⟩ hpb m1); have HXE := Lib.hid hxe; clear f1 p1 m1 HB hxe; obtain ⟨op, kind, num, scale, text, qual, a, cap, args⟩ := x; simp only [exk, XE.val]))
   go_loopw [7] (fun i wr => ∃ (s : PS) (xs : List XE) (m : Nat), Hid (lsP one most m (xs.map exk.er) s = some r) ∧ Hid (LsS exk w wr pb s i xs) ∧ xs.length ≤ most) (fun _ wr => plen wr pb)
   case atStart => exact ⟨s1, [XE.mk op kind num scale text qual a cap args], n0, Lib.hid (by rw [List.map_cons, List.map_nil, HXE.out]; exact HR.out), HL, hmost1⟩
   case round =>
    clear HL HXE HR
    obtain ⟨s2, xs, m, HR, HLS, hxm⟩ := hrel
    obtain ⟨m, rfl⟩ : ∃ m', m = m' + 1 := by
     cases m with
     | zero => have := HR.out; rw [lsP] at this; cases this
     | succ m => exact ⟨m, rfl⟩
    have hR := HR.out
    rw [lsP] at hR
    have hpl := HLS.out.st.ps.plen
    obtain ⟨sa, sc, rfl, hc1, hc2⟩ := HLS.out.own.sl
    obtain ⟨n, hn⟩ : ∃ n, xs.length = n := ⟨_, rfl⟩
    have HN := Lib.hid hn
    rw [List.length_map, hn] at hR
    rw [hn] at HLS hxm ⊢
    clear hn
    cases ha : atP [44] s2 with
    | false =>
     rw [if_neg (by rw [ha]; decide)] at hR
     have hrc : r = .ok (xs.map exk.er, s2) := by injection hR with hR; exact hR.symm
     have HF := Lib.hid (fun (w' : World) (hp : PsM w' pb s2) => found_no hp qcomma (by decide) ha)
     have HRC := Lib.hid hrc
     clear hR ha hrc hpl
     go_wp2_with (first | (go_at_call 38; refine (HF.out _ HLS.out.st.ps).mono ?_; rintro e w2 ⟨rfl, ss⟩; have HL2 := Lib.hid (HLS.out.stp ss); clear ss HF))
     have hfin : P (.returned (.slice sa n sc)) w2 := by rw [← HP.out, HRC.out]; exact HL2.out.out
     exact hfin
    | true =>
     rw [if_pos ha] at hR
     have HF := Lib.hid (fun (w' : World) (hp : PsM w' pb s2) => found_yes hp qcomma (by decide) ha)
     have hlen := atP_len ha
     by_cases c : n < most
     ·rw [if_pos c] at hR
      have c1 : (n : Int) < (most : Int) := by omega
      have HMO := Lib.hid (pmust_ok 151)
      cases h2 : one s2.next with
      | none => rw [h2] at hR; cases hR
      | some r2 =>
       have HB2 := Lib.hid (fun (w' : World) (hp : PsM w' pb s2.next) => HONE.out w' s2.next r2 hp h2)
       have HU := Lib.hid (fun a s' (q : r2 = .ok (a, s')) => HUS.out s2.next a s' (by rw [h2, q]))
       have HPL := Lib.hid (And.intro hpl hlen)
       rw [h2] at hR
       clear h2 ha hpl hlen
       match r2, hR, HB2 with
       | .error e0, hR, HB2 =>
        have hrc : r = .error e0 := by injection hR with hR; exact hR.symm
        have HRC := Lib.hid hrc
        clear hR hrc HU
        go_wp2_with (first | (go_at_call 38; refine (HF.out _ HLS.out.st.ps).mono ?_; rintro e w2 ⟨rfl, ss⟩; have HL2 := Lib.hid (HLS.out.stp ss); clear ss HF) | (go_at_call 21; refine (HMO.out _).mono ?_; rintro e w3 ⟨rfl, rfl⟩; clear HMO) | (go_at_fn g; refine (HB2.out _ HL2.out.st.ps).mono ?_; rintro e w4 ⟨f4, rfl⟩; have F4 := Lib.hid (HL2.out.st.fr.trans f4 (New.refl _ _)); clear f4 HB2))
        exact ⟨rfl, by rw [← HP.out, HRC.out]; exact ⟨F4.out, rfl⟩⟩
       | .ok (b2, s3), hR, HB2 =>
        have HR3 : Hid (lsP one most m (xs.map exk.er ++ [b2]) s3 = some r) := Lib.hid hR
        have hu := HU.out b2 s3 rfl
        have HU3 := Lib.hid hu
        clear hR HU hu
        go_wp2_with (first | (go_at_call 38; refine (HF.out _ HLS.out.st.ps).mono ?_; rintro e w2 ⟨rfl, ss⟩; have HL2 := Lib.hid (HLS.out.stp ss); clear ss HF) | (go_at_call 21; refine (HMO.out _).mono ?_; rintro e w3 ⟨rfl, rfl⟩; clear HMO) | (go_at_fn g; refine (HB2.out _ HL2.out.st.ps).mono ?_; rintro e w4 ⟨f4, v4, rfl, ⟨x, rfl, hxe, m4⟩, p4⟩; have H4 := Lib.hid (And.intro (Stp.mk f4 p4) m4); have HXE2 := Lib.hid hxe; have HPU := Lib.hid (fun v9 w9 => LsS.push (E := exk) (y := x) (v' := v9) (w' := w9) HL2.out ⟨f4, p4⟩ m4); have HOW := Lib.hid (((HL2.out.stp ⟨f4, p4⟩).own).below ((Below.refl w4.heap.size w4).alloc (Nat.le_refl _) (.cells (exk.cells [x]).toArray exk.te))); have HNW := Lib.hid (OwR.made_cells (K := exk.toRK) w4 [x]); clear f4 p4 m4 HB2 hxe; obtain ⟨op2, kind2, num2, scale2, text2, qual2, a2, cap2, args2⟩ := x; simp only [exk, XE.val]) | (at_builtin; refine OwR.wp (K := exk.toRK) rfl _ _ rfl w.heap.size (.slice sa n sc) xs rfl HOW.out (by have := HL2.out.st.fr.size; have := H4.out.1.fr.size; simp; omega) ⟨w4.heap.size, 0, none⟩ 1 1 [XE.mk op2 kind2 num2 scale2 text2 qual2 a2 cap2 args2] rfl rfl HNW.out (by have := HN.out; omega) ?_; intro v9 w9 o9 g9 n9; have HL9 := Lib.hid (HPU.out v9 w9 o9 g9 n9); clear o9 g9 n9))
        refine ⟨⟨s3, xs ++ [XE.mk op2 kind2 num2 scale2 text2 qual2 a2 cap2 args2], m, Lib.hid ?_, HL9, by rw [List.length_append, HN.out, List.length_singleton]; omega⟩, ?_⟩
        ·rw [List.map_append, List.map_cons, List.map_nil, HXE2.out]
         exact HR3.out
        ·rw [HL9.out.st.ps.plen]
         have h1 := HPL.out
         have h2 := HU3.out
         omega
     ·rw [if_neg c] at hR
      have hrc : r = .error 151 := by injection hR with hR; exact hR.symm
      have HRC := Lib.hid hrc
      have c1 : decide ((n : Int) < (most : Int)) = false := by simp; omega
      have HMN := Lib.hid (pmust_no 151)
      clear hR hrc ha hpl hlen
      go_wp2_with (first | (go_at_call 38; refine (HF.out _ HLS.out.st.ps).mono ?_; rintro e w2 ⟨rfl, ss⟩; have HL2 := Lib.hid (HLS.out.stp ss); clear ss HF) | (go_at_call 21; refine (HMN.out _).mono ?_; rintro e w3 ⟨rfl, rfl⟩; clear HMN))
      exact ⟨rfl, by rw [← HP.out, HRC.out]; exact ⟨HL2.out.st.fr, rfl⟩⟩
end Go.Proofs.YtofnkfjhmjecjaaGreatDoor

namespace Go.Proofs.YtofnkfjhmjecjaaGreatDoor
set_option maxRecDepth 100000
open Go.RowKit Go.Joins Go.ChangeShapes Go.WideShapes
set_option linter.unusedVariables false
set_option linter.unusedSimpArgs false
set_option maxHeartbeats 4000000 in
theorem list_st {g pb : Nat} {one : PS → RX (List Nat)} (hone : PR g pb (RE stk) one) (henter : ∀ args w, (callFunc g args).run Tryz.prog w = .ok (.enter g args) w) (hus : ∀ s a s', one s = some (.ok (a, s')) → s'.rest.length ≤ s.rest.length)
  {w : World} {s : PS} {r : Except Nat (List (List Nat) × PS)} (h : PsM w pb s) (n0 most : Nat) (hmost : most ≤ 100) (hmost1 : 1 ≤ most) (hr : listP one most n0 s = some r) :
  Calls Tryz.prog 169 #[.pointer (some ⟨pb, 0, none⟩), .func (.func g) #[.pointer (some ⟨pb, 0, none⟩)] #[], .int .i64 (most : Int)] w (EndP w pb (RL stk w.heap.size) r) := by
 generalize hP : EndP w pb (RL stk w.heap.size) r = P
 have HP := Lib.hid hP
 have hpb := h.lt
 unfold listP at hr
 cases h1 : one s with
 | none => rw [h1] at hr; cases hr
 | some r1 =>
  have HB := Lib.hid (hone w s r1 h h1)
  rw [h1] at hr
  have HONE := Lib.hid hone
  have HUS := Lib.hid hus
  clear hone hus h1 h hP
  match r1, hr, HB with
  | .error c, hr, HB =>
   have hrc : r = .error c := by injection hr with hr; exact hr.symm
   subst hrc
   clear hr
   go_enter Tryz.func169, Tryz.ntmps169
   go_wp2_with (first | (go_at_fn g; refine HB.out.mono ?_; rintro e w1 ⟨f1, rfl⟩; have F1 := Lib.hid f1; clear f1 HB))
   exact ⟨rfl, by rw [← HP.out]; exact ⟨F1.out, rfl⟩⟩
  | .ok (b1, s1), hr, HB =>
   have HR : Hid (lsP one most n0 [b1] s1 = some r) := Lib.hid hr
   clear hr
   go_enter Tryz.func169, Tryz.ntmps169
   go_wp2_with (first | (go_at_fn g; refine HB.out.mono ?_; rintro e w1 ⟨f1, v, rfl, ⟨x, rfl, hxe, m1⟩, p1⟩; have HL := Lib.hid (LsS.made (E := stk) (x := x) ⟨f1, p1⟩ hpb m1); have HXE := Lib.hid hxe; clear f1 p1 m1 HB hxe; simp only [stk]))
   go_loopw [7] (fun i wr => ∃ (s : PS) (xs : List (List Nat)) (m : Nat), Hid (lsP one most m (xs.map stk.er) s = some r) ∧ Hid (LsS stk w wr pb s i xs) ∧ xs.length ≤ most) (fun _ wr => plen wr pb)
   case atStart => exact ⟨s1, [x], n0, Lib.hid (by rw [List.map_cons, List.map_nil, HXE.out]; exact HR.out), HL, hmost1⟩
   case round =>
    clear HL HXE HR
    obtain ⟨s2, xs, m, HR, HLS, hxm⟩ := hrel
    obtain ⟨m, rfl⟩ : ∃ m', m = m' + 1 := by
     cases m with
     | zero => have := HR.out; rw [lsP] at this; cases this
     | succ m => exact ⟨m, rfl⟩
    have hR := HR.out
    rw [lsP] at hR
    have hpl := HLS.out.st.ps.plen
    obtain ⟨sa, sc, rfl, hc1, hc2⟩ := HLS.out.own.sl
    obtain ⟨n, hn⟩ : ∃ n, xs.length = n := ⟨_, rfl⟩
    have HN := Lib.hid hn
    rw [List.length_map, hn] at hR
    rw [hn] at HLS hxm ⊢
    clear hn
    cases ha : atP [44] s2 with
    | false =>
     rw [if_neg (by rw [ha]; decide)] at hR
     have hrc : r = .ok (xs.map stk.er, s2) := by injection hR with hR; exact hR.symm
     have HF := Lib.hid (fun (w' : World) (hp : PsM w' pb s2) => found_no hp qcomma (by decide) ha)
     have HRC := Lib.hid hrc
     clear hR ha hrc hpl
     go_wp2_with (first | (go_at_call 38; refine (HF.out _ HLS.out.st.ps).mono ?_; rintro e w2 ⟨rfl, ss⟩; have HL2 := Lib.hid (HLS.out.stp ss); clear ss HF))
     have hfin : P (.returned (.slice sa n sc)) w2 := by rw [← HP.out, HRC.out]; exact HL2.out.out
     exact hfin
    | true =>
     rw [if_pos ha] at hR
     have HF := Lib.hid (fun (w' : World) (hp : PsM w' pb s2) => found_yes hp qcomma (by decide) ha)
     have hlen := atP_len ha
     by_cases c : n < most
     ·rw [if_pos c] at hR
      have c1 : (n : Int) < (most : Int) := by omega
      have HMO := Lib.hid (pmust_ok 151)
      cases h2 : one s2.next with
      | none => rw [h2] at hR; cases hR
      | some r2 =>
       have HB2 := Lib.hid (fun (w' : World) (hp : PsM w' pb s2.next) => HONE.out w' s2.next r2 hp h2)
       have HU := Lib.hid (fun a s' (q : r2 = .ok (a, s')) => HUS.out s2.next a s' (by rw [h2, q]))
       have HPL := Lib.hid (And.intro hpl hlen)
       rw [h2] at hR
       clear h2 ha hpl hlen
       match r2, hR, HB2 with
       | .error e0, hR, HB2 =>
        have hrc : r = .error e0 := by injection hR with hR; exact hR.symm
        have HRC := Lib.hid hrc
        clear hR hrc HU
        go_wp2_with (first | (go_at_call 38; refine (HF.out _ HLS.out.st.ps).mono ?_; rintro e w2 ⟨rfl, ss⟩; have HL2 := Lib.hid (HLS.out.stp ss); clear ss HF) | (go_at_call 21; refine (HMO.out _).mono ?_; rintro e w3 ⟨rfl, rfl⟩; clear HMO) | (go_at_fn g; refine (HB2.out _ HL2.out.st.ps).mono ?_; rintro e w4 ⟨f4, rfl⟩; have F4 := Lib.hid (HL2.out.st.fr.trans f4 (New.refl _ _)); clear f4 HB2))
        exact ⟨rfl, by rw [← HP.out, HRC.out]; exact ⟨F4.out, rfl⟩⟩
       | .ok (b2, s3), hR, HB2 =>
        have HR3 : Hid (lsP one most m (xs.map stk.er ++ [b2]) s3 = some r) := Lib.hid hR
        have hu := HU.out b2 s3 rfl
        have HU3 := Lib.hid hu
        clear hR HU hu
        go_wp2_with (first | (go_at_call 38; refine (HF.out _ HLS.out.st.ps).mono ?_; rintro e w2 ⟨rfl, ss⟩; have HL2 := Lib.hid (HLS.out.stp ss); clear ss HF) | (go_at_call 21; refine (HMO.out _).mono ?_; rintro e w3 ⟨rfl, rfl⟩; clear HMO) | (go_at_fn g; refine (HB2.out _ HL2.out.st.ps).mono ?_; rintro e w4 ⟨f4, v4, rfl, ⟨x, rfl, hxe, m4⟩, p4⟩; have H4 := Lib.hid (And.intro (Stp.mk f4 p4) m4); have HXE2 := Lib.hid hxe; have HPU := Lib.hid (fun v9 w9 => LsS.push (E := stk) (y := x) (v' := v9) (w' := w9) HL2.out ⟨f4, p4⟩ m4); have HOW := Lib.hid (((HL2.out.stp ⟨f4, p4⟩).own).below ((Below.refl w4.heap.size w4).alloc (Nat.le_refl _) (.cells (stk.cells [x]).toArray stk.te))); have HNW := Lib.hid (OwR.made_cells (K := stk.toRK) w4 [x]); clear f4 p4 m4 HB2 hxe; simp only [stk]) | (at_builtin; refine OwR.wp (K := stk.toRK) rfl _ _ rfl w.heap.size (.slice sa n sc) xs rfl HOW.out (by have := HL2.out.st.fr.size; have := H4.out.1.fr.size; simp; omega) ⟨w4.heap.size, 0, none⟩ 1 1 [x] rfl rfl HNW.out (by have := HN.out; omega) ?_; intro v9 w9 o9 g9 n9; have HL9 := Lib.hid (HPU.out v9 w9 o9 g9 n9); clear o9 g9 n9))
        refine ⟨⟨s3, xs ++ [x], m, Lib.hid ?_, HL9, by rw [List.length_append, HN.out, List.length_singleton]; omega⟩, ?_⟩
        ·rw [List.map_append, List.map_cons, List.map_nil, HXE2.out]
         exact HR3.out
        ·rw [HL9.out.st.ps.plen]
         have h1 := HPL.out
         have h2 := HU3.out
         omega
     ·rw [if_neg c] at hR
      have hrc : r = .error 151 := by injection hR with hR; exact hR.symm
      have HRC := Lib.hid hrc
      have c1 : decide ((n : Int) < (most : Int)) = false := by simp; omega
      have HMN := Lib.hid (pmust_no 151)
      clear hR hrc ha hpl hlen
      go_wp2_with (first | (go_at_call 38; refine (HF.out _ HLS.out.st.ps).mono ?_; rintro e w2 ⟨rfl, ss⟩; have HL2 := Lib.hid (HLS.out.stp ss); clear ss HF) | (go_at_call 21; refine (HMN.out _).mono ?_; rintro e w3 ⟨rfl, rfl⟩; clear HMN))
      exact ⟨rfl, by rw [← HP.out, HRC.out]; exact ⟨HL2.out.st.fr, rfl⟩⟩
end Go.Proofs.YtofnkfjhmjecjaaGreatDoor

namespace Go.Proofs.YtofnkfjhmjecjaaGreatDoor
set_option maxRecDepth 100000
open Go.RowKit Go.Joins Go.ChangeShapes Go.WideShapes
set_option linter.unusedVariables false
set_option linter.unusedSimpArgs false
set_option maxHeartbeats 4000000 in
theorem list_co {g pb : Nat} {one : PS → RX Co} (hone : PR g pb (RE cok) one) (henter : ∀ args w, (callFunc g args).run Tryz.prog w = .ok (.enter g args) w) (hus : ∀ s a s', one s = some (.ok (a, s')) → s'.rest.length ≤ s.rest.length)
  {w : World} {s : PS} {r : Except Nat (List Co × PS)} (h : PsM w pb s) (n0 most : Nat) (hmost : most ≤ 100) (hmost1 : 1 ≤ most) (hr : listP one most n0 s = some r) :
  Calls Tryz.prog 167 #[.pointer (some ⟨pb, 0, none⟩), .func (.func g) #[.pointer (some ⟨pb, 0, none⟩)] #[], .int .i64 (most : Int)] w (EndP w pb (RL cok w.heap.size) r) := by
 generalize hP : EndP w pb (RL cok w.heap.size) r = P
 have HP := Lib.hid hP
 have hpb := h.lt
 unfold listP at hr
 cases h1 : one s with
 | none => rw [h1] at hr; cases hr
 | some r1 =>
  have HB := Lib.hid (hone w s r1 h h1)
  rw [h1] at hr
  have HONE := Lib.hid hone
  have HUS := Lib.hid hus
  clear hone hus h1 h hP
  match r1, hr, HB with
  | .error c, hr, HB =>
   have hrc : r = .error c := by injection hr with hr; exact hr.symm
   subst hrc
   clear hr
   go_enter Tryz.func167, Tryz.ntmps167
   go_wp2_with (first | (go_at_fn g; refine HB.out.mono ?_; rintro e w1 ⟨f1, rfl⟩; have F1 := Lib.hid f1; clear f1 HB))
   exact ⟨rfl, by rw [← HP.out]; exact ⟨F1.out, rfl⟩⟩
  | .ok (b1, s1), hr, HB =>
   have HR : Hid (lsP one most n0 [b1] s1 = some r) := Lib.hid hr
   clear hr
   go_enter Tryz.func167, Tryz.ntmps167
   go_wp2_with (first | (go_at_fn g; refine HB.out.mono ?_; rintro e w1 ⟨f1, v, rfl, ⟨x, rfl, hxe, m1⟩, p1⟩; have HL := Lib.hid (LsS.made (E := cok) (x := x) ⟨f1, p1⟩ hpb m1); have HXE := Lib.hid hxe; clear f1 p1 m1 HB hxe; obtain ⟨cn, ct, cr⟩ := x; simp only [cok]))
   go_loopw [7] (fun i wr => ∃ (s : PS) (xs : List Co) (m : Nat), Hid (lsP one most m (xs.map cok.er) s = some r) ∧ Hid (LsS cok w wr pb s i xs) ∧ xs.length ≤ most) (fun _ wr => plen wr pb)
   case atStart => exact ⟨s1, [Co.mk cn ct cr], n0, Lib.hid (by rw [List.map_cons, List.map_nil, HXE.out]; exact HR.out), HL, hmost1⟩
   case round =>
    clear HL HXE HR
    obtain ⟨s2, xs, m, HR, HLS, hxm⟩ := hrel
    obtain ⟨m, rfl⟩ : ∃ m', m = m' + 1 := by
     cases m with
     | zero => have := HR.out; rw [lsP] at this; cases this
     | succ m => exact ⟨m, rfl⟩
    have hR := HR.out
    rw [lsP] at hR
    have hpl := HLS.out.st.ps.plen
    obtain ⟨sa, sc, rfl, hc1, hc2⟩ := HLS.out.own.sl
    obtain ⟨n, hn⟩ : ∃ n, xs.length = n := ⟨_, rfl⟩
    have HN := Lib.hid hn
    rw [List.length_map, hn] at hR
    rw [hn] at HLS hxm ⊢
    clear hn
    cases ha : atP [44] s2 with
    | false =>
     rw [if_neg (by rw [ha]; decide)] at hR
     have hrc : r = .ok (xs.map cok.er, s2) := by injection hR with hR; exact hR.symm
     have HF := Lib.hid (fun (w' : World) (hp : PsM w' pb s2) => found_no hp qcomma (by decide) ha)
     have HRC := Lib.hid hrc
     clear hR ha hrc hpl
     go_wp2_with (first | (go_at_call 38; refine (HF.out _ HLS.out.st.ps).mono ?_; rintro e w2 ⟨rfl, ss⟩; have HL2 := Lib.hid (HLS.out.stp ss); clear ss HF))
     have hfin : P (.returned (.slice sa n sc)) w2 := by rw [← HP.out, HRC.out]; exact HL2.out.out
     exact hfin
    | true =>
     rw [if_pos ha] at hR
     have HF := Lib.hid (fun (w' : World) (hp : PsM w' pb s2) => found_yes hp qcomma (by decide) ha)
     have hlen := atP_len ha
     by_cases c : n < most
     ·rw [if_pos c] at hR
      have c1 : (n : Int) < (most : Int) := by omega
      have HMO := Lib.hid (pmust_ok 151)
      cases h2 : one s2.next with
      | none => rw [h2] at hR; cases hR
      | some r2 =>
       have HB2 := Lib.hid (fun (w' : World) (hp : PsM w' pb s2.next) => HONE.out w' s2.next r2 hp h2)
       have HU := Lib.hid (fun a s' (q : r2 = .ok (a, s')) => HUS.out s2.next a s' (by rw [h2, q]))
       have HPL := Lib.hid (And.intro hpl hlen)
       rw [h2] at hR
       clear h2 ha hpl hlen
       match r2, hR, HB2 with
       | .error e0, hR, HB2 =>
        have hrc : r = .error e0 := by injection hR with hR; exact hR.symm
        have HRC := Lib.hid hrc
        clear hR hrc HU
        go_wp2_with (first | (go_at_call 38; refine (HF.out _ HLS.out.st.ps).mono ?_; rintro e w2 ⟨rfl, ss⟩; have HL2 := Lib.hid (HLS.out.stp ss); clear ss HF) | (go_at_call 21; refine (HMO.out _).mono ?_; rintro e w3 ⟨rfl, rfl⟩; clear HMO) | (go_at_fn g; refine (HB2.out _ HL2.out.st.ps).mono ?_; rintro e w4 ⟨f4, rfl⟩; have F4 := Lib.hid (HL2.out.st.fr.trans f4 (New.refl _ _)); clear f4 HB2))
        exact ⟨rfl, by rw [← HP.out, HRC.out]; exact ⟨F4.out, rfl⟩⟩
       | .ok (b2, s3), hR, HB2 =>
        have HR3 : Hid (lsP one most m (xs.map cok.er ++ [b2]) s3 = some r) := Lib.hid hR
        have hu := HU.out b2 s3 rfl
        have HU3 := Lib.hid hu
        clear hR HU hu
        go_wp2_with (first | (go_at_call 38; refine (HF.out _ HLS.out.st.ps).mono ?_; rintro e w2 ⟨rfl, ss⟩; have HL2 := Lib.hid (HLS.out.stp ss); clear ss HF) | (go_at_call 21; refine (HMO.out _).mono ?_; rintro e w3 ⟨rfl, rfl⟩; clear HMO) | (go_at_fn g; refine (HB2.out _ HL2.out.st.ps).mono ?_; rintro e w4 ⟨f4, v4, rfl, ⟨x, rfl, hxe, m4⟩, p4⟩; have H4 := Lib.hid (And.intro (Stp.mk f4 p4) m4); have HXE2 := Lib.hid hxe; have HPU := Lib.hid (fun v9 w9 => LsS.push (E := cok) (y := x) (v' := v9) (w' := w9) HL2.out ⟨f4, p4⟩ m4); have HOW := Lib.hid (((HL2.out.stp ⟨f4, p4⟩).own).below ((Below.refl w4.heap.size w4).alloc (Nat.le_refl _) (.cells (cok.cells [x]).toArray cok.te))); have HNW := Lib.hid (OwR.made_cells (K := cok.toRK) w4 [x]); clear f4 p4 m4 HB2 hxe; obtain ⟨cn2, ct2, cr2⟩ := x; simp only [cok]) | (at_builtin; refine OwR.wp (K := cok.toRK) rfl _ _ rfl w.heap.size (.slice sa n sc) xs rfl HOW.out (by have := HL2.out.st.fr.size; have := H4.out.1.fr.size; simp; omega) ⟨w4.heap.size, 0, none⟩ 1 1 [Co.mk cn2 ct2 cr2] rfl rfl HNW.out (by have := HN.out; omega) ?_; intro v9 w9 o9 g9 n9; have HL9 := Lib.hid (HPU.out v9 w9 o9 g9 n9); clear o9 g9 n9))
        refine ⟨⟨s3, xs ++ [Co.mk cn2 ct2 cr2], m, Lib.hid ?_, HL9, by rw [List.length_append, HN.out, List.length_singleton]; omega⟩, ?_⟩
        ·rw [List.map_append, List.map_cons, List.map_nil, HXE2.out]
         exact HR3.out
        ·rw [HL9.out.st.ps.plen]
         have h1 := HPL.out
         have h2 := HU3.out
         omega
     ·rw [if_neg c] at hR
      have hrc : r = .error 151 := by injection hR with hR; exact hR.symm
      have HRC := Lib.hid hrc
      have c1 : decide ((n : Int) < (most : Int)) = false := by simp; omega
      have HMN := Lib.hid (pmust_no 151)
      clear hR hrc ha hpl hlen
      go_wp2_with (first | (go_at_call 38; refine (HF.out _ HLS.out.st.ps).mono ?_; rintro e w2 ⟨rfl, ss⟩; have HL2 := Lib.hid (HLS.out.stp ss); clear ss HF) | (go_at_call 21; refine (HMN.out _).mono ?_; rintro e w3 ⟨rfl, rfl⟩; clear HMN))
      exact ⟨rfl, by rw [← HP.out, HRC.out]; exact ⟨HL2.out.st.fr, rfl⟩⟩
end Go.Proofs.YtofnkfjhmjecjaaGreatDoor
