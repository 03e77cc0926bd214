/-
  Texts of mine put together, in build order.
  Conditions: as each declaration says.
-/
import Derived.Test.YtkffomfbnbcgaaaGreatDoorZp5
namespace Go.Proofs.YtkffomfbnbcgaaaGreatDoor
set_option maxRecDepth 100000
open Go.RowKit Go.Joins Go.ChangeShapes Go.WideShapes
set_option linter.unusedVariables false
set_option linter.unusedSimpArgs false

/-- a kind of part: how it lies, what it is, its value, which blocks it needs -/
structure EK (P : Program) (α β : Type) extends RK P α where
  er : α → β
  val : α → Value
  Mem : Bl → World → α → Prop
  frm : ∀ {K F : Bl} {w w1 : World}, Frm F w w1 → (∀ k, K k → ¬ F k) → ∀ x, Mem K w x → Mem K w1 x
  mono : ∀ {K K' : Bl} {w : World}, (∀ k, K k → K' k) → ∀ x, Mem K w x → Mem K' w x
  old : ∀ {K : Bl} {w : World} x, Mem K w x → Mem (fun k => K k ∧ k < w.heap.size) w x
/-- expressions -/
def exk : EK Tryz.prog XE Ex where
  toRK := xk
  er := XE.er
  val := XE.val
  Mem := XE.Mem
  frm := XE.Mem.frm
  mono := XE.Mem.mono
  old := XE.Mem.old
/-- names -/
def stk : EK Tryz.prog (List Nat) (List Nat) where
  enc := fun l => [.string (strB l)]
  n := 1
  te := 9
  ts := 24
  bytes := 16
  z := .string ByteArray.empty
  len := fun _ => rfl
  one := fun x u hu => by
    simp only [List.mem_cons, List.not_mem_nil, or_false] at hu
    subst hu; rfl
  pos := by decide
  by0 := by decide
  hu := Tryz.underlying24
  info := by kernel_rfl
  zc := rfl
  er := id
  val := fun l => .string (strB l)
  Mem := fun _ _ _ => True
  frm := fun _ _ _ h => h
  mono := fun _ _ h => h
  old := fun _ h => h
/-- columns of a table that is made -/
def cok : EK Tryz.prog Co Co where
  enc := fun c => [.string (strB c.name), .int .i64 (c.type : Int), .bool c.req]
  n := 3
  te := 81
  ts := 23
  bytes := 32
  z := .agg #[.string ByteArray.empty, .int .i64 0, .bool false]
  len := fun _ => rfl
  one := fun x u hu => by
    simp only [List.mem_cons, List.not_mem_nil, or_false] at hu
    rcases hu with rfl | rfl | rfl <;> rfl
  pos := by decide
  by0 := by decide
  hu := Tryz.underlying23
  info := by kernel_rfl
  zc := rfl
  er := id
  val := fun c => .agg #[.string (strB c.name), .int .i64 (c.type : Int), .bool c.req]
  Mem := fun _ _ _ => True
  frm := fun _ _ _ h => h
  mono := fun _ _ h => h
  old := fun _ h => h
theorem one_app {l r : List Value} (hl : ∀ u ∈ l, u.oneCell' = true) (hr : ∀ u ∈ r, u.oneCell' = true) : ∀ u ∈ l ++ r, u.oneCell' = true := fun u hu => by
  rcases List.mem_append.1 hu with h | h
  · exact hl u h
  · exact hr u h
theorem one_s (s : ByteArray) : ∀ u ∈ [Value.string s], u.oneCell' = true := fun u hu => by
  simp only [List.mem_cons, List.not_mem_nil, or_false] at hu
  subst hu; rfl
theorem one_s2 (s t : ByteArray) : ∀ u ∈ [Value.string s, Value.string t], u.oneCell' = true := fun u hu => by
  simp only [List.mem_cons, List.not_mem_nil, or_false] at hu
  rcases hu with rfl | rfl <;> rfl
theorem one_b (b : Bool) : ∀ u ∈ [Value.bool b], u.oneCell' = true := fun u hu => by
  simp only [List.mem_cons, List.not_mem_nil, or_false] at hu
  subst hu; rfl
/-- what a query answers in a column -/
def itk : EK Tryz.prog (XE × List Nat) Ite where
  enc := fun x => x.1.enc ++ [.string (strB x.2)]
  n := 8
  te := 63
  ts := 26
  bytes := 104
  z := .agg #[.int .i64 0, .slice none 0 0, .int .i64 0, .int .i64 0, .int .i64 0, .string ByteArray.empty, .string ByteArray.empty, .string ByteArray.empty]
  len := fun x => by rw [List.length_append, XE.enc_len]; rfl
  one := fun x => one_app (XE.enc_one x.1) (one_s _)
  pos := by decide
  by0 := by decide
  hu := Tryz.underlying26
  info := by kernel_rfl
  zc := rfl
  er := fun x => ⟨x.1.er, x.2⟩
  val := fun x => match x with | (.mk op kind num scale text qual a cap args, nm) => .agg #[.int .i64 op, .slice a args.length cap, .int .i64 kind, .int .i64 num, .int .i64 scale, .string text, .string qual, .string (strB nm)]
  Mem := fun K w x => XE.Mem K w x.1
  frm := fun f hd x h => XE.Mem.frm f hd x.1 h
  mono := fun hd x h => XE.Mem.mono hd x.1 h
  old := fun x h => XE.Mem.old x.1 h
/-- what rows are sorted by -/
def srk : EK Tryz.prog (XE × Bool) Srt where
  enc := fun x => x.1.enc ++ [.bool x.2]
  n := 8
  te := 106
  ts := 31
  bytes := 96
  z := .agg #[.int .i64 0, .slice none 0 0, .int .i64 0, .int .i64 0, .int .i64 0, .string ByteArray.empty, .string ByteArray.empty, .bool false]
  len := fun x => by rw [List.length_append, XE.enc_len]; rfl
  one := fun x => one_app (XE.enc_one x.1) (one_b _)
  pos := by decide
  by0 := by decide
  hu := Tryz.underlying31
  info := by kernel_rfl
  zc := rfl
  er := fun x => ⟨x.1.er, x.2⟩
  val := fun x => match x with | (.mk op kind num scale text qual a cap args, b) => .agg #[.int .i64 op, .slice a args.length cap, .int .i64 kind, .int .i64 num, .int .i64 scale, .string text, .string qual, .bool b]
  Mem := fun K w x => XE.Mem K w x.1
  frm := fun f hd x h => XE.Mem.frm f hd x.1 h
  mono := fun hd x h => XE.Mem.mono hd x.1 h
  old := fun x h => XE.Mem.old x.1 h
/-- a column's new value -/
def sek : EK Tryz.prog (List Nat × XE) Se where
  enc := fun x => [.string (strB x.1)] ++ x.2.enc
  n := 8
  te := 103
  ts := 32
  bytes := 104
  z := .agg #[.string ByteArray.empty, .int .i64 0, .slice none 0 0, .int .i64 0, .int .i64 0, .int .i64 0, .string ByteArray.empty, .string ByteArray.empty]
  len := fun x => by rw [List.length_append, XE.enc_len]; rfl
  one := fun x => one_app (one_s _) (XE.enc_one x.2)
  pos := by decide
  by0 := by decide
  hu := Tryz.underlying32
  info := by kernel_rfl
  zc := rfl
  er := fun x => ⟨x.1, x.2.er⟩
  val := fun x => match x with | (nm, .mk op kind num scale text qual a cap args) => .agg #[.string (strB nm), .int .i64 op, .slice a args.length cap, .int .i64 kind, .int .i64 num, .int .i64 scale, .string text, .string qual]
  Mem := fun K w x => XE.Mem K w x.2
  frm := fun f hd x h => XE.Mem.frm f hd x.2 h
  mono := fun hd x h => XE.Mem.mono hd x.2 h
  old := fun x h => XE.Mem.old x.2 h
/-- a table that a query reads -/
def sok : EK Tryz.prog (List Nat × List Nat × XE) Src where
  enc := fun x => [.string (strB x.1), .string (strB x.2.1)] ++ x.2.2.enc
  n := 9
  te := 65
  ts := 27
  bytes := 120
  z := .agg #[.string ByteArray.empty, .string ByteArray.empty, .int .i64 0, .slice none 0 0, .int .i64 0, .int .i64 0, .int .i64 0, .string ByteArray.empty, .string ByteArray.empty]
  len := fun x => by rw [List.length_append, XE.enc_len]; rfl
  one := fun x => one_app (one_s2 _ _) (XE.enc_one x.2.2)
  pos := by decide
  by0 := by decide
  hu := Tryz.underlying27
  info := by kernel_rfl
  zc := rfl
  er := fun x => ⟨x.1, x.2.1, x.2.2.er⟩
  val := fun x => match x with | (t, al, .mk op kind num scale text qual a cap args) => .agg #[.string (strB t), .string (strB al), .int .i64 op, .slice a args.length cap, .int .i64 kind, .int .i64 num, .int .i64 scale, .string text, .string qual]
  Mem := fun K w x => XE.Mem K w x.2.2
  frm := fun f hd x h => XE.Mem.frm f hd x.2.2 h
  mono := fun hd x h => XE.Mem.mono hd x.2.2 h
  old := fun x h => XE.Mem.old x.2.2 h
/-- a list as it lies -/
structure XL (α : Type) where
  a : Option Addr
  cap : Nat
  xs : List α
section
variable {P : Program} {α β : Type} (E : EK P α β)
def XL.val {α : Type} (y : XL α) : Value := .slice y.a y.xs.length y.cap
/-- its parts lie in blocks of K -/
def XL.Mem (K : Bl) (w : World) (y : XL α) : Prop := y.xs.length ≤ y.cap ∧ y.cap ≤ maxLen ∧ (y.xs = [] ∨ ∃ b o, y.a = some ⟨b, o, none⟩ ∧ K b ∧ b < w.heap.size ∧ ∀ j u, (E.cells y.xs)[j]? = some u → w.cell? ⟨b, o + j, none⟩ = some u) ∧ ∀ x ∈ y.xs, E.Mem K w x
variable {E}
theorem XL.Mem.frm {K F : Bl} {w w1 : World} (f : Frm F w w1) (hd : ∀ k, K k → ¬ F k) (y : XL α) (h : XL.Mem E K w y) : XL.Mem E K w1 y := by
  obtain ⟨h1, h2, h3, h4⟩ := h
  refine ⟨h1, h2, ?_, fun x hx => E.frm f hd x (h4 x hx)⟩
  rcases h3 with h3 | ⟨b, o, e1, e2, e3, e4⟩
  · exact .inl h3
  · exact .inr ⟨b, o, e1, e2, Nat.lt_of_lt_of_le e3 f.size, fun j u hj => (f.cell e3 (hd b e2) _).trans (e4 j u hj)⟩
theorem XL.Mem.mono {K K' : Bl} {w : World} (hd : ∀ k, K k → K' k) (y : XL α) (h : XL.Mem E K w y) : XL.Mem E K' w y := by
  obtain ⟨h1, h2, h3, h4⟩ := h
  refine ⟨h1, h2, ?_, fun x hx => E.mono hd x (h4 x hx)⟩
  rcases h3 with h3 | ⟨b, o, e1, e2, e3, e4⟩
  · exact .inl h3
  · exact .inr ⟨b, o, e1, hd _ e2, e3, e4⟩
theorem XL.Mem.old {K : Bl} {w : World} (y : XL α) (h : XL.Mem E K w y) : XL.Mem E (fun k => K k ∧ k < w.heap.size) w y := by
  obtain ⟨h1, h2, h3, h4⟩ := h
  refine ⟨h1, h2, ?_, fun x hx => E.old x (h4 x hx)⟩
  rcases h3 with h3 | ⟨b, o, e1, e2, e3, e4⟩
  · exact .inl h3
  · exact .inr ⟨b, o, e1, ⟨e2, e3⟩, e3, e4⟩
theorem XL.Mem.below {K : Bl} {w w1 : World} {y : XL α} (h : XL.Mem E K w y) (hb : Below w.heap.size w w1) : XL.Mem E K w1 y := XL.Mem.frm (Frm.of_below (F := fun _ => False) hb) (fun _ _ e => e) y h
theorem XL.Mem.nil (K : Bl) (w : World) : XL.Mem E K w ⟨none, 0, []⟩ := ⟨Nat.le_refl _, Nat.zero_le _, .inl rfl, fun x hx => by cases hx⟩
theorem EK.below {K : Bl} {w w1 : World} {x : α} (h : E.Mem K w x) (hb : Below w.heap.size w w1) : E.Mem K w1 x := E.frm (Frm.of_below (F := fun _ => False) hb) (fun _ _ e => e) x h
/-- a list of the call's own lies -/
theorem OwR.xl {w : World} {B : Nat} {v : Value} {l : List α} (h : OwR E.toRK w B v l) (hm : ∀ x ∈ l, E.Mem (GE B) w x) : ∃ y : XL α, v = y.val ∧ y.xs = l ∧ XL.Mem E (GE B) w y := by
  rcases h.cases with ⟨rfl, rfl⟩ | ⟨g, cap, cur, rfl, hb, hg, hn, hc, hs, ht⟩
  · exact ⟨⟨none, 0, []⟩, rfl, rfl, XL.Mem.nil _ _⟩
  · refine ⟨⟨some ⟨g, 0, none⟩, cap, l⟩, rfl, rfl, hn, hc, ?_, hm⟩
    refine .inr ⟨g, 0, rfl, hb, (Array.getElem?_eq_some_iff.1 hg).1, fun j u hj => ?_⟩
    rw [cell_of_block hg, Nat.zero_add]
    rw [← ht, List.getElem?_take] at hj
    split at hj
    · simpa using hj
    · cases hj
end
/-- rows that are added -/
def rok : EK Tryz.prog (XL XE) (List Ex) where
  enc := fun y => [y.val]
  n := 1
  te := 28
  ts := 25
  bytes := 24
  z := .slice none 0 0
  len := fun _ => rfl
  one := fun x u hu => by
    simp only [List.mem_cons, List.not_mem_nil, or_false] at hu
    subst hu; rfl
  pos := by decide
  by0 := by decide
  hu := Tryz.underlying25
  info := by kernel_rfl
  zc := rfl
  er := fun y => y.xs.map XE.er
  val := XL.val
  Mem := XL.Mem exk
  frm := XL.Mem.frm
  mono := XL.Mem.mono
  old := XL.Mem.old

end Go.Proofs.YtkffomfbnbcgaaaGreatDoor

namespace Go.Proofs.YtkffomfbnbcgaaaGreatDoor
set_option maxRecDepth 100000
open Go.RowKit Go.Joins Go.ChangeShapes Go.WideShapes
set_option linter.unusedVariables false
set_option linter.unusedSimpArgs false

section
variable {P : Program} {α β : Type} {E : EK P α β}
/-- a value that is such a part, all in new memory -/
def RE (E : EK P α β) (B : Nat) (w : World) (v : Value) (b : β) : Prop := ∃ x : α, v = E.val x ∧ E.er x = b ∧ E.Mem (GE B) w x
/-- a list of such parts -/
def RL (E : EK P α β) (B : Nat) (w : World) (v : Value) (l : List β) : Prop := ∃ y : XL α, v = y.val ∧ y.xs.map E.er = l ∧ XL.Mem E (GE B) w y
/-- a list that is being read -/
structure LsS (E : EK P α β) (w wr : World) (pb : Nat) (s : PS) (v : Value) (xs : List α) : Prop where
  st : Stp w wr pb s
  own : OwR E.toRK wr w.heap.size v xs
  mm : ∀ x ∈ xs, E.Mem (fun k => w.heap.size ≤ k ∧ v.ownBlock ≠ some k) wr x
  hp : pb < w.heap.size
theorem LsS.made {w w1 : World} {pb : Nat} {s : PS} (h : Stp w w1 pb s) (hp : pb < w.heap.size) {x : α} (hm : E.Mem (GE w.heap.size) w1 x) :
    LsS E w (w1.alloc (.cells (E.cells [x]).toArray E.te)) pb s (.slice (some ⟨w1.heap.size, 0, none⟩) 1 1) [x] := by
  have b1 : Below w1.heap.size w1 (w1.alloc (.cells (E.cells [x]).toArray E.te)) := (Below.refl _ _).alloc (Nat.le_refl _) _
  refine ⟨h.below b1, OwR.made w1 h.fr.size [x] (by simp [maxLen]), fun z hz => ?_, hp⟩
  obtain rfl : z = x := by simpa using hz
  refine E.mono (fun k hk => ⟨hk.1, fun e => ?_⟩) z (E.below (E.old z hm) b1)
  have h2 := hk.2
  simp only [Value.ownBlock, Option.some.injEq] at e
  omega
theorem LsS.stp {w wr w2 : World} {pb : Nat} {s s2 : PS} {v : Value} {xs : List α} (h : LsS E w wr pb s v xs) (h2 : Stp wr w2 pb s2) : LsS E w w2 pb s2 v xs :=
  ⟨h.st.trans h2, h.own.step h2.fr (fun k hk e => by have := (h.own.lt hk).1; have := h.hp; omega), fun x hx => E.frm h2.fr (fun k hk e => by have := hk.1; have := h.hp; omega) x (h.mm x hx), h.hp⟩
theorem LsS.push {w wr w2 w' : World} {pb : Nat} {s s2 : PS} {v v' : Value} {xs : List α} {y : α} (h : LsS E w wr pb s v xs) (h2 : Stp wr w2 pb s2) (hy : E.Mem (GE wr.heap.size) w2 y)
    (ho : OwR E.toRK w' w.heap.size v' (xs ++ [y])) (hg : (w2.alloc (.cells (E.cells [y]).toArray E.te)).grownBy w' v.ownBlock) (hn : NewR (w2.alloc (.cells (E.cells [y]).toArray E.te)) v v') : LsS E w w' pb s2 v' (xs ++ [y]) := by
  have hA := h.stp h2
  have b3 : Below w2.heap.size w2 (w2.alloc (.cells (E.cells [y]).toArray E.te)) := (Below.refl _ _).alloc (Nat.le_refl _) _
  have hs3 := b3.size
  have f : Frm (fun k => v.ownBlock = some k) (w2.alloc (.cells (E.cells [y]).toArray E.te)) w' := (Frm.refl _ _).grown hg (fun k hk => .inl hk)
  have hpb := h.hp
  have hw := h.st.fr.size
  have hw2 := h2.fr.size
  refine ⟨⟨(hA.st.fr.step b3).grown hg (fun k hk => .inr (h.own.lt hk).1), (hA.st.ps.below b3).frm f (fun k hk e => by have := (h.own.lt e).1; omega)⟩, ho, fun x hx => ?_, hpb⟩
  have hne : ∀ k, k < w2.heap.size → v.ownBlock ≠ some k → v'.ownBlock ≠ some k := fun k hk h1 h3 => by
    rcases hn k h3 with g | g
    · exact h1 g
    · omega
  rcases List.mem_append.1 hx with hx | hx
  · have h1 := E.old x (hA.mm x hx)
    refine E.mono (fun k hk => ?_) x (E.frm f (fun k hk e => hk.1.2 e) x (E.below h1 b3))
    exact ⟨hk.1.1, hne k hk.2 hk.1.2⟩
  · obtain rfl : x = y := by simpa using hx
    have h1 := E.old x hy
    have hq : ∀ k, wr.heap.size ≤ k → v.ownBlock ≠ some k := fun k hk e => by have := (h.own.lt e).2.1; omega
    refine E.mono (fun k hk => ?_) x (E.frm f (fun k hk e => hq k hk.1 e) x (E.below h1 b3))
    have hk1 : wr.heap.size ≤ k := hk.1
    exact ⟨by omega, hne k hk.2 (hq k hk.1)⟩
theorem LsS.out {w wr : World} {pb : Nat} {s : PS} {v : Value} {xs : List α} (h : LsS E w wr pb s v xs) : EndP w pb (RL E w.heap.size) (.ok (xs.map E.er, s)) (.returned v) wr := by
  obtain ⟨y, h1, h2, h3⟩ := OwR.xl h.own (fun x hx => E.mono (fun k hk => hk.1) x (h.mm x hx))
  exact ⟨h.st.fr, v, rfl, ⟨y, h1, by rw [h2], h3⟩, h.st.ps⟩
end
theorem qcomma : (⟨#[44]⟩ : ByteArray) = strB [44] := by rfl

end Go.Proofs.YtkffomfbnbcgaaaGreatDoor

namespace Go.Proofs.YtkffomfbnbcgaaaGreatDoor
set_option maxRecDepth 100000
open Go.RowKit Go.Joins Go.ChangeShapes Go.WideShapes
set_option linter.unusedVariables false
set_option linter.unusedSimpArgs false
theorem zqcreate : (⟨#[99, 114, 101, 97, 116, 101]⟩ : ByteArray) = strB wCreate := by rfl
theorem zqdrop : (⟨#[100, 114, 111, 112]⟩ : ByteArray) = strB wDrop := by rfl
theorem zqinsert : (⟨#[105, 110, 115, 101, 114, 116]⟩ : ByteArray) = strB wInsert := by rfl
theorem zqselect : (⟨#[115, 101, 108, 101, 99, 116]⟩ : ByteArray) = strB wSelect := by rfl
theorem zqupdate : (⟨#[117, 112, 100, 97, 116, 101]⟩ : ByteArray) = strB wUpdate := by rfl
theorem zqdelete : (⟨#[100, 101, 108, 101, 116, 101]⟩ : ByteArray) = strB wDelete := by rfl
theorem zqbegin : (⟨#[98, 101, 103, 105, 110]⟩ : ByteArray) = strB wBegin := by rfl
theorem zqcommit : (⟨#[99, 111, 109, 109, 105, 116]⟩ : ByteArray) = strB wCommit := by rfl
theorem zqrollback : (⟨#[114, 111, 108, 108, 98, 97, 99, 107]⟩ : ByteArray) = strB wRollback := by rfl
theorem zqtable : (⟨#[116, 97, 98, 108, 101]⟩ : ByteArray) = strB wTable := by rfl
theorem zqindex : (⟨#[105, 110, 100, 101, 120]⟩ : ByteArray) = strB wIndex := by rfl
theorem zqunique : (⟨#[117, 110, 105, 113, 117, 101]⟩ : ByteArray) = strB wUnique := by rfl
theorem zqon : (⟨#[111, 110]⟩ : ByteArray) = strB wOn := by rfl
theorem zqinto : (⟨#[105, 110, 116, 111]⟩ : ByteArray) = strB wInto := by rfl
theorem zqvalues : (⟨#[118, 97, 108, 117, 101, 115]⟩ : ByteArray) = strB wValues := by rfl
theorem zqfrom : (⟨#[102, 114, 111, 109]⟩ : ByteArray) = strB wFrom := by rfl
theorem zqorder : (⟨#[111, 114, 100, 101, 114]⟩ : ByteArray) = strB wOrder := by rfl
theorem zqby : (⟨#[98, 121]⟩ : ByteArray) = strB wBy := by rfl
theorem zqas : (⟨#[97, 115]⟩ : ByteArray) = strB wAs := by rfl
theorem zqinner : (⟨#[105, 110, 110, 101, 114]⟩ : ByteArray) = strB wInner := by rfl
theorem zqjoin : (⟨#[106, 111, 105, 110]⟩ : ByteArray) = strB wJoin := by rfl
theorem zqwhere : (⟨#[119, 104, 101, 114, 101]⟩ : ByteArray) = strB wWhere := by rfl
theorem zqdesc : (⟨#[100, 101, 115, 99]⟩ : ByteArray) = strB wDesc := by rfl
theorem zqset : (⟨#[115, 101, 116]⟩ : ByteArray) = strB wSet := by rfl
theorem zqbool : (⟨#[98, 111, 111, 108]⟩ : ByteArray) = strB wBool := by rfl
theorem zqtext : (⟨#[116, 101, 120, 116]⟩ : ByteArray) = strB wText := by rfl
theorem zqint : (⟨#[105, 110, 116]⟩ : ByteArray) = strB wInt := by rfl
theorem zqreal : (⟨#[114, 101, 97, 108]⟩ : ByteArray) = strB wReal := by rfl
theorem zqnot : (⟨#[110, 111, 116]⟩ : ByteArray) = strB wNot := by rfl
theorem zqnull : (⟨#[110, 117, 108, 108]⟩ : ByteArray) = strB wNull := by rfl
theorem zqOpen : (⟨#[40]⟩ : ByteArray) = strB [40] := by rfl
theorem zqShut : (⟨#[41]⟩ : ByteArray) = strB [41] := by rfl
theorem zqComma : (⟨#[44]⟩ : ByteArray) = strB [44] := by rfl
theorem zqEq : (⟨#[61]⟩ : ByteArray) = strB [61] := by rfl
theorem zqStar : (⟨#[42]⟩ : ByteArray) = strB [42] := by rfl

theorem bind_call {α β : Type} {x : RX α} {f : α → PS → RX β} {r : Except Nat (β × PS)} (hr : bindR x f = some r) : (∃ c, x = some (.error c) ∧ r = .error c) ∨ (∃ a s', x = some (.ok (a, s')) ∧ f a s' = some r) := by
  unfold bindR at hr
  match x, hr with
  | some (.error c), hr => exact .inl ⟨c, rfl, by injection hr with hr; exact hr.symm⟩
  | some (.ok (a, s')), hr => exact .inr ⟨a, s', rfl, hr⟩
theorem need_bind {β : Type} {wd : List Nat} {s : PS} {f : Unit → PS → RX β} {r : Except Nat (β × PS)} (hr : bindR (needP wd s) f = some r) : (atP wd s = false ∧ r = .error 130) ∨ (atP wd s = true ∧ f () s.next = some r) := by
  unfold needP at hr
  cases h : atP wd s with
  | true => rw [h] at hr; exact .inr ⟨rfl, hr⟩
  | false => rw [h] at hr; exact .inl ⟨rfl, by injection hr with hr; exact hr.symm⟩
theorem ret_ok {α : Type} {a : α} {s : PS} {r : Except Nat (α × PS)} (h : retR a s = some r) : r = .ok (a, s) := by injection h with h; exact h.symm
/-- a text, a number -/
def RS1 (B : Nat) (w : World) (v : Value) (l : List Nat) : Prop := v = .string (strB l)
def RN1 (B : Nat) (w : World) (v : Value) (n : Nat) : Prop := v = .int .i64 (n : Int)
theorem name_pr (pb : Nat) : PR 57 pb RS1 (nameP isN) := fun w s r h hr => name_p h hr
theorem as_bind {s : PS} (hc : atP wAs s = true) : aliasP isN s = nameP isN s.next := by unfold aliasP; rw [if_pos hc]
theorem as_no {s : PS} (hc : atP wAs s = false) : aliasP isN s = retR [] s := by unfold aliasP; rw [if_neg (by rw [hc]; decide)]
set_option maxHeartbeats 2000000 in
theorem alias_p (pb : Nat) : PR 176 pb RS1 (aliasP isN) := by
  intro w s r h hr
  generalize hP : EndP w pb (RS1 w.heap.size) r = P
  have HP := Lib.hid hP
  cases hc : atP wAs s with
  | true =>
    rw [as_bind hc] at hr
    have HF := Lib.hid (found_yes h zqas (by decide) hc)
    have HN := Lib.hid (fun (w' : World) (hp : PsM w' pb s.next) => name_p hp hr)
    clear hP h hr hc
    match r, HN, HP with
    | .error c, HN, HP =>
      go_enter Tryz.func176, Tryz.ntmps176
      go_wp2_with (first | (go_at_call 50; refine HF.out.mono ?_; rintro e w2 ⟨rfl, ss⟩; have S2 := Lib.hid ss; clear ss) | (go_at_call 57; refine (HN.out _ S2.out.ps).mono ?_; rintro e w3 ⟨ff, rfl⟩; have F3 := Lib.hid ff; clear ff))
      exact ⟨rfl, by rw [← HP.out]; exact ⟨S2.out.fr.trans F3.out (New.refl _ _), rfl⟩⟩
    | .ok (l, s3), HN, HP =>
      go_enter Tryz.func176, Tryz.ntmps176
      go_wp2_with (first | (go_at_call 50; refine HF.out.mono ?_; rintro e w2 ⟨rfl, ss⟩; have S2 := Lib.hid ss; clear ss) | (go_at_call 57; refine (HN.out _ S2.out.ps).mono ?_; rintro e w3 ⟨ff, v, rfl, hv, pp⟩; have hv2 : v = .string (strB l) := hv; subst hv2; have S3 := Lib.hid (S2.out.trans ⟨ff, pp⟩); clear ff pp hv))
      have hfin : P (.returned (.string (strB l))) w3 := by rw [← HP.out]; exact ⟨S3.out.fr, _, rfl, rfl, S3.out.ps⟩
      exact hfin
  | false =>
    rw [as_no hc] at hr
    have hrc := ret_ok hr
    subst hrc
    have HF := Lib.hid (found_no h zqas (by decide) hc)
    clear hP h hr hc
    go_enter Tryz.func176, Tryz.ntmps176
    go_wp2_with (first | (go_at_call 50; refine HF.out.mono ?_; rintro e w2 ⟨rfl, ss⟩; have S2 := Lib.hid ss; clear ss))
    have hfin : P (.returned (.string ⟨#[]⟩)) w2 := by rw [← HP.out]; exact ⟨S2.out.fr, _, rfl, rfl, S2.out.ps⟩
    exact hfin
set_option maxHeartbeats 2000000 in
theorem where_p (n pb : Nat) : PR 58 pb RX1 (whereP isN n) := by
  intro w s r h hr
  generalize hP : EndP w pb (RX1 w.heap.size) r = P
  have HP := Lib.hid hP
  have H1 := Hd.mk' h
  obtain ⟨wa, hw1⟩ : ∃ w1, w.alloc (.cells zx 30) = w1 := ⟨_, rfl⟩
  rw [hw1] at H1
  have HH := Lib.hid H1
  unfold zx at hw1
  unfold whereP at hr
  cases hc : atP wWhere s with
  | true =>
    rw [if_pos hc] at hr
    have HF := Lib.hid (found_yes H1.st.ps zqwhere (by decide) hc)
    have HN := Lib.hid (fun (w' : World) (hp : PsM w' pb s.next) => whole_p n pb w' s.next r hp hr)
    clear hP h hr hc H1
    match r, HN, HP with
    | .error c, HN, HP =>
      go_enter Tryz.func58, Tryz.ntmps58
      go_wp2_with (first | (go_at_call 50; refine HF.out.mono ?_; rintro e w2 ⟨rfl, ss⟩; have S2 := Lib.hid ss; clear ss) | (go_at_call 132; refine (HN.out _ S2.out.ps).mono ?_; rintro e w3 ⟨ff, rfl⟩; have F3 := Lib.hid ff; clear ff))
      exact ⟨rfl, by rw [← HP.out]; exact HH.out.err (S2.out.fr.trans F3.out (New.refl _ _)) c⟩
    | .ok (ex, s3), HN, HP =>
      go_enter Tryz.func58, Tryz.ntmps58
      go_wp2_with (first | (go_at_call 50; refine HF.out.mono ?_; rintro e w2 ⟨rfl, ss⟩; have S2 := Lib.hid ss; clear ss) | (go_at_call 132; refine (HN.out _ S2.out.ps).mono ?_; rintro e w3 ⟨f3, v, rfl, ⟨x, rfl, rfl, m3⟩, p3⟩; have st3 := S2.out.trans ⟨f3, p3⟩; obtain ⟨⟨x0, x1, x2, x3, x4, x5, x6⟩, z0, z1, z2, z3, z4, z5, z6⟩ := (HH.out.box st3).seven; have HFI := Lib.hid (HH.out.fin st3 x (XE.mem_up S2.out.fr.size m3)); clear f3 p3 m3 st3; obtain ⟨op2, kind2, num2, scale2, text2, qual2, a2, cap2, args2⟩ := x; unfold XE.val))
      exact ex_ret Tryz.results58 HFI.out.1 rfl rfl (by rw [← HP.out]; exact HFI.out.2)
  | false =>
    rw [if_neg (by rw [hc]; decide)] at hr
    have hrc := ret_ok hr
    subst hrc
    have HF := Lib.hid (found_no H1.st.ps zqwhere (by decide) hc)
    clear hP h hr hc H1
    go_enter Tryz.func58, Tryz.ntmps58
    go_wp2_with (first | (go_at_call 50; refine HF.out.mono ?_; rintro e w2 ⟨rfl, ss⟩; have HFI := Lib.hid (HH.out.leaf ss 0 0 0 0 ⟨#[]⟩ ⟨#[]⟩); obtain ⟨⟨x0, x1, x2, x3, x4, x5, x6⟩, z0, z1, z2, z3, z4, z5, z6⟩ := (HH.out.box ss).seven; clear ss))
    exact ex_ret Tryz.results58 HFI.out.1 rfl rfl (by rw [← HP.out]; exact HFI.out.2)
set_option maxHeartbeats 2000000 in
theorem type_p (pb : Nat) : PR 173 pb RN1 typeP := by
  intro w s r h hr
  generalize hP : EndP w pb (RN1 w.heap.size) r = P
  have HP := Lib.hid hP
  have S0 := Lib.hid (Stp.refl h)
  unfold typeP at hr
  cases c0 : atP wInt s with
  | true =>
    rw [if_pos c0] at hr
    have hrc := ret_ok hr
    subst hrc
    have HF0 := Lib.hid (fun (w' : World) (hp : PsM w' pb s) => found_yes hp zqint (by decide) c0)
    clear hP h hr c0
    go_enter Tryz.func173, Tryz.ntmps173
    go_wp2_with (first | (go_at_call 50; refine (HF0.out _ S0.out.ps).mono ?_; rintro e w1 ⟨rfl, ss⟩; have S1 := Lib.hid (S0.out.trans ss); clear ss HF0))
    have hfin : P (.returned (.int .i64 2)) w1 := by rw [← HP.out]; exact ⟨S1.out.fr, _, rfl, rfl, S1.out.ps⟩
    exact hfin
  | false =>
  rw [if_neg (by rw [c0]; decide)] at hr
  have HF0 := Lib.hid (fun (w' : World) (hp : PsM w' pb s) => found_no hp zqint (by decide) c0)
  cases c1 : atP wReal s with
  | true =>
    rw [if_pos c1] at hr
    have hrc := ret_ok hr
    subst hrc
    have HF1 := Lib.hid (fun (w' : World) (hp : PsM w' pb s) => found_yes hp zqreal (by decide) c1)
    clear hP h hr c1
    go_enter Tryz.func173, Tryz.ntmps173
    go_wp2_with (first | (go_at_call 50; refine (HF0.out _ S0.out.ps).mono ?_; rintro e w1 ⟨rfl, ss⟩; have S1 := Lib.hid (S0.out.trans ss); clear ss HF0) | (go_at_call 50; refine (HF1.out _ S1.out.ps).mono ?_; rintro e w2 ⟨rfl, ss⟩; have S2 := Lib.hid (S1.out.trans ss); clear ss HF1))
    have hfin : P (.returned (.int .i64 3)) w2 := by rw [← HP.out]; exact ⟨S2.out.fr, _, rfl, rfl, S2.out.ps⟩
    exact hfin
  | false =>
  rw [if_neg (by rw [c1]; decide)] at hr
  have HF1 := Lib.hid (fun (w' : World) (hp : PsM w' pb s) => found_no hp zqreal (by decide) c1)
  cases c2 : atP wBool s with
  | true =>
    rw [if_pos c2] at hr
    have hrc := ret_ok hr
    subst hrc
    have HF2 := Lib.hid (fun (w' : World) (hp : PsM w' pb s) => found_yes hp zqbool (by decide) c2)
    clear hP h hr c2
    go_enter Tryz.func173, Tryz.ntmps173
    go_wp2_with (first | (go_at_call 50; refine (HF0.out _ S0.out.ps).mono ?_; rintro e w1 ⟨rfl, ss⟩; have S1 := Lib.hid (S0.out.trans ss); clear ss HF0) | (go_at_call 50; refine (HF1.out _ S1.out.ps).mono ?_; rintro e w2 ⟨rfl, ss⟩; have S2 := Lib.hid (S1.out.trans ss); clear ss HF1) | (go_at_call 50; refine (HF2.out _ S2.out.ps).mono ?_; rintro e w3 ⟨rfl, ss⟩; have S3 := Lib.hid (S2.out.trans ss); clear ss HF2))
    have hfin : P (.returned (.int .i64 1)) w3 := by rw [← HP.out]; exact ⟨S3.out.fr, _, rfl, rfl, S3.out.ps⟩
    exact hfin
  | false =>
  rw [if_neg (by rw [c2]; decide)] at hr
  have HF2 := Lib.hid (fun (w' : World) (hp : PsM w' pb s) => found_no hp zqbool (by decide) c2)
  have HR := Lib.hid hr
  clear hP h hr c0 c1 c2
  go_enter Tryz.func173, Tryz.ntmps173
  go_wp2_with (first | (go_at_call 50; refine (HF0.out _ S0.out.ps).mono ?_; rintro e w1 ⟨rfl, ss⟩; have S1 := Lib.hid (S0.out.trans ss); clear ss HF0) | (go_at_call 50; refine (HF1.out _ S1.out.ps).mono ?_; rintro e w2 ⟨rfl, ss⟩; have S2 := Lib.hid (S1.out.trans ss); clear ss HF1) | (go_at_call 50; refine (HF2.out _ S2.out.ps).mono ?_; rintro e w3 ⟨rfl, ss⟩; have S3 := Lib.hid (S2.out.trans ss); clear ss HF2) | (go_at_call 56; rcases need_bind HR.out with ⟨ha, rfl⟩ | ⟨ha, hrr⟩; refine (need_g S3.out.ps zqtext (by decide) (by first | rfl | simp | assumption)).mono ?_; rintro e w4 hn; obtain ⟨rfl, ff⟩ := hn.2 ha; exact ⟨rfl, by rw [← HP.out]; exact ⟨S3.out.fr.trans ff (New.refl _ _), rfl⟩⟩; refine (need_g S3.out.ps zqtext (by decide) (by first | rfl | simp | assumption)).mono ?_; rintro e w4 hn; obtain ⟨rfl, ss⟩ := hn.1 ha; have S4 := Lib.hid (S3.out.trans ss); have HR4 := Lib.hid hrr; clear ss hn hrr ha HR))
  have hrc := ret_ok HR4.out
  have hfin : P (.returned (.int .i64 4)) w4 := by rw [← HP.out, hrc]; exact ⟨S4.out.fr, _, rfl, rfl, S4.out.ps⟩
  exact hfin

end Go.Proofs.YtkffomfbnbcgaaaGreatDoor

namespace Go.Proofs.YtkffomfbnbcgaaaGreatDoor
set_option maxRecDepth 100000
open Go.RowKit Go.Joins Go.ChangeShapes Go.WideShapes
set_option linter.unusedVariables false
set_option linter.unusedSimpArgs false

set_option maxHeartbeats 4000000 in
theorem list_ex {g pb : Nat} {one : PS → RX Ex} (hone : PR g pb (RE exk) one) (henter : ∀ args w, (callFunc g args).run Tryz.prog w = .ok (.enter g args) w) (hus : ∀ s a s', one s = some (.ok (a, s')) → s'.rest.length ≤ s.rest.length)
    {w : World} {s : PS} {r : Except Nat (List Ex × PS)} (h : PsM w pb s) (n0 most : Nat) (hmost : most ≤ 100) (hmost1 : 1 ≤ most) (hr : listP one most n0 s = some r) :
    Calls Tryz.prog 196 #[.pointer (some ⟨pb, 0, none⟩), .func (.func g) #[.pointer (some ⟨pb, 0, none⟩)] #[], .int .i64 (most : Int)] w (EndP w pb (RL exk w.heap.size) r) := by
  generalize hP : EndP w pb (RL exk w.heap.size) r = P
  have HP := Lib.hid hP
  have hpb := h.lt
  unfold listP at hr
  cases h1 : one s with
  | none => rw [h1] at hr; cases hr
  | some r1 =>
    have HB := Lib.hid (hone w s r1 h h1)
    rw [h1] at hr
    have HONE := Lib.hid hone
    have HUS := Lib.hid hus
    clear hone hus h1 h hP
    match r1, hr, HB with
    | .error c, hr, HB =>
      have hrc : r = .error c := by injection hr with hr; exact hr.symm
      subst hrc
      clear hr
      go_enter Tryz.func196, Tryz.ntmps196
      go_wp2_with (first | (go_at_fn g; refine HB.out.mono ?_; rintro e w1 ⟨f1, rfl⟩; have F1 := Lib.hid f1; clear f1 HB))
      exact ⟨rfl, by rw [← HP.out]; exact ⟨F1.out, rfl⟩⟩
    | .ok (b1, s1), hr, HB =>
      have HR : Hid (lsP one most n0 [b1] s1 = some r) := Lib.hid hr
      clear hr
      go_enter Tryz.func196, Tryz.ntmps196
      go_wp2_with (first | (go_at_fn g; refine HB.out.mono ?_; rintro e w1 ⟨f1, v, rfl, ⟨x, rfl, hxe, m1⟩, p1⟩; have HL := Lib.hid (LsS.made (E := exk) (x := x) ⟨f1, p1⟩ hpb m1); have HXE := Lib.hid hxe; clear f1 p1 m1 HB hxe; obtain ⟨op, kind, num, scale, text, qual, a, cap, args⟩ := x; simp only [exk, XE.val]))
      go_loopw [7] (fun i wr => ∃ (s : PS) (xs : List XE) (m : Nat), Hid (lsP one most m (xs.map exk.er) s = some r) ∧ Hid (LsS exk w wr pb s i xs) ∧ xs.length ≤ most) (fun _ wr => plen wr pb)
      case atStart => exact ⟨s1, [XE.mk op kind num scale text qual a cap args], n0, Lib.hid (by rw [List.map_cons, List.map_nil, HXE.out]; exact HR.out), HL, hmost1⟩
      case round =>
        clear HL HXE HR
        obtain ⟨s2, xs, m, HR, HLS, hxm⟩ := hrel
        obtain ⟨m, rfl⟩ : ∃ m', m = m' + 1 := by
          cases m with
          | zero => have := HR.out; rw [lsP] at this; cases this
          | succ m => exact ⟨m, rfl⟩
        have hR := HR.out
        rw [lsP] at hR
        have hpl := HLS.out.st.ps.plen
        obtain ⟨sa, sc, rfl, hc1, hc2⟩ := HLS.out.own.sl
        obtain ⟨n, hn⟩ : ∃ n, xs.length = n := ⟨_, rfl⟩
        have HN := Lib.hid hn
        rw [List.length_map, hn] at hR
        rw [hn] at HLS hxm ⊢
        clear hn
        cases ha : atP [44] s2 with
        | false =>
          rw [if_neg (by rw [ha]; decide)] at hR
          have hrc : r = .ok (xs.map exk.er, s2) := by injection hR with hR; exact hR.symm
          have HF := Lib.hid (fun (w' : World) (hp : PsM w' pb s2) => found_no hp qcomma (by decide) ha)
          have HRC := Lib.hid hrc
          clear hR ha hrc hpl
          go_wp2_with (first | (go_at_call 50; refine (HF.out _ HLS.out.st.ps).mono ?_; rintro e w2 ⟨rfl, ss⟩; have HL2 := Lib.hid (HLS.out.stp ss); clear ss HF))
          have hfin : P (.returned (.slice sa n sc)) w2 := by rw [← HP.out, HRC.out]; exact HL2.out.out
          exact hfin
        | true =>
          rw [if_pos ha] at hR
          have HF := Lib.hid (fun (w' : World) (hp : PsM w' pb s2) => found_yes hp qcomma (by decide) ha)
          have hlen := atP_len ha
          by_cases c : n < most
          · rw [if_pos c] at hR
            have c1 : (n : Int) < (most : Int) := by omega
            have HMO := Lib.hid (pmust_ok 151)
            cases h2 : one s2.next with
            | none => rw [h2] at hR; cases hR
            | some r2 =>
              have HB2 := Lib.hid (fun (w' : World) (hp : PsM w' pb s2.next) => HONE.out w' s2.next r2 hp h2)
              have HU := Lib.hid (fun a s' (q : r2 = .ok (a, s')) => HUS.out s2.next a s' (by rw [h2, q]))
              have HPL := Lib.hid (And.intro hpl hlen)
              rw [h2] at hR
              clear h2 ha hpl hlen
              match r2, hR, HB2 with
              | .error e0, hR, HB2 =>
                have hrc : r = .error e0 := by injection hR with hR; exact hR.symm
                have HRC := Lib.hid hrc
                clear hR hrc HU
                go_wp2_with (first | (go_at_call 50; refine (HF.out _ HLS.out.st.ps).mono ?_; rintro e w2 ⟨rfl, ss⟩; have HL2 := Lib.hid (HLS.out.stp ss); clear ss HF) | (go_at_call 31; refine (HMO.out _).mono ?_; rintro e w3 ⟨rfl, rfl⟩; clear HMO) | (go_at_fn g; refine (HB2.out _ HL2.out.st.ps).mono ?_; rintro e w4 ⟨f4, rfl⟩; have F4 := Lib.hid (HL2.out.st.fr.trans f4 (New.refl _ _)); clear f4 HB2))
                exact ⟨rfl, by rw [← HP.out, HRC.out]; exact ⟨F4.out, rfl⟩⟩
              | .ok (b2, s3), hR, HB2 =>
                have HR3 : Hid (lsP one most m (xs.map exk.er ++ [b2]) s3 = some r) := Lib.hid hR
                have hu := HU.out b2 s3 rfl
                have HU3 := Lib.hid hu
                clear hR HU hu
                go_wp2_with (first | (go_at_call 50; refine (HF.out _ HLS.out.st.ps).mono ?_; rintro e w2 ⟨rfl, ss⟩; have HL2 := Lib.hid (HLS.out.stp ss); clear ss HF) | (go_at_call 31; refine (HMO.out _).mono ?_; rintro e w3 ⟨rfl, rfl⟩; clear HMO) | (go_at_fn g; refine (HB2.out _ HL2.out.st.ps).mono ?_; rintro e w4 ⟨f4, v4, rfl, ⟨x, rfl, hxe, m4⟩, p4⟩; have H4 := Lib.hid (And.intro (Stp.mk f4 p4) m4); have HXE2 := Lib.hid hxe; have HPU := Lib.hid (fun v9 w9 => LsS.push (E := exk) (y := x) (v' := v9) (w' := w9) HL2.out ⟨f4, p4⟩ m4); have HOW := Lib.hid (((HL2.out.stp ⟨f4, p4⟩).own).below ((Below.refl w4.heap.size w4).alloc (Nat.le_refl _) (.cells (exk.cells [x]).toArray exk.te))); have HNW := Lib.hid (OwR.made_cells (K := exk.toRK) w4 [x]); clear f4 p4 m4 HB2 hxe; obtain ⟨op2, kind2, num2, scale2, text2, qual2, a2, cap2, args2⟩ := x; simp only [exk, XE.val]) | (at_builtin; refine OwR.wp (K := exk.toRK) rfl _ _ rfl w.heap.size (.slice sa n sc) xs rfl HOW.out (by have := HL2.out.st.fr.size; have := H4.out.1.fr.size; simp; omega) ⟨w4.heap.size, 0, none⟩ 1 1 [XE.mk op2 kind2 num2 scale2 text2 qual2 a2 cap2 args2] rfl rfl HNW.out (by have := HN.out; omega) ?_; intro v9 w9 o9 g9 n9; have HL9 := Lib.hid (HPU.out v9 w9 o9 g9 n9); clear o9 g9 n9))
                refine ⟨⟨s3, xs ++ [XE.mk op2 kind2 num2 scale2 text2 qual2 a2 cap2 args2], m, Lib.hid ?_, HL9, by rw [List.length_append, HN.out, List.length_singleton]; omega⟩, ?_⟩
                · rw [List.map_append, List.map_cons, List.map_nil, HXE2.out]
                  exact HR3.out
                · rw [HL9.out.st.ps.plen]
                  have h1 := HPL.out
                  have h2 := HU3.out
                  omega
          · rw [if_neg c] at hR
            have hrc : r = .error 151 := by injection hR with hR; exact hR.symm
            have HRC := Lib.hid hrc
            have c1 : decide ((n : Int) < (most : Int)) = false := by simp; omega
            have HMN := Lib.hid (pmust_no 151)
            clear hR hrc ha hpl hlen
            go_wp2_with (first | (go_at_call 50; refine (HF.out _ HLS.out.st.ps).mono ?_; rintro e w2 ⟨rfl, ss⟩; have HL2 := Lib.hid (HLS.out.stp ss); clear ss HF) | (go_at_call 31; refine (HMN.out _).mono ?_; rintro e w3 ⟨rfl, rfl⟩; clear HMN))
            exact ⟨rfl, by rw [← HP.out, HRC.out]; exact ⟨HL2.out.st.fr, rfl⟩⟩

end Go.Proofs.YtkffomfbnbcgaaaGreatDoor

namespace Go.Proofs.YtkffomfbnbcgaaaGreatDoor
set_option maxRecDepth 100000
open Go.RowKit Go.Joins Go.ChangeShapes Go.WideShapes
set_option linter.unusedVariables false
set_option linter.unusedSimpArgs false

set_option maxHeartbeats 4000000 in
theorem list_st {g pb : Nat} {one : PS → RX (List Nat)} (hone : PR g pb (RE stk) one) (henter : ∀ args w, (callFunc g args).run Tryz.prog w = .ok (.enter g args) w) (hus : ∀ s a s', one s = some (.ok (a, s')) → s'.rest.length ≤ s.rest.length)
    {w : World} {s : PS} {r : Except Nat (List (List Nat) × PS)} (h : PsM w pb s) (n0 most : Nat) (hmost : most ≤ 100) (hmost1 : 1 ≤ most) (hr : listP one most n0 s = some r) :
    Calls Tryz.prog 174 #[.pointer (some ⟨pb, 0, none⟩), .func (.func g) #[.pointer (some ⟨pb, 0, none⟩)] #[], .int .i64 (most : Int)] w (EndP w pb (RL stk w.heap.size) r) := by
  generalize hP : EndP w pb (RL stk w.heap.size) r = P
  have HP := Lib.hid hP
  have hpb := h.lt
  unfold listP at hr
  cases h1 : one s with
  | none => rw [h1] at hr; cases hr
  | some r1 =>
    have HB := Lib.hid (hone w s r1 h h1)
    rw [h1] at hr
    have HONE := Lib.hid hone
    have HUS := Lib.hid hus
    clear hone hus h1 h hP
    match r1, hr, HB with
    | .error c, hr, HB =>
      have hrc : r = .error c := by injection hr with hr; exact hr.symm
      subst hrc
      clear hr
      go_enter Tryz.func174, Tryz.ntmps174
      go_wp2_with (first | (go_at_fn g; refine HB.out.mono ?_; rintro e w1 ⟨f1, rfl⟩; have F1 := Lib.hid f1; clear f1 HB))
      exact ⟨rfl, by rw [← HP.out]; exact ⟨F1.out, rfl⟩⟩
    | .ok (b1, s1), hr, HB =>
      have HR : Hid (lsP one most n0 [b1] s1 = some r) := Lib.hid hr
      clear hr
      go_enter Tryz.func174, Tryz.ntmps174
      go_wp2_with (first | (go_at_fn g; refine HB.out.mono ?_; rintro e w1 ⟨f1, v, rfl, ⟨x, rfl, hxe, m1⟩, p1⟩; have HL := Lib.hid (LsS.made (E := stk) (x := x) ⟨f1, p1⟩ hpb m1); have HXE := Lib.hid hxe; clear f1 p1 m1 HB hxe; simp only [stk]))
      go_loopw [7] (fun i wr => ∃ (s : PS) (xs : List (List Nat)) (m : Nat), Hid (lsP one most m (xs.map stk.er) s = some r) ∧ Hid (LsS stk w wr pb s i xs) ∧ xs.length ≤ most) (fun _ wr => plen wr pb)
      case atStart => exact ⟨s1, [x], n0, Lib.hid (by rw [List.map_cons, List.map_nil, HXE.out]; exact HR.out), HL, hmost1⟩
      case round =>
        clear HL HXE HR
        obtain ⟨s2, xs, m, HR, HLS, hxm⟩ := hrel
        obtain ⟨m, rfl⟩ : ∃ m', m = m' + 1 := by
          cases m with
          | zero => have := HR.out; rw [lsP] at this; cases this
          | succ m => exact ⟨m, rfl⟩
        have hR := HR.out
        rw [lsP] at hR
        have hpl := HLS.out.st.ps.plen
        obtain ⟨sa, sc, rfl, hc1, hc2⟩ := HLS.out.own.sl
        obtain ⟨n, hn⟩ : ∃ n, xs.length = n := ⟨_, rfl⟩
        have HN := Lib.hid hn
        rw [List.length_map, hn] at hR
        rw [hn] at HLS hxm ⊢
        clear hn
        cases ha : atP [44] s2 with
        | false =>
          rw [if_neg (by rw [ha]; decide)] at hR
          have hrc : r = .ok (xs.map stk.er, s2) := by injection hR with hR; exact hR.symm
          have HF := Lib.hid (fun (w' : World) (hp : PsM w' pb s2) => found_no hp qcomma (by decide) ha)
          have HRC := Lib.hid hrc
          clear hR ha hrc hpl
          go_wp2_with (first | (go_at_call 50; refine (HF.out _ HLS.out.st.ps).mono ?_; rintro e w2 ⟨rfl, ss⟩; have HL2 := Lib.hid (HLS.out.stp ss); clear ss HF))
          have hfin : P (.returned (.slice sa n sc)) w2 := by rw [← HP.out, HRC.out]; exact HL2.out.out
          exact hfin
        | true =>
          rw [if_pos ha] at hR
          have HF := Lib.hid (fun (w' : World) (hp : PsM w' pb s2) => found_yes hp qcomma (by decide) ha)
          have hlen := atP_len ha
          by_cases c : n < most
          · rw [if_pos c] at hR
            have c1 : (n : Int) < (most : Int) := by omega
            have HMO := Lib.hid (pmust_ok 151)
            cases h2 : one s2.next with
            | none => rw [h2] at hR; cases hR
            | some r2 =>
              have HB2 := Lib.hid (fun (w' : World) (hp : PsM w' pb s2.next) => HONE.out w' s2.next r2 hp h2)
              have HU := Lib.hid (fun a s' (q : r2 = .ok (a, s')) => HUS.out s2.next a s' (by rw [h2, q]))
              have HPL := Lib.hid (And.intro hpl hlen)
              rw [h2] at hR
              clear h2 ha hpl hlen
              match r2, hR, HB2 with
              | .error e0, hR, HB2 =>
                have hrc : r = .error e0 := by injection hR with hR; exact hR.symm
                have HRC := Lib.hid hrc
                clear hR hrc HU
                go_wp2_with (first | (go_at_call 50; refine (HF.out _ HLS.out.st.ps).mono ?_; rintro e w2 ⟨rfl, ss⟩; have HL2 := Lib.hid (HLS.out.stp ss); clear ss HF) | (go_at_call 31; refine (HMO.out _).mono ?_; rintro e w3 ⟨rfl, rfl⟩; clear HMO) | (go_at_fn g; refine (HB2.out _ HL2.out.st.ps).mono ?_; rintro e w4 ⟨f4, rfl⟩; have F4 := Lib.hid (HL2.out.st.fr.trans f4 (New.refl _ _)); clear f4 HB2))
                exact ⟨rfl, by rw [← HP.out, HRC.out]; exact ⟨F4.out, rfl⟩⟩
              | .ok (b2, s3), hR, HB2 =>
                have HR3 : Hid (lsP one most m (xs.map stk.er ++ [b2]) s3 = some r) := Lib.hid hR
                have hu := HU.out b2 s3 rfl
                have HU3 := Lib.hid hu
                clear hR HU hu
                go_wp2_with (first | (go_at_call 50; refine (HF.out _ HLS.out.st.ps).mono ?_; rintro e w2 ⟨rfl, ss⟩; have HL2 := Lib.hid (HLS.out.stp ss); clear ss HF) | (go_at_call 31; refine (HMO.out _).mono ?_; rintro e w3 ⟨rfl, rfl⟩; clear HMO) | (go_at_fn g; refine (HB2.out _ HL2.out.st.ps).mono ?_; rintro e w4 ⟨f4, v4, rfl, ⟨x, rfl, hxe, m4⟩, p4⟩; have H4 := Lib.hid (And.intro (Stp.mk f4 p4) m4); have HXE2 := Lib.hid hxe; have HPU := Lib.hid (fun v9 w9 => LsS.push (E := stk) (y := x) (v' := v9) (w' := w9) HL2.out ⟨f4, p4⟩ m4); have HOW := Lib.hid (((HL2.out.stp ⟨f4, p4⟩).own).below ((Below.refl w4.heap.size w4).alloc (Nat.le_refl _) (.cells (stk.cells [x]).toArray stk.te))); have HNW := Lib.hid (OwR.made_cells (K := stk.toRK) w4 [x]); clear f4 p4 m4 HB2 hxe; simp only [stk]) | (at_builtin; refine OwR.wp (K := stk.toRK) rfl _ _ rfl w.heap.size (.slice sa n sc) xs rfl HOW.out (by have := HL2.out.st.fr.size; have := H4.out.1.fr.size; simp; omega) ⟨w4.heap.size, 0, none⟩ 1 1 [x] rfl rfl HNW.out (by have := HN.out; omega) ?_; intro v9 w9 o9 g9 n9; have HL9 := Lib.hid (HPU.out v9 w9 o9 g9 n9); clear o9 g9 n9))
                refine ⟨⟨s3, xs ++ [x], m, Lib.hid ?_, HL9, by rw [List.length_append, HN.out, List.length_singleton]; omega⟩, ?_⟩
                · rw [List.map_append, List.map_cons, List.map_nil, HXE2.out]
                  exact HR3.out
                · rw [HL9.out.st.ps.plen]
                  have h1 := HPL.out
                  have h2 := HU3.out
                  omega
          · rw [if_neg c] at hR
            have hrc : r = .error 151 := by injection hR with hR; exact hR.symm
            have HRC := Lib.hid hrc
            have c1 : decide ((n : Int) < (most : Int)) = false := by simp; omega
            have HMN := Lib.hid (pmust_no 151)
            clear hR hrc ha hpl hlen
            go_wp2_with (first | (go_at_call 50; refine (HF.out _ HLS.out.st.ps).mono ?_; rintro e w2 ⟨rfl, ss⟩; have HL2 := Lib.hid (HLS.out.stp ss); clear ss HF) | (go_at_call 31; refine (HMN.out _).mono ?_; rintro e w3 ⟨rfl, rfl⟩; clear HMN))
            exact ⟨rfl, by rw [← HP.out, HRC.out]; exact ⟨HL2.out.st.fr, rfl⟩⟩

end Go.Proofs.YtkffomfbnbcgaaaGreatDoor

namespace Go.Proofs.YtkffomfbnbcgaaaGreatDoor
set_option maxRecDepth 100000
open Go.RowKit Go.Joins Go.ChangeShapes Go.WideShapes
set_option linter.unusedVariables false
set_option linter.unusedSimpArgs false

set_option maxHeartbeats 4000000 in
theorem list_co {g pb : Nat} {one : PS → RX Co} (hone : PR g pb (RE cok) one) (henter : ∀ args w, (callFunc g args).run Tryz.prog w = .ok (.enter g args) w) (hus : ∀ s a s', one s = some (.ok (a, s')) → s'.rest.length ≤ s.rest.length)
    {w : World} {s : PS} {r : Except Nat (List Co × PS)} (h : PsM w pb s) (n0 most : Nat) (hmost : most ≤ 100) (hmost1 : 1 ≤ most) (hr : listP one most n0 s = some r) :
    Calls Tryz.prog 172 #[.pointer (some ⟨pb, 0, none⟩), .func (.func g) #[.pointer (some ⟨pb, 0, none⟩)] #[], .int .i64 (most : Int)] w (EndP w pb (RL cok w.heap.size) r) := by
  generalize hP : EndP w pb (RL cok w.heap.size) r = P
  have HP := Lib.hid hP
  have hpb := h.lt
  unfold listP at hr
  cases h1 : one s with
  | none => rw [h1] at hr; cases hr
  | some r1 =>
    have HB := Lib.hid (hone w s r1 h h1)
    rw [h1] at hr
    have HONE := Lib.hid hone
    have HUS := Lib.hid hus
    clear hone hus h1 h hP
    match r1, hr, HB with
    | .error c, hr, HB =>
      have hrc : r = .error c := by injection hr with hr; exact hr.symm
      subst hrc
      clear hr
      go_enter Tryz.func172, Tryz.ntmps172
      go_wp2_with (first | (go_at_fn g; refine HB.out.mono ?_; rintro e w1 ⟨f1, rfl⟩; have F1 := Lib.hid f1; clear f1 HB))
      exact ⟨rfl, by rw [← HP.out]; exact ⟨F1.out, rfl⟩⟩
    | .ok (b1, s1), hr, HB =>
      have HR : Hid (lsP one most n0 [b1] s1 = some r) := Lib.hid hr
      clear hr
      go_enter Tryz.func172, Tryz.ntmps172
      go_wp2_with (first | (go_at_fn g; refine HB.out.mono ?_; rintro e w1 ⟨f1, v, rfl, ⟨x, rfl, hxe, m1⟩, p1⟩; have HL := Lib.hid (LsS.made (E := cok) (x := x) ⟨f1, p1⟩ hpb m1); have HXE := Lib.hid hxe; clear f1 p1 m1 HB hxe; obtain ⟨cn, ct, cr⟩ := x; simp only [cok]))
      go_loopw [7] (fun i wr => ∃ (s : PS) (xs : List Co) (m : Nat), Hid (lsP one most m (xs.map cok.er) s = some r) ∧ Hid (LsS cok w wr pb s i xs) ∧ xs.length ≤ most) (fun _ wr => plen wr pb)
      case atStart => exact ⟨s1, [Co.mk cn ct cr], n0, Lib.hid (by rw [List.map_cons, List.map_nil, HXE.out]; exact HR.out), HL, hmost1⟩
      case round =>
        clear HL HXE HR
        obtain ⟨s2, xs, m, HR, HLS, hxm⟩ := hrel
        obtain ⟨m, rfl⟩ : ∃ m', m = m' + 1 := by
          cases m with
          | zero => have := HR.out; rw [lsP] at this; cases this
          | succ m => exact ⟨m, rfl⟩
        have hR := HR.out
        rw [lsP] at hR
        have hpl := HLS.out.st.ps.plen
        obtain ⟨sa, sc, rfl, hc1, hc2⟩ := HLS.out.own.sl
        obtain ⟨n, hn⟩ : ∃ n, xs.length = n := ⟨_, rfl⟩
        have HN := Lib.hid hn
        rw [List.length_map, hn] at hR
        rw [hn] at HLS hxm ⊢
        clear hn
        cases ha : atP [44] s2 with
        | false =>
          rw [if_neg (by rw [ha]; decide)] at hR
          have hrc : r = .ok (xs.map cok.er, s2) := by injection hR with hR; exact hR.symm
          have HF := Lib.hid (fun (w' : World) (hp : PsM w' pb s2) => found_no hp qcomma (by decide) ha)
          have HRC := Lib.hid hrc
          clear hR ha hrc hpl
          go_wp2_with (first | (go_at_call 50; refine (HF.out _ HLS.out.st.ps).mono ?_; rintro e w2 ⟨rfl, ss⟩; have HL2 := Lib.hid (HLS.out.stp ss); clear ss HF))
          have hfin : P (.returned (.slice sa n sc)) w2 := by rw [← HP.out, HRC.out]; exact HL2.out.out
          exact hfin
        | true =>
          rw [if_pos ha] at hR
          have HF := Lib.hid (fun (w' : World) (hp : PsM w' pb s2) => found_yes hp qcomma (by decide) ha)
          have hlen := atP_len ha
          by_cases c : n < most
          · rw [if_pos c] at hR
            have c1 : (n : Int) < (most : Int) := by omega
            have HMO := Lib.hid (pmust_ok 151)
            cases h2 : one s2.next with
            | none => rw [h2] at hR; cases hR
            | some r2 =>
              have HB2 := Lib.hid (fun (w' : World) (hp : PsM w' pb s2.next) => HONE.out w' s2.next r2 hp h2)
              have HU := Lib.hid (fun a s' (q : r2 = .ok (a, s')) => HUS.out s2.next a s' (by rw [h2, q]))
              have HPL := Lib.hid (And.intro hpl hlen)
              rw [h2] at hR
              clear h2 ha hpl hlen
              match r2, hR, HB2 with
              | .error e0, hR, HB2 =>
                have hrc : r = .error e0 := by injection hR with hR; exact hR.symm
                have HRC := Lib.hid hrc
                clear hR hrc HU
                go_wp2_with (first | (go_at_call 50; refine (HF.out _ HLS.out.st.ps).mono ?_; rintro e w2 ⟨rfl, ss⟩; have HL2 := Lib.hid (HLS.out.stp ss); clear ss HF) | (go_at_call 31; refine (HMO.out _).mono ?_; rintro e w3 ⟨rfl, rfl⟩; clear HMO) | (go_at_fn g; refine (HB2.out _ HL2.out.st.ps).mono ?_; rintro e w4 ⟨f4, rfl⟩; have F4 := Lib.hid (HL2.out.st.fr.trans f4 (New.refl _ _)); clear f4 HB2))
                exact ⟨rfl, by rw [← HP.out, HRC.out]; exact ⟨F4.out, rfl⟩⟩
              | .ok (b2, s3), hR, HB2 =>
                have HR3 : Hid (lsP one most m (xs.map cok.er ++ [b2]) s3 = some r) := Lib.hid hR
                have hu := HU.out b2 s3 rfl
                have HU3 := Lib.hid hu
                clear hR HU hu
                go_wp2_with (first | (go_at_call 50; refine (HF.out _ HLS.out.st.ps).mono ?_; rintro e w2 ⟨rfl, ss⟩; have HL2 := Lib.hid (HLS.out.stp ss); clear ss HF) | (go_at_call 31; refine (HMO.out _).mono ?_; rintro e w3 ⟨rfl, rfl⟩; clear HMO) | (go_at_fn g; refine (HB2.out _ HL2.out.st.ps).mono ?_; rintro e w4 ⟨f4, v4, rfl, ⟨x, rfl, hxe, m4⟩, p4⟩; have H4 := Lib.hid (And.intro (Stp.mk f4 p4) m4); have HXE2 := Lib.hid hxe; have HPU := Lib.hid (fun v9 w9 => LsS.push (E := cok) (y := x) (v' := v9) (w' := w9) HL2.out ⟨f4, p4⟩ m4); have HOW := Lib.hid (((HL2.out.stp ⟨f4, p4⟩).own).below ((Below.refl w4.heap.size w4).alloc (Nat.le_refl _) (.cells (cok.cells [x]).toArray cok.te))); have HNW := Lib.hid (OwR.made_cells (K := cok.toRK) w4 [x]); clear f4 p4 m4 HB2 hxe; obtain ⟨cn2, ct2, cr2⟩ := x; simp only [cok]) | (at_builtin; refine OwR.wp (K := cok.toRK) rfl _ _ rfl w.heap.size (.slice sa n sc) xs rfl HOW.out (by have := HL2.out.st.fr.size; have := H4.out.1.fr.size; simp; omega) ⟨w4.heap.size, 0, none⟩ 1 1 [Co.mk cn2 ct2 cr2] rfl rfl HNW.out (by have := HN.out; omega) ?_; intro v9 w9 o9 g9 n9; have HL9 := Lib.hid (HPU.out v9 w9 o9 g9 n9); clear o9 g9 n9))
                refine ⟨⟨s3, xs ++ [Co.mk cn2 ct2 cr2], m, Lib.hid ?_, HL9, by rw [List.length_append, HN.out, List.length_singleton]; omega⟩, ?_⟩
                · rw [List.map_append, List.map_cons, List.map_nil, HXE2.out]
                  exact HR3.out
                · rw [HL9.out.st.ps.plen]
                  have h1 := HPL.out
                  have h2 := HU3.out
                  omega
          · rw [if_neg c] at hR
            have hrc : r = .error 151 := by injection hR with hR; exact hR.symm
            have HRC := Lib.hid hrc
            have c1 : decide ((n : Int) < (most : Int)) = false := by simp; omega
            have HMN := Lib.hid (pmust_no 151)
            clear hR hrc ha hpl hlen
            go_wp2_with (first | (go_at_call 50; refine (HF.out _ HLS.out.st.ps).mono ?_; rintro e w2 ⟨rfl, ss⟩; have HL2 := Lib.hid (HLS.out.stp ss); clear ss HF) | (go_at_call 31; refine (HMN.out _).mono ?_; rintro e w3 ⟨rfl, rfl⟩; clear HMN))
            exact ⟨rfl, by rw [← HP.out, HRC.out]; exact ⟨HL2.out.st.fr, rfl⟩⟩

end Go.Proofs.YtkffomfbnbcgaaaGreatDoor

namespace Go.Proofs.YtkffomfbnbcgaaaGreatDoor
set_option maxRecDepth 100000
open Go.RowKit Go.Joins Go.ChangeShapes Go.WideShapes
set_option linter.unusedVariables false
set_option linter.unusedSimpArgs false
theorem XL.mem_up {α β : Type} {P : Program} {E : EK P α β} {w : World} {a b : Nat} {y : XL α} (h : a ≤ b) (hm : XL.Mem E (GE b) w y) : XL.Mem E (GE a) w y := XL.Mem.mono (fun k hk => Nat.le_trans h hk) y hm
theorem XL.Mem.stp {α β : Type} {P : Program} {E : EK P α β} {w w2 : World} {pb B : Nat} {s : PS} {y : XL α} (h : XL.Mem E (GE B) w y) (h2 : Stp w w2 pb s) (hB : pb < B) : XL.Mem E (GE B) w2 y := XL.Mem.frm h2.fr (fun k hk e => by have : B ≤ k := hk; omega) y h
theorem XE.Mem.stp {w w2 : World} {pb B : Nat} {s : PS} {x : XE} (h : XE.Mem (GE B) w x) (h2 : Stp w w2 pb s) (hB : pb < B) : XE.Mem (GE B) w2 x := XE.Mem.frm h2.fr (fun k hk e => by have : B ≤ k := hk; omega) x h
set_option maxHeartbeats 2000000 in
theorem encl_ex {g pb : Nat} {one : PS → RX Ex} (hone : PR g pb (RE exk) one) (henter : ∀ args w, (callFunc g args).run Tryz.prog w = .ok (.enter g args) w) (hus : ∀ s a s', one s = some (.ok (a, s')) → s'.rest.length ≤ s.rest.length)
    {w : World} {s : PS} {r : Except Nat (List Ex × PS)} (h : PsM w pb s) (n most : Nat) (hmost : most ≤ 100) (hmost1 : 1 ≤ most) (hr : enclP one most n s = some r) :
    Calls Tryz.prog 175 #[.pointer (some ⟨pb, 0, none⟩), .func (.func g) #[.pointer (some ⟨pb, 0, none⟩)] #[], .int .i64 (most : Int)] w (EndP w pb (RL exk w.heap.size) r) := by
  generalize hP : EndP w pb (RL exk w.heap.size) r = P
  have HP := Lib.hid hP
  have hpb := h.lt
  have S1 := Lib.hid (Stp.refl h)
  have HR := Lib.hid hr
  have HON := Lib.hid hone
  have HUS := Lib.hid hus
  unfold enclP at HR
  clear hP h hr hone hus
  go_enter Tryz.func175, Tryz.ntmps175
  go_wp2_with (first | (go_at_call 56; rcases need_bind HR.out with ⟨ha, rfl⟩ | ⟨ha, hrr⟩; refine (need_g S1.out.ps zqOpen (by decide) (by first | rfl | simp | assumption)).mono ?_; rintro e w2 hn; obtain ⟨rfl, ff⟩ := hn.2 ha; exact ⟨rfl, by rw [← HP.out]; exact ⟨S1.out.fr.trans ff (New.refl _ _), rfl⟩⟩; refine (need_g S1.out.ps zqOpen (by decide) (by first | rfl | simp | assumption)).mono ?_; rintro e w2 hn; obtain ⟨rfl, ss⟩ := hn.1 ha; have S2 := Lib.hid (S1.out.trans ss); have HR2 := Lib.hid hrr; clear ss hn hrr ha HR) | (go_at_call 196; rcases bind_call HR2.out with ⟨c, hx, rfl⟩ | ⟨aa, sa, hx, hrr⟩; refine (list_ex HON.out henter HUS.out S2.out.ps n most hmost hmost1 hx).mono ?_; rintro e w3 ⟨ff, rfl⟩; exact ⟨rfl, by rw [← HP.out]; exact ⟨S2.out.fr.trans ff (New.refl _ _), rfl⟩⟩; refine (list_ex HON.out henter HUS.out S2.out.ps n most hmost hmost1 hx).mono ?_; rintro e w3 ⟨ff, v, rfl, hv, pp⟩; obtain ⟨y, rfl, hye, my⟩ := hv; have S3 := Lib.hid (S2.out.trans ⟨ff, pp⟩); have HR3 := Lib.hid hrr; have MY := Lib.hid my; have HYE := Lib.hid hye; clear hye my; clear pp hrr hx HR2) | (go_at_call 56; rcases need_bind HR3.out with ⟨ha, rfl⟩ | ⟨ha, hrr⟩; refine (need_g S3.out.ps zqShut (by decide) (by first | rfl | simp | assumption)).mono ?_; rintro e w4 hn; obtain ⟨rfl, ff⟩ := hn.2 ha; exact ⟨rfl, by rw [← HP.out]; exact ⟨S3.out.fr.trans ff (New.refl _ _), rfl⟩⟩; refine (need_g S3.out.ps zqShut (by decide) (by first | rfl | simp | assumption)).mono ?_; rintro e w4 hn; obtain ⟨rfl, ss⟩ := hn.1 ha; have S4 := Lib.hid (S3.out.trans ss); have HR4 := Lib.hid hrr; have MY4 := Lib.hid (XL.Mem.stp MY.out ss (Nat.lt_of_lt_of_le hpb S2.out.fr.size)); clear ss hn hrr ha HR3))
  have hrc := ret_ok HR4.out
  have hfin : P (.returned y.val) w4 := by
    rw [← HP.out, hrc]
    exact ⟨S4.out.fr, _, rfl, ⟨y, rfl, HYE.out, XL.mem_up S2.out.fr.size MY4.out⟩, S4.out.ps⟩
  exact hfin
set_option maxHeartbeats 2000000 in
theorem encl_st {g pb : Nat} {one : PS → RX (List Nat)} (hone : PR g pb (RE stk) one) (henter : ∀ args w, (callFunc g args).run Tryz.prog w = .ok (.enter g args) w) (hus : ∀ s a s', one s = some (.ok (a, s')) → s'.rest.length ≤ s.rest.length)
    {w : World} {s : PS} {r : Except Nat (List (List Nat) × PS)} (h : PsM w pb s) (n most : Nat) (hmost : most ≤ 100) (hmost1 : 1 ≤ most) (hr : enclP one most n s = some r) :
    Calls Tryz.prog 122 #[.pointer (some ⟨pb, 0, none⟩), .func (.func g) #[.pointer (some ⟨pb, 0, none⟩)] #[], .int .i64 (most : Int)] w (EndP w pb (RL stk w.heap.size) r) := by
  generalize hP : EndP w pb (RL stk w.heap.size) r = P
  have HP := Lib.hid hP
  have hpb := h.lt
  have S1 := Lib.hid (Stp.refl h)
  have HR := Lib.hid hr
  have HON := Lib.hid hone
  have HUS := Lib.hid hus
  unfold enclP at HR
  clear hP h hr hone hus
  go_enter Tryz.func122, Tryz.ntmps122
  go_wp2_with (first | (go_at_call 56; rcases need_bind HR.out with ⟨ha, rfl⟩ | ⟨ha, hrr⟩; refine (need_g S1.out.ps zqOpen (by decide) (by first | rfl | simp | assumption)).mono ?_; rintro e w2 hn; obtain ⟨rfl, ff⟩ := hn.2 ha; exact ⟨rfl, by rw [← HP.out]; exact ⟨S1.out.fr.trans ff (New.refl _ _), rfl⟩⟩; refine (need_g S1.out.ps zqOpen (by decide) (by first | rfl | simp | assumption)).mono ?_; rintro e w2 hn; obtain ⟨rfl, ss⟩ := hn.1 ha; have S2 := Lib.hid (S1.out.trans ss); have HR2 := Lib.hid hrr; clear ss hn hrr ha HR) | (go_at_call 174; rcases bind_call HR2.out with ⟨c, hx, rfl⟩ | ⟨aa, sa, hx, hrr⟩; refine (list_st HON.out henter HUS.out S2.out.ps n most hmost hmost1 hx).mono ?_; rintro e w3 ⟨ff, rfl⟩; exact ⟨rfl, by rw [← HP.out]; exact ⟨S2.out.fr.trans ff (New.refl _ _), rfl⟩⟩; refine (list_st HON.out henter HUS.out S2.out.ps n most hmost hmost1 hx).mono ?_; rintro e w3 ⟨ff, v, rfl, hv, pp⟩; obtain ⟨y, rfl, hye, my⟩ := hv; have S3 := Lib.hid (S2.out.trans ⟨ff, pp⟩); have HR3 := Lib.hid hrr; have MY := Lib.hid my; have HYE := Lib.hid hye; clear hye my; clear pp hrr hx HR2) | (go_at_call 56; rcases need_bind HR3.out with ⟨ha, rfl⟩ | ⟨ha, hrr⟩; refine (need_g S3.out.ps zqShut (by decide) (by first | rfl | simp | assumption)).mono ?_; rintro e w4 hn; obtain ⟨rfl, ff⟩ := hn.2 ha; exact ⟨rfl, by rw [← HP.out]; exact ⟨S3.out.fr.trans ff (New.refl _ _), rfl⟩⟩; refine (need_g S3.out.ps zqShut (by decide) (by first | rfl | simp | assumption)).mono ?_; rintro e w4 hn; obtain ⟨rfl, ss⟩ := hn.1 ha; have S4 := Lib.hid (S3.out.trans ss); have HR4 := Lib.hid hrr; have MY4 := Lib.hid (XL.Mem.stp MY.out ss (Nat.lt_of_lt_of_le hpb S2.out.fr.size)); clear ss hn hrr ha HR3))
  have hrc := ret_ok HR4.out
  have hfin : P (.returned y.val) w4 := by
    rw [← HP.out, hrc]
    exact ⟨S4.out.fr, _, rfl, ⟨y, rfl, HYE.out, XL.mem_up S2.out.fr.size MY4.out⟩, S4.out.ps⟩
  exact hfin
set_option maxHeartbeats 2000000 in
theorem encl_co {g pb : Nat} {one : PS → RX Co} (hone : PR g pb (RE cok) one) (henter : ∀ args w, (callFunc g args).run Tryz.prog w = .ok (.enter g args) w) (hus : ∀ s a s', one s = some (.ok (a, s')) → s'.rest.length ≤ s.rest.length)
    {w : World} {s : PS} {r : Except Nat (List Co × PS)} (h : PsM w pb s) (n most : Nat) (hmost : most ≤ 100) (hmost1 : 1 ≤ most) (hr : enclP one most n s = some r) :
    Calls Tryz.prog 120 #[.pointer (some ⟨pb, 0, none⟩), .func (.func g) #[.pointer (some ⟨pb, 0, none⟩)] #[], .int .i64 (most : Int)] w (EndP w pb (RL cok w.heap.size) r) := by
  generalize hP : EndP w pb (RL cok w.heap.size) r = P
  have HP := Lib.hid hP
  have hpb := h.lt
  have S1 := Lib.hid (Stp.refl h)
  have HR := Lib.hid hr
  have HON := Lib.hid hone
  have HUS := Lib.hid hus
  unfold enclP at HR
  clear hP h hr hone hus
  go_enter Tryz.func120, Tryz.ntmps120
  go_wp2_with (first | (go_at_call 56; rcases need_bind HR.out with ⟨ha, rfl⟩ | ⟨ha, hrr⟩; refine (need_g S1.out.ps zqOpen (by decide) (by first | rfl | simp | assumption)).mono ?_; rintro e w2 hn; obtain ⟨rfl, ff⟩ := hn.2 ha; exact ⟨rfl, by rw [← HP.out]; exact ⟨S1.out.fr.trans ff (New.refl _ _), rfl⟩⟩; refine (need_g S1.out.ps zqOpen (by decide) (by first | rfl | simp | assumption)).mono ?_; rintro e w2 hn; obtain ⟨rfl, ss⟩ := hn.1 ha; have S2 := Lib.hid (S1.out.trans ss); have HR2 := Lib.hid hrr; clear ss hn hrr ha HR) | (go_at_call 172; rcases bind_call HR2.out with ⟨c, hx, rfl⟩ | ⟨aa, sa, hx, hrr⟩; refine (list_co HON.out henter HUS.out S2.out.ps n most hmost hmost1 hx).mono ?_; rintro e w3 ⟨ff, rfl⟩; exact ⟨rfl, by rw [← HP.out]; exact ⟨S2.out.fr.trans ff (New.refl _ _), rfl⟩⟩; refine (list_co HON.out henter HUS.out S2.out.ps n most hmost hmost1 hx).mono ?_; rintro e w3 ⟨ff, v, rfl, hv, pp⟩; obtain ⟨y, rfl, hye, my⟩ := hv; have S3 := Lib.hid (S2.out.trans ⟨ff, pp⟩); have HR3 := Lib.hid hrr; have MY := Lib.hid my; have HYE := Lib.hid hye; clear hye my; clear pp hrr hx HR2) | (go_at_call 56; rcases need_bind HR3.out with ⟨ha, rfl⟩ | ⟨ha, hrr⟩; refine (need_g S3.out.ps zqShut (by decide) (by first | rfl | simp | assumption)).mono ?_; rintro e w4 hn; obtain ⟨rfl, ff⟩ := hn.2 ha; exact ⟨rfl, by rw [← HP.out]; exact ⟨S3.out.fr.trans ff (New.refl _ _), rfl⟩⟩; refine (need_g S3.out.ps zqShut (by decide) (by first | rfl | simp | assumption)).mono ?_; rintro e w4 hn; obtain ⟨rfl, ss⟩ := hn.1 ha; have S4 := Lib.hid (S3.out.trans ss); have HR4 := Lib.hid hrr; have MY4 := Lib.hid (XL.Mem.stp MY.out ss (Nat.lt_of_lt_of_le hpb S2.out.fr.size)); clear ss hn hrr ha HR3))
  have hrc := ret_ok HR4.out
  have hfin : P (.returned y.val) w4 := by
    rw [← HP.out, hrc]
    exact ⟨S4.out.fr, _, rfl, ⟨y, rfl, HYE.out, XL.mem_up S2.out.fr.size MY4.out⟩, S4.out.ps⟩
  exact hfin
set_option maxHeartbeats 2000000 in
theorem row_p (n pb : Nat) : PR 124 pb (RE rok) (enclP (wholeP isN n) 50 n) := by
  intro w s r h hr
  generalize hP : EndP w pb (RE rok w.heap.size) r = P
  have HP := Lib.hid hP
  have hent : ∀ args w, (callFunc 132 args).run Tryz.prog w = .ok (.enter 132 args) w := enters_of Tryz.func132 (by kernel_rfl) rfl
  have HC := Lib.hid (encl_ex (whole_p n pb) hent (fun s a s' q => (Rdr.whole isN).us n s a s' q) h n 50 (by decide) (by decide) hr)
  clear hP h hr
  match r, HC, HP with
  | .error c, HC, HP =>
    go_enter Tryz.func124, Tryz.ntmps124
    go_wp2_with (first | (go_at_call 175; refine HC.out.mono ?_; rintro e w2 ⟨ff, rfl⟩; have F2 := Lib.hid ff; clear ff))
    exact ⟨rfl, by rw [← HP.out]; exact ⟨F2.out, rfl⟩⟩
  | .ok (l, s2), HC, HP =>
    go_enter Tryz.func124, Tryz.ntmps124
    go_wp2_with (first | (go_at_call 175; refine HC.out.mono ?_; rintro e w2 ⟨ff, v, rfl, ⟨y, rfl, hye, my⟩, pp⟩; have H2 := Lib.hid (And.intro ff (And.intro pp (And.intro hye my))); clear ff pp hye my))
    have hfin : P (.returned y.val) w2 := by
      rw [← HP.out]
      exact ⟨H2.out.1, _, rfl, ⟨y, rfl, H2.out.2.2.1, H2.out.2.2.2⟩, H2.out.2.1⟩
    exact hfin

end Go.Proofs.YtkffomfbnbcgaaaGreatDoor

namespace Go.Proofs.YtkffomfbnbcgaaaGreatDoor
set_option maxRecDepth 100000
open Go.RowKit Go.Joins Go.ChangeShapes Go.WideShapes
set_option linter.unusedVariables false
set_option linter.unusedSimpArgs false
/-- values stored one behind the other -/
def stL (w : World) (g : Nat) : Nat → List Value → World
  | _, [] => w
  | o, v :: r => stL (w.setCell ⟨g, o, none⟩ v) g (o + 1) r
theorem stL_frm {F : Bl} {w : World} {g : Nat} (hg : F g ∨ w.heap.size ≤ g) : ∀ (l : List Value) (o : Nat) {w1 : World}, Frm F w w1 → Frm F w (stL w1 g o l)
  | [], _, _, f => f
  | v :: r, o, w1, f => stL_frm hg r (o + 1) (f.setCell hg o v)
theorem stL_box {g : Nat} {T : TypeId} : ∀ (l : List Value) (o : Nat) {w : World} {cs : Array Value}, Bx w g cs T → o + l.length ≤ cs.size → ∃ ds : Array Value, Bx (stL w g o l) g ds T ∧ ds.size = cs.size ∧ (∀ j, j < o → ds[j]? = cs[j]?) ∧ (∀ j, j < l.length → ds[o + j]? = l[j]?) ∧ ∀ j, o + l.length ≤ j → ds[j]? = cs[j]?
  | [], o, w, cs, hb, _ => ⟨cs, hb, rfl, fun _ _ => rfl, fun j hj => absurd hj (Nat.not_lt_zero j), fun _ _ => rfl⟩
  | v :: r, o, w, cs, hb, hl => by
    rw [List.length_cons] at hl
    obtain ⟨ds, h1, h2, h3, h4, h5⟩ := stL_box r (o + 1) (box_set hb o v) (by simp; omega)
    have hsz : (cs.setIfInBounds o v).size = cs.size := by simp
    refine ⟨ds, h1, h2.trans hsz, fun j hj => ?_, fun j hj => ?_, fun j hj => ?_⟩
    · rw [h3 j (by omega), Array.getElem?_setIfInBounds]
      rw [if_neg (by omega)]
    · cases j with
      | zero =>
        rw [Nat.add_zero, h3 o (by omega), Array.getElem?_setIfInBounds, if_pos rfl, if_pos (by omega)]
        rfl
      | succ j =>
        rw [List.length_cons] at hj
        have := h4 j (by omega)
        rw [show o + (j + 1) = o + 1 + j by omega, this]
        rfl
    · rw [List.length_cons] at hj
      rw [h5 j (by omega), Array.getElem?_setIfInBounds]
      rw [if_neg (by omega)]
/-- the whole box stored -/
theorem stL_all {w : World} {g : Nat} {T : TypeId} {cs : Array Value} (hb : Bx w g cs T) (l : List Value) (hl : l.length = cs.size) : Bx (stL w g 0 l) g l.toArray T := by
  obtain ⟨ds, h1, h2, -, h4, -⟩ := stL_box l 0 hb (by omega)
  have : ds = l.toArray := by
    apply Array.ext_getElem?
    intro i
    by_cases c : i < l.length
    · have := h4 i c
      rw [Nat.zero_add] at this
      rw [this, List.getElem?_toArray]
    · rw [Array.getElem?_eq_none (by omega), Array.getElem?_eq_none (by simp; omega)]
  rw [← this]
  exact h1
/-- a struct handed out through its box -/
theorem fin_E {α β : Type} {P : Program} (E : EK P α β) {w w2 : World} {pb : Nat} {s : PS} (hS : Stp w w2 pb s) (hp : pb < w.heap.size) {cs : Array Value} (hb : Bx w2 w.heap.size cs E.te) (hcs : cs.size = E.n) (x : α) (hm : E.Mem (fun k => w.heap.size < k) w2 x) :
    Bx (stL w2 w.heap.size 0 (E.enc x)) w.heap.size (E.enc x).toArray E.te ∧ EndP w pb (RE E w.heap.size) (.ok (E.er x, s)) (.returned (E.val x)) (stL w2 w.heap.size 0 (E.enc x)) := by
  have f7 : Frm (fun k => k = w.heap.size) w2 (stL w2 w.heap.size 0 (E.enc x)) := stL_frm (F := fun k => k = w.heap.size) (.inl rfl) _ _ (Frm.refl _ _)
  refine ⟨stL_all hb _ (by rw [E.len, hcs]), hS.fr.trans f7 (fun k hk => .inr (Nat.le_of_eq hk.symm)), _, rfl, ⟨x, rfl, rfl, ?_⟩, hS.ps.frm f7 (fun k hk e => by omega)⟩
  exact E.mono (fun k hk => Nat.le_of_lt hk) x (E.frm f7 (fun k hk e => by omega) x hm)
theorem Bx.n3 {w : World} {g : Nat} {u0 u1 u2 : Value} {T : TypeId} (h : Bx w g #[u0, u1, u2] T) : (w.cell? ⟨g, 0, none⟩ = some u0 ∧ w.cell? ⟨g, 1, none⟩ = some u1 ∧ w.cell? ⟨g, 2, none⟩ = some u2) ∧ w.frozen? ⟨g, 0, none⟩ = false ∧ w.frozen? ⟨g, 1, none⟩ = false ∧ w.frozen? ⟨g, 2, none⟩ = false :=
  ⟨⟨h.cell rfl, h.cell rfl, h.cell rfl⟩, h.frz 0, h.frz 1, h.frz 2⟩
theorem Bx.n8 {w : World} {g : Nat} {u0 u1 u2 u3 u4 u5 u6 u7 : Value} {T : TypeId} (h : Bx w g #[u0, u1, u2, u3, u4, u5, u6, u7] T) : (w.cell? ⟨g, 0, none⟩ = some u0 ∧ w.cell? ⟨g, 1, none⟩ = some u1 ∧ w.cell? ⟨g, 2, none⟩ = some u2 ∧ w.cell? ⟨g, 3, none⟩ = some u3 ∧ w.cell? ⟨g, 4, none⟩ = some u4 ∧ w.cell? ⟨g, 5, none⟩ = some u5 ∧ w.cell? ⟨g, 6, none⟩ = some u6 ∧ w.cell? ⟨g, 7, none⟩ = some u7) ∧ w.frozen? ⟨g, 0, none⟩ = false ∧ w.frozen? ⟨g, 1, none⟩ = false ∧ w.frozen? ⟨g, 2, none⟩ = false ∧ w.frozen? ⟨g, 3, none⟩ = false ∧ w.frozen? ⟨g, 4, none⟩ = false ∧ w.frozen? ⟨g, 5, none⟩ = false ∧ w.frozen? ⟨g, 6, none⟩ = false ∧ w.frozen? ⟨g, 7, none⟩ = false :=
  ⟨⟨h.cell rfl, h.cell rfl, h.cell rfl, h.cell rfl, h.cell rfl, h.cell rfl, h.cell rfl, h.cell rfl⟩, h.frz 0, h.frz 1, h.frz 2, h.frz 3, h.frz 4, h.frz 5, h.frz 6, h.frz 7⟩
theorem Bx.n9 {w : World} {g : Nat} {u0 u1 u2 u3 u4 u5 u6 u7 u8 : Value} {T : TypeId} (h : Bx w g #[u0, u1, u2, u3, u4, u5, u6, u7, u8] T) : (w.cell? ⟨g, 0, none⟩ = some u0 ∧ w.cell? ⟨g, 1, none⟩ = some u1 ∧ w.cell? ⟨g, 2, none⟩ = some u2 ∧ w.cell? ⟨g, 3, none⟩ = some u3 ∧ w.cell? ⟨g, 4, none⟩ = some u4 ∧ w.cell? ⟨g, 5, none⟩ = some u5 ∧ w.cell? ⟨g, 6, none⟩ = some u6 ∧ w.cell? ⟨g, 7, none⟩ = some u7 ∧ w.cell? ⟨g, 8, none⟩ = some u8) ∧ w.frozen? ⟨g, 0, none⟩ = false ∧ w.frozen? ⟨g, 1, none⟩ = false ∧ w.frozen? ⟨g, 2, none⟩ = false ∧ w.frozen? ⟨g, 3, none⟩ = false ∧ w.frozen? ⟨g, 4, none⟩ = false ∧ w.frozen? ⟨g, 5, none⟩ = false ∧ w.frozen? ⟨g, 6, none⟩ = false ∧ w.frozen? ⟨g, 7, none⟩ = false ∧ w.frozen? ⟨g, 8, none⟩ = false :=
  ⟨⟨h.cell rfl, h.cell rfl, h.cell rfl, h.cell rfl, h.cell rfl, h.cell rfl, h.cell rfl, h.cell rfl, h.cell rfl⟩, h.frz 0, h.frz 1, h.frz 2, h.frz 3, h.frz 4, h.frz 5, h.frz 6, h.frz 7, h.frz 8⟩
theorem Bx.n18 {w : World} {g : Nat} {u0 u1 u2 u3 u4 u5 u6 u7 u8 u9 u10 u11 u12 u13 u14 u15 u16 u17 : Value} {T : TypeId} (h : Bx w g #[u0, u1, u2, u3, u4, u5, u6, u7, u8, u9, u10, u11, u12, u13, u14, u15, u16, u17] T) : (w.cell? ⟨g, 0, none⟩ = some u0 ∧ w.cell? ⟨g, 1, none⟩ = some u1 ∧ w.cell? ⟨g, 2, none⟩ = some u2 ∧ w.cell? ⟨g, 3, none⟩ = some u3 ∧ w.cell? ⟨g, 4, none⟩ = some u4 ∧ w.cell? ⟨g, 5, none⟩ = some u5 ∧ w.cell? ⟨g, 6, none⟩ = some u6 ∧ w.cell? ⟨g, 7, none⟩ = some u7 ∧ w.cell? ⟨g, 8, none⟩ = some u8 ∧ w.cell? ⟨g, 9, none⟩ = some u9 ∧ w.cell? ⟨g, 10, none⟩ = some u10 ∧ w.cell? ⟨g, 11, none⟩ = some u11 ∧ w.cell? ⟨g, 12, none⟩ = some u12 ∧ w.cell? ⟨g, 13, none⟩ = some u13 ∧ w.cell? ⟨g, 14, none⟩ = some u14 ∧ w.cell? ⟨g, 15, none⟩ = some u15 ∧ w.cell? ⟨g, 16, none⟩ = some u16 ∧ w.cell? ⟨g, 17, none⟩ = some u17) ∧ w.frozen? ⟨g, 0, none⟩ = false ∧ w.frozen? ⟨g, 1, none⟩ = false ∧ w.frozen? ⟨g, 2, none⟩ = false ∧ w.frozen? ⟨g, 3, none⟩ = false ∧ w.frozen? ⟨g, 4, none⟩ = false ∧ w.frozen? ⟨g, 5, none⟩ = false ∧ w.frozen? ⟨g, 6, none⟩ = false ∧ w.frozen? ⟨g, 7, none⟩ = false ∧ w.frozen? ⟨g, 8, none⟩ = false ∧ w.frozen? ⟨g, 9, none⟩ = false ∧ w.frozen? ⟨g, 10, none⟩ = false ∧ w.frozen? ⟨g, 11, none⟩ = false ∧ w.frozen? ⟨g, 12, none⟩ = false ∧ w.frozen? ⟨g, 13, none⟩ = false ∧ w.frozen? ⟨g, 14, none⟩ = false ∧ w.frozen? ⟨g, 15, none⟩ = false ∧ w.frozen? ⟨g, 16, none⟩ = false ∧ w.frozen? ⟨g, 17, none⟩ = false :=
  ⟨⟨h.cell rfl, h.cell rfl, h.cell rfl, h.cell rfl, h.cell rfl, h.cell rfl, h.cell rfl, h.cell rfl, h.cell rfl, h.cell rfl, h.cell rfl, h.cell rfl, h.cell rfl, h.cell rfl, h.cell rfl, h.cell rfl, h.cell rfl, h.cell rfl⟩, h.frz 0, h.frz 1, h.frz 2, h.frz 3, h.frz 4, h.frz 5, h.frz 6, h.frz 7, h.frz 8, h.frz 9, h.frz 10, h.frz 11, h.frz 12, h.frz 13, h.frz 14, h.frz 15, h.frz 16, h.frz 17⟩
theorem retColumn {R : Ending → World → Prop} {fn : Func} {k : Nat} (hr : fn.results = #[.cell k 81]) {a : Act} {w : World} {g : Nat} {u0 u1 u2 : Value} (hb : Bx w g #[u0, u1, u2] 81)
    (h2 : a.tmps[k]?.getD undef = .pointer (some ⟨g, 0, none⟩)) (hd : a.defers = []) (hR : R (.returned (.agg #[u0, u1, u2])) w) : bodyPost Tryz.prog fn R .ret a w := by
  have z0 : w.cell? ⟨g, 0, none⟩ = some u0 := hb.cell rfl
  have z1 : w.cell? ⟨g, 1, none⟩ = some u1 := hb.cell rfl
  have z2 : w.cell? ⟨g, 2, none⟩ = some u2 := hb.cell rfl
  exact bodyPost_ret (v := .agg #[u0, u1, u2]) (by simp [results, hr, go_sem, z0, z1, z2, h2]) hd hR
theorem retItem {R : Ending → World → Prop} {fn : Func} {k : Nat} (hr : fn.results = #[.cell k 63]) {a : Act} {w : World} {g : Nat} {u0 u1 u2 u3 u4 u5 u6 u7 : Value} (hb : Bx w g #[u0, u1, u2, u3, u4, u5, u6, u7] 63)
    (h2 : a.tmps[k]?.getD undef = .pointer (some ⟨g, 0, none⟩)) (hd : a.defers = []) (hR : R (.returned (.agg #[u0, u1, u2, u3, u4, u5, u6, u7])) w) : bodyPost Tryz.prog fn R .ret a w := by
  have z0 : w.cell? ⟨g, 0, none⟩ = some u0 := hb.cell rfl
  have z1 : w.cell? ⟨g, 1, none⟩ = some u1 := hb.cell rfl
  have z2 : w.cell? ⟨g, 2, none⟩ = some u2 := hb.cell rfl
  have z3 : w.cell? ⟨g, 3, none⟩ = some u3 := hb.cell rfl
  have z4 : w.cell? ⟨g, 4, none⟩ = some u4 := hb.cell rfl
  have z5 : w.cell? ⟨g, 5, none⟩ = some u5 := hb.cell rfl
  have z6 : w.cell? ⟨g, 6, none⟩ = some u6 := hb.cell rfl
  have z7 : w.cell? ⟨g, 7, none⟩ = some u7 := hb.cell rfl
  exact bodyPost_ret (v := .agg #[u0, u1, u2, u3, u4, u5, u6, u7]) (by simp [results, hr, go_sem, z0, z1, z2, z3, z4, z5, z6, z7, h2]) hd hR
theorem retSort {R : Ending → World → Prop} {fn : Func} {k : Nat} (hr : fn.results = #[.cell k 106]) {a : Act} {w : World} {g : Nat} {u0 u1 u2 u3 u4 u5 u6 u7 : Value} (hb : Bx w g #[u0, u1, u2, u3, u4, u5, u6, u7] 106)
    (h2 : a.tmps[k]?.getD undef = .pointer (some ⟨g, 0, none⟩)) (hd : a.defers = []) (hR : R (.returned (.agg #[u0, u1, u2, u3, u4, u5, u6, u7])) w) : bodyPost Tryz.prog fn R .ret a w := by
  have z0 : w.cell? ⟨g, 0, none⟩ = some u0 := hb.cell rfl
  have z1 : w.cell? ⟨g, 1, none⟩ = some u1 := hb.cell rfl
  have z2 : w.cell? ⟨g, 2, none⟩ = some u2 := hb.cell rfl
  have z3 : w.cell? ⟨g, 3, none⟩ = some u3 := hb.cell rfl
  have z4 : w.cell? ⟨g, 4, none⟩ = some u4 := hb.cell rfl
  have z5 : w.cell? ⟨g, 5, none⟩ = some u5 := hb.cell rfl
  have z6 : w.cell? ⟨g, 6, none⟩ = some u6 := hb.cell rfl
  have z7 : w.cell? ⟨g, 7, none⟩ = some u7 := hb.cell rfl
  exact bodyPost_ret (v := .agg #[u0, u1, u2, u3, u4, u5, u6, u7]) (by simp [results, hr, go_sem, z0, z1, z2, z3, z4, z5, z6, z7, h2]) hd hR
theorem retSet {R : Ending → World → Prop} {fn : Func} {k : Nat} (hr : fn.results = #[.cell k 103]) {a : Act} {w : World} {g : Nat} {u0 u1 u2 u3 u4 u5 u6 u7 : Value} (hb : Bx w g #[u0, u1, u2, u3, u4, u5, u6, u7] 103)
    (h2 : a.tmps[k]?.getD undef = .pointer (some ⟨g, 0, none⟩)) (hd : a.defers = []) (hR : R (.returned (.agg #[u0, u1, u2, u3, u4, u5, u6, u7])) w) : bodyPost Tryz.prog fn R .ret a w := by
  have z0 : w.cell? ⟨g, 0, none⟩ = some u0 := hb.cell rfl
  have z1 : w.cell? ⟨g, 1, none⟩ = some u1 := hb.cell rfl
  have z2 : w.cell? ⟨g, 2, none⟩ = some u2 := hb.cell rfl
  have z3 : w.cell? ⟨g, 3, none⟩ = some u3 := hb.cell rfl
  have z4 : w.cell? ⟨g, 4, none⟩ = some u4 := hb.cell rfl
  have z5 : w.cell? ⟨g, 5, none⟩ = some u5 := hb.cell rfl
  have z6 : w.cell? ⟨g, 6, none⟩ = some u6 := hb.cell rfl
  have z7 : w.cell? ⟨g, 7, none⟩ = some u7 := hb.cell rfl
  exact bodyPost_ret (v := .agg #[u0, u1, u2, u3, u4, u5, u6, u7]) (by simp [results, hr, go_sem, z0, z1, z2, z3, z4, z5, z6, z7, h2]) hd hR
theorem retSource {R : Ending → World → Prop} {fn : Func} {k : Nat} (hr : fn.results = #[.cell k 65]) {a : Act} {w : World} {g : Nat} {u0 u1 u2 u3 u4 u5 u6 u7 u8 : Value} (hb : Bx w g #[u0, u1, u2, u3, u4, u5, u6, u7, u8] 65)
    (h2 : a.tmps[k]?.getD undef = .pointer (some ⟨g, 0, none⟩)) (hd : a.defers = []) (hR : R (.returned (.agg #[u0, u1, u2, u3, u4, u5, u6, u7, u8])) w) : bodyPost Tryz.prog fn R .ret a w := by
  have z0 : w.cell? ⟨g, 0, none⟩ = some u0 := hb.cell rfl
  have z1 : w.cell? ⟨g, 1, none⟩ = some u1 := hb.cell rfl
  have z2 : w.cell? ⟨g, 2, none⟩ = some u2 := hb.cell rfl
  have z3 : w.cell? ⟨g, 3, none⟩ = some u3 := hb.cell rfl
  have z4 : w.cell? ⟨g, 4, none⟩ = some u4 := hb.cell rfl
  have z5 : w.cell? ⟨g, 5, none⟩ = some u5 := hb.cell rfl
  have z6 : w.cell? ⟨g, 6, none⟩ = some u6 := hb.cell rfl
  have z7 : w.cell? ⟨g, 7, none⟩ = some u7 := hb.cell rfl
  have z8 : w.cell? ⟨g, 8, none⟩ = some u8 := hb.cell rfl
  exact bodyPost_ret (v := .agg #[u0, u1, u2, u3, u4, u5, u6, u7, u8]) (by simp [results, hr, go_sem, z0, z1, z2, z3, z4, z5, z6, z7, z8, h2]) hd hR
theorem retStmt {R : Ending → World → Prop} {fn : Func} {k : Nat} (hr : fn.results = #[.cell k 34]) {a : Act} {w : World} {g : Nat} {u0 u1 u2 u3 u4 u5 u6 u7 u8 u9 u10 u11 u12 u13 u14 u15 u16 u17 : Value} (hb : Bx w g #[u0, u1, u2, u3, u4, u5, u6, u7, u8, u9, u10, u11, u12, u13, u14, u15, u16, u17] 34)
    (h2 : a.tmps[k]?.getD undef = .pointer (some ⟨g, 0, none⟩)) (hd : a.defers = []) (hR : R (.returned (.agg #[u0, u1, u2, u3, u4, u5, u6, u7, u8, u9, u10, u11, u12, u13, u14, u15, u16, u17])) w) : bodyPost Tryz.prog fn R .ret a w := by
  have z0 : w.cell? ⟨g, 0, none⟩ = some u0 := hb.cell rfl
  have z1 : w.cell? ⟨g, 1, none⟩ = some u1 := hb.cell rfl
  have z2 : w.cell? ⟨g, 2, none⟩ = some u2 := hb.cell rfl
  have z3 : w.cell? ⟨g, 3, none⟩ = some u3 := hb.cell rfl
  have z4 : w.cell? ⟨g, 4, none⟩ = some u4 := hb.cell rfl
  have z5 : w.cell? ⟨g, 5, none⟩ = some u5 := hb.cell rfl
  have z6 : w.cell? ⟨g, 6, none⟩ = some u6 := hb.cell rfl
  have z7 : w.cell? ⟨g, 7, none⟩ = some u7 := hb.cell rfl
  have z8 : w.cell? ⟨g, 8, none⟩ = some u8 := hb.cell rfl
  have z9 : w.cell? ⟨g, 9, none⟩ = some u9 := hb.cell rfl
  have z10 : w.cell? ⟨g, 10, none⟩ = some u10 := hb.cell rfl
  have z11 : w.cell? ⟨g, 11, none⟩ = some u11 := hb.cell rfl
  have z12 : w.cell? ⟨g, 12, none⟩ = some u12 := hb.cell rfl
  have z13 : w.cell? ⟨g, 13, none⟩ = some u13 := hb.cell rfl
  have z14 : w.cell? ⟨g, 14, none⟩ = some u14 := hb.cell rfl
  have z15 : w.cell? ⟨g, 15, none⟩ = some u15 := hb.cell rfl
  have z16 : w.cell? ⟨g, 16, none⟩ = some u16 := hb.cell rfl
  have z17 : w.cell? ⟨g, 17, none⟩ = some u17 := hb.cell rfl
  exact bodyPost_ret (v := .agg #[u0, u1, u2, u3, u4, u5, u6, u7, u8, u9, u10, u11, u12, u13, u14, u15, u16, u17]) (by simp [results, hr, go_sem, z0, z1, z2, z3, z4, z5, z6, z7, z8, z9, z10, z11, z12, z13, z14, z15, z16, z17, h2]) hd hR

end Go.Proofs.YtkffomfbnbcgaaaGreatDoor

namespace Go.Proofs.YtkffomfbnbcgaaaGreatDoor
set_option maxRecDepth 100000
open Go.RowKit Go.Joins Go.ChangeShapes Go.WideShapes
set_option linter.unusedVariables false
set_option linter.unusedSimpArgs false
set_option maxHeartbeats 4000000 in
theorem item_p (n pb : Nat) : PR 126 pb (RE itk) (itemP isN n) := by
  intro w s r h hr
  generalize hP : EndP w pb (RE itk w.heap.size) r = P
  have HP := Lib.hid hP
  have hpb := h.lt
  have hne : ¬ w.heap.size = pb := by omega
  obtain ⟨w1, hw1⟩ : ∃ w1, w.alloc (.cells #[.int .i64 0, .slice none 0 0, .int .i64 0, .int .i64 0, .int .i64 0, .string ⟨#[]⟩, .string ⟨#[]⟩, .string ⟨#[]⟩] 63) = w1 := ⟨_, rfl⟩
  have hb1 := Bx.new w #[.int .i64 0, .slice none 0 0, .int .i64 0, .int .i64 0, .int .i64 0, .string ⟨#[]⟩, .string ⟨#[]⟩, .string ⟨#[]⟩] 63
  have S1 := Lib.hid ((Stp.refl h).alloc (.cells #[.int .i64 0, .slice none 0 0, .int .i64 0, .int .i64 0, .int .i64 0, .string ⟨#[]⟩, .string ⟨#[]⟩, .string ⟨#[]⟩] 63))
  have hz1 : w1.heap.size = w.heap.size + 1 := by rw [← hw1]; simp
  rw [hw1] at hb1 S1
  have HB1 := Lib.hid hb1
  have HZ1 := Lib.hid hz1
  have HR := Lib.hid hr
  unfold itemP at HR
  clear hP h hr hb1 hz1
  go_enter Tryz.func126, Tryz.ntmps126
  go_wp2_with (first | (go_at_call 132; rcases bind_call HR.out with ⟨c, hx, rfl⟩ | ⟨aa, sa, hx, hrr⟩; refine (whole_p n pb _ _ _ S1.out.ps hx).mono ?_; rintro e w2 ⟨ff, rfl⟩; exact ⟨rfl, by rw [← HP.out]; exact ⟨S1.out.fr.trans ff (New.refl _ _), rfl⟩⟩; refine (whole_p n pb _ _ _ S1.out.ps hx).mono ?_; rintro e w2 ⟨ff, v, rfl, hv, pp⟩; obtain ⟨x, rfl, hxe, mx⟩ := hv; have S2 := Lib.hid (S1.out.trans ⟨ff, pp⟩); have HR2 := Lib.hid hrr; have HB2 := Lib.hid (HB1.out.frm ff hne); have HX := Lib.hid (And.intro hxe (XE.mem_up S1.out.fr.size mx)); have HXS := Lib.hid (And.intro S1.out.fr.size mx); obtain ⟨op, kind, num, scale, text, qual, a, cap, args⟩ := x; unfold XE.val; clear hxe mx; clear pp hrr hx HR) | (go_at_call 176; rcases bind_call HR2.out with ⟨c, hx, rfl⟩ | ⟨aa, sa, hx, hrr⟩; refine (alias_p pb _ _ _ S2.out.ps hx).mono ?_; rintro e w3 ⟨ff, rfl⟩; exact ⟨rfl, by rw [← HP.out]; exact ⟨S2.out.fr.trans ff (New.refl _ _), rfl⟩⟩; refine (alias_p pb _ _ _ S2.out.ps hx).mono ?_; rintro e w3 ⟨ff, v, rfl, hv, pp⟩; have hv2 : v = .string (strB aa) := hv; subst hv2; have S3 := Lib.hid (S2.out.trans ⟨ff, pp⟩); have HR3 := Lib.hid hrr; have HB3 := Lib.hid (HB2.out.frm ff hne); obtain ⟨⟨x0, x1, x2, x3, x4, x5, x6, x7⟩, z0, z1, z2, z3, z4, z5, z6, z7⟩ := (HB3.out).n8; have MX := Lib.hid (XE.Mem.frm ff (fun k hk e => by have := HZ1.out; have : w1.heap.size ≤ k := hk; omega) _ HXS.out.2); clear hv; clear pp hrr hx HR2))
  have hrc := ret_ok HR3.out
  have HFI := fin_E itk S3.out hpb HB3.out rfl (XE.mk op kind num scale text qual a cap args, aa) (XE.Mem.mono (fun k hk => by have := HZ1.out; have : w1.heap.size ≤ k := hk; show _ < _; omega) _ MX.out)
  have he : r = .ok (itk.er (XE.mk op kind num scale text qual a cap args, aa), sa) := by rw [hrc, ← HX.out.1]; rfl
  exact retItem Tryz.results126 HFI.1 rfl rfl (by rw [← HP.out, he]; exact HFI.2)
set_option maxHeartbeats 4000000 in
theorem source_p (pb : Nat) : PR 177 pb (RE sok) (sourceP isN) := by
  intro w s r h hr
  generalize hP : EndP w pb (RE sok w.heap.size) r = P
  have HP := Lib.hid hP
  have hpb := h.lt
  have hne : ¬ w.heap.size = pb := by omega
  obtain ⟨w1, hw1⟩ : ∃ w1, w.alloc (.cells #[.string ⟨#[]⟩, .string ⟨#[]⟩, .int .i64 0, .slice none 0 0, .int .i64 0, .int .i64 0, .int .i64 0, .string ⟨#[]⟩, .string ⟨#[]⟩] 65) = w1 := ⟨_, rfl⟩
  have hb1 := Bx.new w #[.string ⟨#[]⟩, .string ⟨#[]⟩, .int .i64 0, .slice none 0 0, .int .i64 0, .int .i64 0, .int .i64 0, .string ⟨#[]⟩, .string ⟨#[]⟩] 65
  have S1 := Lib.hid ((Stp.refl h).alloc (.cells #[.string ⟨#[]⟩, .string ⟨#[]⟩, .int .i64 0, .slice none 0 0, .int .i64 0, .int .i64 0, .int .i64 0, .string ⟨#[]⟩, .string ⟨#[]⟩] 65))
  have hz1 : w1.heap.size = w.heap.size + 1 := by rw [← hw1]; simp
  rw [hw1] at hb1 S1
  have HB1 := Lib.hid hb1
  have HZ1 := Lib.hid hz1
  have HR := Lib.hid hr
  unfold sourceP at HR
  clear hP h hr hb1 hz1
  go_enter Tryz.func177, Tryz.ntmps177
  go_wp2_with (first | (go_at_call 57; rcases bind_call HR.out with ⟨c, hx, rfl⟩ | ⟨aa, sa, hx, hrr⟩; refine (name_p S1.out.ps hx).mono ?_; rintro e w2 ⟨ff, rfl⟩; exact ⟨rfl, by rw [← HP.out]; exact ⟨S1.out.fr.trans ff (New.refl _ _), rfl⟩⟩; refine (name_p S1.out.ps hx).mono ?_; rintro e w2 ⟨ff, v, rfl, hv, pp⟩; obtain ⟨tb, htb⟩ : ∃ tb, tb = aa := ⟨_, rfl⟩; subst htb; have hv2 : v = .string (strB tb) := hv; subst hv2; have S2 := Lib.hid (S1.out.trans ⟨ff, pp⟩); have HR2 := Lib.hid hrr; have HB2 := Lib.hid (HB1.out.frm ff hne); clear hv; clear pp hrr hx HR) | (go_at_call 176; rcases bind_call HR2.out with ⟨c, hx, rfl⟩ | ⟨aa, sa, hx, hrr⟩; refine (alias_p pb _ _ _ S2.out.ps hx).mono ?_; rintro e w3 ⟨ff, rfl⟩; exact ⟨rfl, by rw [← HP.out]; exact ⟨S2.out.fr.trans ff (New.refl _ _), rfl⟩⟩; refine (alias_p pb _ _ _ S2.out.ps hx).mono ?_; rintro e w3 ⟨ff, v, rfl, hv, pp⟩; have hv2 : v = .string (strB aa) := hv; subst hv2; have S3 := Lib.hid (S2.out.trans ⟨ff, pp⟩); have HR3 := Lib.hid hrr; have HB3 := Lib.hid (HB2.out.frm ff hne); obtain ⟨⟨x0, x1, x2, x3, x4, x5, x6, x7, x8⟩, z0, z1, z2, z3, z4, z5, z6, z7, z8⟩ := (HB3.out).n9; clear hv; clear pp hrr hx HR2))
  have hrc := ret_ok HR3.out
  have HFI := fin_E sok S3.out hpb HB3.out rfl (tb, aa, XE.mk 0 0 0 0 ⟨#[]⟩ ⟨#[]⟩ none 0 []) (XE.Mem.leaf (fun k => w.heap.size < k) w3 0 0 0 0 ⟨#[]⟩ ⟨#[]⟩)
  have he : r = .ok (sok.er (tb, aa, XE.mk 0 0 0 0 ⟨#[]⟩ ⟨#[]⟩ none 0 []), sa) := by rw [hrc]; simp [sok, XE.er, XE.erL, zE]
  exact retSource Tryz.results177 HFI.1 rfl rfl (by rw [← HP.out, he]; exact HFI.2)
set_option maxHeartbeats 4000000 in
theorem sort_p (n pb : Nat) : PR 129 pb (RE srk) (sortP isN n) := by
  intro w s r h hr
  generalize hP : EndP w pb (RE srk w.heap.size) r = P
  have HP := Lib.hid hP
  have hpb := h.lt
  have hne : ¬ w.heap.size = pb := by omega
  obtain ⟨w1, hw1⟩ : ∃ w1, w.alloc (.cells #[.int .i64 0, .slice none 0 0, .int .i64 0, .int .i64 0, .int .i64 0, .string ⟨#[]⟩, .string ⟨#[]⟩, .bool false] 106) = w1 := ⟨_, rfl⟩
  have hb1 := Bx.new w #[.int .i64 0, .slice none 0 0, .int .i64 0, .int .i64 0, .int .i64 0, .string ⟨#[]⟩, .string ⟨#[]⟩, .bool false] 106
  have S1 := Lib.hid ((Stp.refl h).alloc (.cells #[.int .i64 0, .slice none 0 0, .int .i64 0, .int .i64 0, .int .i64 0, .string ⟨#[]⟩, .string ⟨#[]⟩, .bool false] 106))
  have hz1 : w1.heap.size = w.heap.size + 1 := by rw [← hw1]; simp
  rw [hw1] at hb1 S1
  have HB1 := Lib.hid hb1
  have HZ1 := Lib.hid hz1
  have HR := Lib.hid hr
  unfold sortP at HR
  clear hP h hr hb1 hz1
  go_enter Tryz.func129, Tryz.ntmps129
  go_wp2_with (first | (go_at_call 132; rcases bind_call HR.out with ⟨c, hx, rfl⟩ | ⟨aa, sa, hx, hrr⟩; refine (whole_p n pb _ _ _ S1.out.ps hx).mono ?_; rintro e w2 ⟨ff, rfl⟩; exact ⟨rfl, by rw [← HP.out]; exact ⟨S1.out.fr.trans ff (New.refl _ _), rfl⟩⟩; refine (whole_p n pb _ _ _ S1.out.ps hx).mono ?_; rintro e w2 ⟨ff, v, rfl, hv, pp⟩; obtain ⟨x, rfl, hxe, mx⟩ := hv; have S2 := Lib.hid (S1.out.trans ⟨ff, pp⟩); have HR2 := Lib.hid hrr; have HB2 := Lib.hid (HB1.out.frm ff hne); have HX := Lib.hid (And.intro hxe (XE.mem_up S1.out.fr.size mx)); have HXS := Lib.hid (And.intro S1.out.fr.size mx); obtain ⟨op, kind, num, scale, text, qual, a, cap, args⟩ := x; unfold XE.val; clear hxe mx; clear pp hrr hx HR) | (go_at_call 50; refine (found_q S2.out.ps zqdesc (by decide)).mono ?_; rintro e w3 ⟨rfl, ss⟩; have S3 := Lib.hid (S2.out.trans ss); have HB3 := Lib.hid (HB2.out.frm ss.fr hne); obtain ⟨⟨x0, x1, x2, x3, x4, x5, x6, x7⟩, z0, z1, z2, z3, z4, z5, z6, z7⟩ := (HB3.out).n8; have MX := Lib.hid (XE.Mem.frm ss.fr (fun k hk e => by have := HZ1.out; have : w1.heap.size ≤ k := hk; omega) _ HXS.out.2); clear ss))
  have hrc := ret_ok HR2.out
  have HFI := fin_E srk S3.out hpb HB3.out rfl (XE.mk op kind num scale text qual a cap args, atP wDesc sa) (XE.Mem.mono (fun k hk => by have := HZ1.out; have : w1.heap.size ≤ k := hk; show _ < _; omega) _ MX.out)
  have he : r = .ok (srk.er (XE.mk op kind num scale text qual a cap args, atP wDesc sa), (gotP wDesc sa).2) := by
    rw [hrc, ← HX.out.1]
    have : (gotP wDesc sa).1 = atP wDesc sa := by unfold gotP; cases atP wDesc sa <;> rfl
    rw [this]
    rfl
  exact retSort Tryz.results129 HFI.1 rfl rfl (by rw [← HP.out, he]; exact HFI.2)

end Go.Proofs.YtkffomfbnbcgaaaGreatDoor

namespace Go.Proofs.YtkffomfbnbcgaaaGreatDoor
set_option maxRecDepth 100000
open Go.RowKit Go.Joins Go.ChangeShapes Go.WideShapes
set_option linter.unusedVariables false
set_option linter.unusedSimpArgs false
theorem Stp.stL {w w' : World} {pb : Nat} {s : PS} (h : Stp w w' pb s) {g : Nat} (hg : w.heap.size ≤ g) (hp : pb < g) (l : List Value) (o : Nat) : Stp w (stL w' g o l) pb s :=
  ⟨stL_frm (.inr hg) l o h.fr, h.ps.frm (F := fun k => k = g) (stL_frm (F := fun k => k = g) (.inl rfl) l o (Frm.refl _ w')) (fun k hk e => by omega)⟩
theorem stL_one (w : World) (g o : Nat) (l : List Value) : Frm (fun k => k = g) w (stL w g o l) := stL_frm (F := fun k => k = g) (.inl rfl) l o (Frm.refl _ w)
set_option maxHeartbeats 4000000 in
theorem set_p (n pb : Nat) : PR 131 pb (RE sek) (setP isN n) := by
  intro w s r h hr
  generalize hP : EndP w pb (RE sek w.heap.size) r = P
  have HP := Lib.hid hP
  have hpb := h.lt
  have hne : ¬ w.heap.size = pb := by omega
  obtain ⟨w1, hw1⟩ : ∃ w1, w.alloc (.cells #[.string ⟨#[]⟩, .int .i64 0, .slice none 0 0, .int .i64 0, .int .i64 0, .int .i64 0, .string ⟨#[]⟩, .string ⟨#[]⟩] 103) = w1 := ⟨_, rfl⟩
  have hb1 := Bx.new w #[.string ⟨#[]⟩, .int .i64 0, .slice none 0 0, .int .i64 0, .int .i64 0, .int .i64 0, .string ⟨#[]⟩, .string ⟨#[]⟩] 103
  have S1 := Lib.hid ((Stp.refl h).alloc (.cells #[.string ⟨#[]⟩, .int .i64 0, .slice none 0 0, .int .i64 0, .int .i64 0, .int .i64 0, .string ⟨#[]⟩, .string ⟨#[]⟩] 103))
  have hz1 : w1.heap.size = w.heap.size + 1 := by rw [← hw1]; simp
  rw [hw1] at hb1 S1
  have HB1 := Lib.hid hb1
  have HZ1 := Lib.hid hz1
  have HR := Lib.hid hr
  unfold setP at HR
  clear hP h hr hb1 hz1
  go_enter Tryz.func131, Tryz.ntmps131
  go_wp2_with (first | (go_at_call 57; rcases bind_call HR.out with ⟨c, hx, rfl⟩ | ⟨aa, sa, hx, hrr⟩; refine (name_p S1.out.ps hx).mono ?_; rintro e w2 ⟨ff, rfl⟩; exact ⟨rfl, by rw [← HP.out]; exact ⟨S1.out.fr.trans ff (New.refl _ _), rfl⟩⟩; refine (name_p S1.out.ps hx).mono ?_; rintro e w2 ⟨ff, v, rfl, hv, pp⟩; obtain ⟨tb, htb⟩ : ∃ tb, tb = aa := ⟨_, rfl⟩; subst htb; have hv2 : v = .string (strB tb) := hv; subst hv2; have S2 := Lib.hid (S1.out.trans ⟨ff, pp⟩); have HR2 := Lib.hid hrr; have HB2 := Lib.hid ((HB1.out.frm ff hne).below ((Below.refl _ _).alloc (Nat.le_refl _) (.cells #[.string (strB tb), .int .i64 0, .slice none 0 0, .int .i64 0, .int .i64 0, .int .i64 0, .string ⟨#[]⟩, .string ⟨#[]⟩] 103))); have S2a := Lib.hid (S2.out.alloc (.cells #[.string (strB tb), .int .i64 0, .slice none 0 0, .int .i64 0, .int .i64 0, .int .i64 0, .string ⟨#[]⟩, .string ⟨#[]⟩] 103)); have LB := Lib.hid (Bx.new w2 #[.string (strB tb), .int .i64 0, .slice none 0 0, .int .i64 0, .int .i64 0, .int .i64 0, .string ⟨#[]⟩, .string ⟨#[]⟩] 103); have g1 : ¬ w2.heap.size = w.heap.size := (by have := ff.size; have := HZ1.out; omega); have g2 : ¬ w.heap.size = w2.heap.size := fun e => g1 e.symm; have g3 : ¬ w2.heap.size = pb := (by have := S2.out.fr.size; omega); clear hv; clear pp hrr hx HR) | (go_at_call 56; rcases need_bind HR2.out with ⟨ha, rfl⟩ | ⟨ha, hrr⟩; refine (need_g S2a.out.ps zqEq (by decide) (by first | rfl | simp | assumption)).mono ?_; rintro e w4 hn; obtain ⟨rfl, ff⟩ := hn.2 ha; exact ⟨rfl, by rw [← HP.out]; exact ⟨S2a.out.fr.trans ff (New.refl _ _), rfl⟩⟩; refine (need_g S2a.out.ps zqEq (by decide) (by first | rfl | simp | assumption)).mono ?_; rintro e w4 hn; obtain ⟨rfl, ss⟩ := hn.1 ha; have S4 := Lib.hid (S2a.out.trans ss); have HR4 := Lib.hid hrr; have HB4 := Lib.hid (HB2.out.frm ss.fr hne); have LB4 := Lib.hid (LB.out.frm ss.fr g3); have h24 : w2.heap.size < w4.heap.size := LB4.out.lt; clear ss hn hrr ha HR2) | (go_at_call 132; rcases bind_call HR4.out with ⟨c, hx, rfl⟩ | ⟨aa, sa, hx, hrr⟩; refine (whole_p n pb _ _ _ S4.out.ps hx).mono ?_; rintro e w5 ⟨ff, rfl⟩; exact ⟨rfl, by rw [← HP.out]; exact ⟨S4.out.fr.trans ff (New.refl _ _), rfl⟩⟩; refine (whole_p n pb _ _ _ S4.out.ps hx).mono ?_; rintro e w5 ⟨ff, v, rfl, hv, pp⟩; obtain ⟨x, rfl, hxe, mx⟩ := hv; have S5 := Lib.hid (S4.out.trans ⟨ff, pp⟩); have HR5 := Lib.hid hrr; have HB5 := Lib.hid (HB4.out.frm ff hne); have LB5 := Lib.hid (LB4.out.frm ff g3); obtain ⟨⟨q0, q1, q2, q3, q4, q5, q6, q7⟩, y0, y1, y2, y3, y4, y5, y6, y7⟩ := LB5.out.n8; obtain ⟨⟨x0, x1, x2, x3, x4, x5, x6, x7⟩, z0, z1, z2, z3, z4, z5, z6, z7⟩ := (HB5.out).n8; have HX := Lib.hid (And.intro hxe mx); obtain ⟨op, kind, num, scale, text, qual, a, cap, args⟩ := x; unfold XE.val; clear hxe mx; clear pp hrr hx HR4))
  have hrc := ret_ok HR5.out
  have f5 := stL_one w5 w2.heap.size 1 (XE.enc (XE.mk op kind num scale text qual a cap args))
  have hs2 := S2.out.fr.size
  have h24 : w2.heap.size < w4.heap.size := LB4.out.lt
  have HFI := fin_E sek (S5.out.stL (g := w2.heap.size) hs2 (by omega) (XE.enc (XE.mk op kind num scale text qual a cap args)) 1) hpb (HB5.out.frm f5 g2) rfl (tb, XE.mk op kind num scale text qual a cap args)
    (XE.Mem.mono (fun k hk => by have : w4.heap.size ≤ k := hk; show _ < _; omega) _ (XE.Mem.frm f5 (fun k hk e => by have : w4.heap.size ≤ k := hk; omega) _ HX.out.2))
  have he : r = .ok (sek.er (tb, XE.mk op kind num scale text qual a cap args), sa) := by rw [hrc, ← HX.out.1]; rfl
  exact retSet Tryz.results131 HFI.1 rfl rfl (by rw [← HP.out, he]; exact HFI.2)
set_option maxHeartbeats 4000000 in
theorem column_p (pb : Nat) : PR 121 pb (RE cok) (colP isN) := by
  intro w s r h hr
  generalize hP : EndP w pb (RE cok w.heap.size) r = P
  have HP := Lib.hid hP
  have hpb := h.lt
  have hne : ¬ w.heap.size = pb := by omega
  obtain ⟨w1, hw1⟩ : ∃ w1, w.alloc (.cells #[.string ⟨#[]⟩, .int .i64 0, .bool false] 81) = w1 := ⟨_, rfl⟩
  have hb1 := Bx.new w #[.string ⟨#[]⟩, .int .i64 0, .bool false] 81
  have S1 := Lib.hid ((Stp.refl h).alloc (.cells #[.string ⟨#[]⟩, .int .i64 0, .bool false] 81))
  have hz1 : w1.heap.size = w.heap.size + 1 := by rw [← hw1]; simp
  rw [hw1] at hb1 S1
  have HB1 := Lib.hid hb1
  have HZ1 := Lib.hid hz1
  have HR := Lib.hid hr
  unfold colP at HR
  clear hP h hr hb1 hz1
  go_enter Tryz.func121, Tryz.ntmps121
  go_wp2_with (first | (go_at_call 57; rcases bind_call HR.out with ⟨c, hx, rfl⟩ | ⟨aa, sa, hx, hrr⟩; refine (name_p S1.out.ps hx).mono ?_; rintro e w2 ⟨ff, rfl⟩; exact ⟨rfl, by rw [← HP.out]; exact ⟨S1.out.fr.trans ff (New.refl _ _), rfl⟩⟩; refine (name_p S1.out.ps hx).mono ?_; rintro e w2 ⟨ff, v, rfl, hv, pp⟩; obtain ⟨tb, htb⟩ : ∃ tb, tb = aa := ⟨_, rfl⟩; subst htb; have hv2 : v = .string (strB tb) := hv; subst hv2; have S2 := Lib.hid (S1.out.trans ⟨ff, pp⟩); have HR2 := Lib.hid hrr; have HB2 := Lib.hid (HB1.out.frm ff hne); clear hv; clear pp hrr hx HR) | (go_at_call 173; rcases bind_call HR2.out with ⟨c, hx, rfl⟩ | ⟨aa, sa, hx, hrr⟩; refine (type_p pb _ _ _ S2.out.ps hx).mono ?_; rintro e w3 ⟨ff, rfl⟩; exact ⟨rfl, by rw [← HP.out]; exact ⟨S2.out.fr.trans ff (New.refl _ _), rfl⟩⟩; refine (type_p pb _ _ _ S2.out.ps hx).mono ?_; rintro e w3 ⟨ff, v, rfl, hv, pp⟩; obtain ⟨kt, hkt⟩ : ∃ kt, kt = aa := ⟨_, rfl⟩; subst hkt; obtain ⟨s3, hs3⟩ : ∃ s3, s3 = sa := ⟨_, rfl⟩; subst hs3; have hv2 : v = .int .i64 (kt : Int) := hv; subst hv2; have S3 := Lib.hid (S2.out.trans ⟨ff, pp⟩); have HR3 := Lib.hid hrr; have HB3 := Lib.hid ((HB2.out.frm ff hne).below ((Below.refl _ _).alloc (Nat.le_refl _) (.cells #[.string (strB tb), .int .i64 (kt : Int), .bool false] 81))); have S3a := Lib.hid (S3.out.alloc (.cells #[.string (strB tb), .int .i64 (kt : Int), .bool false] 81)); have LB := Lib.hid (Bx.new w3 #[.string (strB tb), .int .i64 (kt : Int), .bool false] 81); have g1 : ¬ w3.heap.size = w.heap.size := (by have := ff.size; have := S2.out.fr.size; have := HB2.out.lt; omega); have g2 : ¬ w.heap.size = w3.heap.size := fun e => g1 e.symm; have g3 : ¬ w3.heap.size = pb := (by have := S3.out.fr.size; omega); clear hv; clear pp hrr hx HR2))
  cases hc : atP wNot s3 with
  | true =>
    have hR := HR3.out
    rw [if_pos hc] at hR
    have HR4 := Lib.hid hR
    clear hR HR3
    go_wp2_with (first | (go_at_call 50; refine (found_yes S3a.out.ps qnot (by decide) hc).mono ?_; rintro e w4 ⟨rfl, ss⟩; have S4 := Lib.hid (S3a.out.trans ss); have HB4 := Lib.hid (HB3.out.frm ss.fr hne); have LB4 := Lib.hid (LB.out.frm ss.fr g3); clear ss) | (go_at_call 56; rcases need_bind HR4.out with ⟨ha, rfl⟩ | ⟨ha, hrr⟩; refine (need_g S4.out.ps zqnull (by decide) (by first | rfl | simp | assumption)).mono ?_; rintro e w5 hn; obtain ⟨rfl, ff⟩ := hn.2 ha; exact ⟨rfl, by rw [← HP.out]; exact ⟨S4.out.fr.trans ff (New.refl _ _), rfl⟩⟩; refine (need_g S4.out.ps zqnull (by decide) (by first | rfl | simp | assumption)).mono ?_; rintro e w5 hn; obtain ⟨rfl, ss⟩ := hn.1 ha; have S5 := Lib.hid (S4.out.trans ss); have HR5 := Lib.hid hrr; have HB5 := Lib.hid (HB4.out.frm ss.fr hne); have LB5 := Lib.hid (LB4.out.frm ss.fr g3); obtain ⟨⟨q0, q1, q2⟩, y0, y1, y2⟩ := (LB5.out).n3; obtain ⟨⟨x0, x1, x2⟩, z0, z1, z2⟩ := (HB5.out).n3; clear ss hn hrr ha HR4))
    have hrc := ret_ok HR5.out
    have f5 := stL_one w5 w3.heap.size 2 [.bool true]
    have HFI := fin_E cok (S5.out.stL (g := w3.heap.size) S3.out.fr.size (by have := S3.out.fr.size; omega) [.bool true] 2) hpb (HB5.out.frm f5 g2) rfl (Co.mk tb kt true) trivial
    exact retColumn Tryz.results121 HFI.1 rfl rfl (by rw [← HP.out, hrc]; exact HFI.2)
  | false =>
    have hR := HR3.out
    rw [if_neg (by rw [hc]; decide)] at hR
    have HR4 := Lib.hid hR
    clear hR HR3
    go_wp2_with (first | (go_at_call 50; refine (found_no S3a.out.ps qnot (by decide) hc).mono ?_; rintro e w4 ⟨rfl, ss⟩; have S4 := Lib.hid (S3a.out.trans ss); have HB4 := Lib.hid (HB3.out.frm ss.fr hne); have LB4 := Lib.hid (LB.out.frm ss.fr g3); obtain ⟨⟨q0, q1, q2⟩, y0, y1, y2⟩ := (LB4.out).n3; obtain ⟨⟨x0, x1, x2⟩, z0, z1, z2⟩ := (HB4.out).n3; clear ss))
    have hrc := ret_ok HR4.out
    have HFI := fin_E cok S4.out hpb HB4.out rfl (Co.mk tb kt false) trivial
    exact retColumn Tryz.results121 HFI.1 rfl rfl (by rw [← HP.out, hrc]; exact HFI.2)

end Go.Proofs.YtkffomfbnbcgaaaGreatDoor
