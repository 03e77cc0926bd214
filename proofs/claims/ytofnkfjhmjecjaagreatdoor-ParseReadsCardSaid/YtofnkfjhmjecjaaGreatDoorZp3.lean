/-
  Texts of mine put together, in build order.
  Conditions: as each declaration says.
-/
import Derived.Lib.ConvBytes
import Derived.Shelf.Small.Strs
import Derived.Shelf.Bytes.SlCase
import Derived.Test.YtofnkfjhmjecjaaGreatDoorZp1
import Derived.Test.YtofnkfjhmjecjaaGreatDoorZp2
namespace Go.Proofs.YtofnkfjhmjecjaaGreatDoor
set_option maxRecDepth 100000
set_option linter.unusedVariables false
set_option linter.unusedSimpArgs false
structure Rdr {α : Type} (x : Nat → PS → RX α) : Prop where
 le : ∀ n m s, n ≤ m → MoreR (x n s) (x m s)
 us : ∀ n s a s', x n s = some (.ok (a, s')) → s'.rest.length ≤ s.rest.length
 tot : ∀ s, ∃ n r, x n s = some r
theorem next_le (s : PS) : s.next.rest.length ≤ s.rest.length := by unfold PS.next; simp
theorem Rdr.bind {α β : Type} {x : Nat → PS → RX α} {f : α → Nat → PS → RX β} (hx : Rdr x) (hf : ∀ a, Rdr (f a)) : Rdr fun n s => bindR (x n s) fun a s1 => f a n s1 := by
 refine ⟨fun n m s h => (hx.le n m s h).bind fun a s1 => (hf a).le n m s1 h, fun n s a s' h => ?_, fun s => ?_⟩
 ·obtain ⟨c, s1, h1, h2⟩ := bindR_ok h
  exact Nat.le_trans ((hf c).us _ _ _ _ h2) (hx.us _ _ _ _ h1)
 ·exact tot_bind (x := fun n => x n s) (g := fun n a s1 => f a n s1) (fun n m h => hx.le n m s h) (fun n m a s1 h => (hf a).le n m s1 h) (hx.tot s) (fun _ a s1 _ => (hf a).tot s1)
theorem Rdr.ret {α : Type} (a : α) : Rdr fun _ s => retR a s := ⟨fun _ _ _ _ => MoreR.refl _, fun n s b s' h => by rw [(retR_ok h).2]; exact Nat.le_refl _, fun s => ⟨0, _, rfl⟩⟩
theorem Rdr.ite {α : Type} (p : PS → Bool) {x y : Nat → PS → RX α} (hx : Rdr x) (hy : Rdr y) : Rdr fun n s => if p s = true then x n s else y n s := by
 refine ⟨fun n m s h => MoreR.ite (hx.le n m s h) (hy.le n m s h), fun n s a s' h => ?_, fun s => ?_⟩
 ·rcases ite_or h with ⟨-, h⟩ | ⟨-, h⟩
  ·exact hx.us _ _ _ _ h
  ·exact hy.us _ _ _ _ h
 ·by_cases c : p s = true
  ·obtain ⟨n, r, h⟩ := hx.tot s
   exact ⟨n, r, by rw [if_pos c]; exact h⟩
  ·obtain ⟨n, r, h⟩ := hy.tot s
   exact ⟨n, r, by rw [if_neg c]; exact h⟩
theorem Rdr.frm {α : Type} (g : PS → PS) (hg : ∀ s, (g s).rest.length ≤ s.rest.length) {x : Nat → PS → RX α} (hx : Rdr x) : Rdr fun n s => x n (g s) :=
 ⟨fun n m s h => hx.le n m _ h, fun n s a s' h => Nat.le_trans (hx.us _ _ _ _ h) (hg s), fun s => hx.tot _⟩
theorem Rdr.next {α : Type} {x : Nat → PS → RX α} (hx : Rdr x) : Rdr fun n s => x n s.next := hx.frm PS.next next_le
theorem Rdr.need (w : List Nat) : Rdr fun _ s => needP w s := by
 refine ⟨fun _ _ _ _ => MoreR.refl _, fun n s b s' h => ?_, fun s => ?_⟩
 ·rw [(needP_ok h).2]; exact next_le s
 ·cases h : needP w s with
  | none => exact absurd h (needP_tot w s)
  | some r => exact ⟨0, r, rfl⟩
theorem Rdr.name (isName : List Nat → Bool) : Rdr fun _ s => nameP isName s := by
 refine ⟨fun _ _ _ _ => MoreR.refl _, fun n s b s' h => Nat.le_of_lt (nameP_ok h).1, fun s => ?_⟩
 cases h : nameP isName s with
 | none => exact absurd h (nameP_tot isName s)
 | some r => exact ⟨0, r, rfl⟩
theorem Rdr.px (isName : List Nat → Bool) : Rdr fun n s => px isName n 0 s :=
 ⟨fun n m s h => px_le isName h, fun n s a s' h => Nat.le_of_lt ((px_uses isName n).1 _ _ _ _ h).1, fun s => (px_total isName _ s rfl).1 0 (by omega)⟩
theorem lsP_le {α : Type} {one : Nat → PS → RX α} (h1 : Rdr one) (most : Nat) : ∀ (n m k l : Nat) (acc : List α) (s : PS), n ≤ m → k ≤ l → MoreR (lsP (one k) most n acc s) (lsP (one l) most m acc s)
 | 0, m, k, l, acc, s, _, _ => fun r h => by rw [lsP] at h; cases h
 | n + 1, 0, k, l, acc, s, h, _ => by omega
 | n + 1, m + 1, k, l, acc, s, h, hk => by
  rw [lsP, lsP]
  exact MoreR.ite (MoreR.ite ((h1.le k l _ hk).bind fun a s1 => lsP_le h1 most n m k l _ s1 (by omega) hk) (MoreR.refl _)) (MoreR.refl _)
theorem lsP_us {α : Type} {one : PS → RX α} (h1 : ∀ s a s', one s = some (.ok (a, s')) → s'.rest.length ≤ s.rest.length) (most : Nat) : ∀ (n : Nat) (acc : List α) (s : PS) (b : List α) (s' : PS), lsP one most n acc s = some (.ok (b, s')) → s'.rest.length ≤ s.rest.length
 | 0, acc, s, b, s', h => by rw [lsP] at h; cases h
 | n + 1, acc, s, b, s', h => by
  rw [lsP] at h
  rcases ite_or h with ⟨-, h⟩ | ⟨-, h⟩
  ·rcases ite_or h with ⟨-, h⟩ | ⟨-, h⟩
   ·obtain ⟨a, s1, h2, h3⟩ := bindR_ok h
    have := lsP_us h1 most n _ _ _ _ h3
    have := h1 _ _ _ h2
    have := next_le s
    omega
   ·cases h
  ·rw [(retR_ok h).2]; exact Nat.le_refl _
theorem lsP_tot {α : Type} {one : Nat → PS → RX α} (h1 : Rdr one) (most : Nat) : ∀ (L : Nat) (acc : List α) (s : PS), s.rest.length ≤ L → ∃ n r, lsP (one n) most n acc s = some r := by
 intro L
 induction L with
 | zero =>
  intro acc s hs
  refine ⟨1, .ok (acc, s), ?_⟩
  rw [lsP, if_neg (fun c => by have := atP_len c; omega)]
  rfl
 | succ L ih =>
  intro acc s hs
  by_cases c : atP [44] s = true
  ·by_cases c2 : acc.length < most
   ·obtain ⟨n, r, hr⟩ := tot_bind (x := fun n => one n s.next) (g := fun n a s1 => lsP (one n) most n (acc ++ [a]) s1) (fun n m h => h1.le n m _ h) (fun n m a s h => lsP_le h1 most n m n m _ s h h) (h1.tot _) (fun n a s1 h => by
     have := h1.us _ _ _ _ h
     have := atP_len c
     exact ih _ s1 (by omega))
    have hm := lsP_le h1 most (n + 1) (n + 1) n (n + 1) acc s (Nat.le_refl _) (by omega)
    exact ⟨n + 1, r, hm _ (by rw [lsP, if_pos c, if_pos c2]; exact hr)⟩
   ·exact ⟨1, .error 151, by rw [lsP, if_pos c, if_neg c2]; rfl⟩
  ·exact ⟨1, .ok (acc, s), by rw [lsP, if_neg c]; rfl⟩
theorem Rdr.list {α : Type} {one : Nat → PS → RX α} (h1 : Rdr one) (most : Nat) : Rdr fun n s => listP (one n) most n s :=
 h1.bind fun a => (⟨fun n m s h => lsP_le h1 most n m n m [a] s h h, fun n s b s' h => lsP_us (fun s a s' h => h1.us n s a s' h) most n [a] s b s' h, fun s => lsP_tot h1 most _ [a] s (Nat.le_refl _)⟩ : Rdr fun n s => lsP (one n) most n [a] s)
theorem Rdr.encl {α : Type} {one : Nat → PS → RX α} (h1 : Rdr one) (most : Nat) : Rdr fun n s => enclP (one n) most n s :=
 (Rdr.need [40]).bind fun _ => (h1.list most).bind fun l => (Rdr.need [41]).bind fun _ => Rdr.ret l
section
variable (isName : List Nat → Bool)
theorem Rdr.whole : Rdr fun n s => wholeP isName n s := by
 refine (Rdr.px isName).bind fun e => ⟨fun _ _ _ _ => MoreR.refl _, fun n s a s' h => ?_, fun s => ⟨0, _, rfl⟩⟩
 have := (retR_ok h).2
 rw [← this]
 exact Nat.le_refl _
theorem Rdr.whr : Rdr fun n s => whereP isName n s := Rdr.ite (atP wWhere) (Rdr.whole isName).next (Rdr.ret zE)
theorem Rdr.als : Rdr fun _ s => aliasP isName s := Rdr.ite (atP wAs) (Rdr.name isName).next (Rdr.ret [])
theorem Rdr.type : Rdr fun _ s => typeP s := Rdr.ite (atP wInt) (Rdr.ret 2).next (Rdr.ite (atP wReal) (Rdr.ret 3).next (Rdr.ite (atP wBool) (Rdr.ret 1).next ((Rdr.need wText).bind fun _ => Rdr.ret 4)))
theorem Rdr.col : Rdr fun _ s => colP isName s := (Rdr.name isName).bind fun c => Rdr.type.bind fun t => Rdr.ite (atP wNot) (((Rdr.need wNull).bind fun _ => Rdr.ret (⟨c, t, true⟩ : Co)).next) (Rdr.ret (⟨c, t, false⟩ : Co))
theorem Rdr.item : Rdr fun n s => itemP isName n s := (Rdr.whole isName).bind fun e => (Rdr.als isName).bind fun a => Rdr.ret (⟨e, a⟩ : Ite)
theorem Rdr.source : Rdr fun _ s => sourceP isName s := (Rdr.name isName).bind fun t => (Rdr.als isName).bind fun a => Rdr.ret (⟨t, a, zE⟩ : Src)
theorem Rdr.set : Rdr fun n s => setP isName n s := (Rdr.name isName).bind fun c => (Rdr.need [61]).bind fun _ => (Rdr.whole isName).bind fun e => Rdr.ret (⟨c, e⟩ : Se)
theorem Rdr.drop : Rdr fun _ s => dropP isName s := Rdr.ite (atP wTable) ((Rdr.name isName).bind fun t => Rdr.ret ({ kind := 2, table := t } : Stm)).next ((Rdr.need wIndex).bind fun _ => (Rdr.name isName).bind fun i => Rdr.ret ({ kind := 4, index := i } : Stm))
theorem Rdr.insert : Rdr fun n s => insertP isName n s := (Rdr.need wInto).bind fun _ => (Rdr.name isName).bind fun t => (Rdr.need wValues).bind fun _ => (((Rdr.whole isName).encl 50).list 50).bind fun r => Rdr.ret ({ kind := 5, table := t, rows := r } : Stm)
theorem Rdr.items : Rdr fun n s => itemsP isName n s := Rdr.ite (atP [42]) (Rdr.ret []).next ((Rdr.item isName).list 50)
theorem Rdr.update : Rdr fun n s => updateP isName n s := (Rdr.name isName).bind fun t => (Rdr.need wSet).bind fun _ => ((Rdr.set isName).list 50).bind fun x => (Rdr.whr isName).bind fun w => Rdr.ret ({ kind := 7, table := t, sets := x, whr := w } : Stm)
theorem Rdr.delete : Rdr fun n s => deleteP isName n s := (Rdr.need wFrom).bind fun _ => (Rdr.name isName).bind fun t => (Rdr.whr isName).bind fun w => Rdr.ret ({ kind := 8, table := t, whr := w } : Stm)
end
theorem Rdr.got {α : Type} (w : List Nat) {f : Bool → Nat → PS → RX α} (hf : ∀ b, Rdr (f b)) : Rdr fun n s => f (gotP w s).1 n (gotP w s).2 := by
 have hl : ∀ s, (gotP w s).2.rest.length ≤ s.rest.length := fun s => by
  unfold gotP
  split
  ·exact next_le s
  ·exact Nat.le_refl _
 exact ⟨fun n m s h => (hf _).le n m _ h, fun n s a s' h => Nat.le_trans ((hf _).us _ _ _ _ h) (hl s), fun s => (hf _).tot _⟩
section
variable (isName : List Nat → Bool)
theorem Rdr.sort : Rdr fun n s => sortP isName n s := (Rdr.whole isName).bind fun e => Rdr.got wDesc (f := fun b _ s => retR (⟨e, b⟩ : Srt) s) fun b => Rdr.ret (⟨e, b⟩ : Srt)
theorem Rdr.order : Rdr fun n s => orderP isName n s := Rdr.ite (atP wOrder) ((Rdr.need wBy).bind fun _ => (Rdr.sort isName).list 50).next (Rdr.ret [])
theorem Rdr.create : Rdr fun n s => createP isName n s := by
 have hc : Rdr fun n s => enclP (colP isName) 16 n s := (Rdr.col isName).encl 16
 have hn : Rdr fun n s => enclP (nameP isName) 4 n s := (Rdr.name isName).encl 4
 exact Rdr.ite (atP wTable) ((Rdr.name isName).bind fun t => hc.bind fun c => Rdr.ret ({ kind := 1, table := t, cols := c } : Stm)).next
  (Rdr.got wUnique (f := fun b n s => bindR (needP wIndex s) fun _ s1 => bindR (nameP isName s1) fun i s2 => bindR (needP wOn s2) fun _ s3 => bindR (nameP isName s3) fun t s4 => bindR (enclP (nameP isName) 4 n s4) fun c s5 => retR ({ kind := 3, table := t, index := i, names := c, uniq := b } : Stm) s5)
   fun b => (Rdr.need wIndex).bind fun _ => (Rdr.name isName).bind fun i => (Rdr.need wOn).bind fun _ => (Rdr.name isName).bind fun t => hn.bind fun c => Rdr.ret ({ kind := 3, table := t, index := i, names := c, uniq := b } : Stm))
def moreSrc (n : Nat) (s : PS) : RX Src := bindR (needP wJoin (gotP wInner s).2) fun _ s1 => bindR (sourceP isName s1) fun x s2 => bindR (needP wOn s2) fun _ s3 => bindR (wholeP isName n s3) fun e s4 => retR { x with on_ := e } s4
theorem bindR_assoc {α β γ : Type} (x : RX α) (f : α → PS → RX β) (g : β → PS → RX γ) : bindR (bindR x f) g = bindR x fun a s => bindR (f a s) g := by
 unfold bindR
 match x with
 | none => rfl
 | some (.error e) => rfl
 | some (.ok (a, s)) => rfl
theorem bindR_ret {α β : Type} (a : α) (s : PS) (g : α → PS → RX β) : bindR (retR a s) g = g a s := rfl
theorem sourcesP_eq (n m : Nat) (acc : List Src) (s : PS) : sourcesP isName n (m + 1) acc s = if atP wInner s = true ∨ atP wJoin s = true then (if acc.length < 4 then bindR (moreSrc isName n s) fun x s1 => sourcesP isName n m (acc ++ [x]) s1 else failR 151) else retR acc s := by
 rw [sourcesP]
 unfold moreSrc
 simp only [bindR_assoc, bindR_ret]
theorem Rdr.moreSrc : Rdr fun n s => moreSrc isName n s := by
 have h : Rdr fun n s => bindR (needP wJoin s) fun _ s1 => bindR (sourceP isName s1) fun x s2 => bindR (needP wOn s2) fun _ s3 => bindR (wholeP isName n s3) fun e s4 => retR ({ x with on_ := e } : Src) s4 :=
  (Rdr.need wJoin).bind fun _ => (Rdr.source isName).bind fun x => (Rdr.need wOn).bind fun _ => (Rdr.whole isName).bind fun e => Rdr.ret ({ x with on_ := e } : Src)
 exact Rdr.got wInner (f := fun _ n s => bindR (needP wJoin s) fun _ s1 => bindR (sourceP isName s1) fun x s2 => bindR (needP wOn s2) fun _ s3 => bindR (wholeP isName n s3) fun e s4 => retR ({ x with on_ := e } : Src) s4) fun _ => h
theorem moreSrc_less {n : Nat} {s s' : PS} {x : Src} (h : moreSrc isName n s = some (.ok (x, s'))) : s'.rest.length < s.rest.length := by
 unfold moreSrc at h
 obtain ⟨u, s1, h1, h2⟩ := bindR_ok h
 obtain ⟨c, rfl⟩ := needP_ok h1
 have l1 := atP_len c
 have hg : (gotP wInner s).2.rest.length ≤ s.rest.length := by
  unfold gotP
  split
  ·exact next_le s
  ·exact Nat.le_refl _
 have l2 := ((Rdr.source isName).bind fun y => (Rdr.need wOn).bind fun _ => (Rdr.whole isName).bind fun e => Rdr.ret ({ y with on_ := e } : Src)).us n _ _ _ h2
 omega
theorem sourcesP_le : ∀ (a b k l : Nat) (acc : List Src) (s : PS), a ≤ b → k ≤ l → MoreR (sourcesP isName k a acc s) (sourcesP isName l b acc s)
 | 0, b, k, l, acc, s, _, _ => fun r h => by rw [sourcesP] at h; cases h
 | a + 1, 0, k, l, acc, s, h, _ => by omega
 | a + 1, b + 1, k, l, acc, s, h, hk => by
  rw [sourcesP_eq, sourcesP_eq]
  exact MoreR.ite (MoreR.ite (((Rdr.moreSrc isName).le k l s hk).bind fun x s1 => sourcesP_le a b k l _ s1 (by omega) hk) (MoreR.refl _)) (MoreR.refl _)
theorem sourcesP_us : ∀ (a n : Nat) (acc : List Src) (s : PS) (b : List Src) (s' : PS), sourcesP isName n a acc s = some (.ok (b, s')) → s'.rest.length ≤ s.rest.length
 | 0, n, acc, s, b, s', h => by rw [sourcesP] at h; cases h
 | a + 1, n, acc, s, b, s', h => by
  rw [sourcesP_eq] at h
  rcases ite_or h with ⟨-, h⟩ | ⟨-, h⟩
  ·rcases ite_or h with ⟨-, h⟩ | ⟨-, h⟩
   ·obtain ⟨x, s1, h2, h3⟩ := bindR_ok h
    have := sourcesP_us a n _ _ _ _ h3
    have := moreSrc_less isName h2
    omega
   ·cases h
  ·rw [(retR_ok h).2]; exact Nat.le_refl _
theorem sourcesP_tot : ∀ (L : Nat) (acc : List Src) (s : PS), s.rest.length ≤ L → ∃ n r, sourcesP isName n n acc s = some r := by
 intro L
 induction L with
 | zero =>
  intro acc s hs
  refine ⟨1, .ok (acc, s), ?_⟩
  rw [sourcesP_eq, if_neg (fun c => by rcases c with c | c <;> (have := atP_len c; omega))]
  rfl
 | succ L ih =>
  intro acc s hs
  by_cases c : atP wInner s = true ∨ atP wJoin s = true
  ·by_cases c2 : acc.length < 4
   ·obtain ⟨n, r, hr⟩ := tot_bind (x := fun n => moreSrc isName n s) (g := fun n x s1 => sourcesP isName n n (acc ++ [x]) s1) (fun n m h => (Rdr.moreSrc isName).le n m _ h) (fun n m a s h => sourcesP_le isName n m n m _ s h h) ((Rdr.moreSrc isName).tot _) (fun n x s1 h => by
     have := moreSrc_less isName h
     exact ih _ s1 (by omega))
    have hm := sourcesP_le isName (n + 1) (n + 1) n (n + 1) acc s (Nat.le_refl _) (by omega)
    exact ⟨n + 1, r, hm _ (by rw [sourcesP_eq, if_pos c, if_pos c2]; exact hr)⟩
   ·exact ⟨1, .error 151, by rw [sourcesP_eq, if_pos c, if_neg c2]; rfl⟩
  ·exact ⟨1, .ok (acc, s), by rw [sourcesP_eq, if_neg c]; rfl⟩
theorem Rdr.sources (f : Src) : Rdr fun n s => sourcesP isName n n [f] s := ⟨fun n m s h => sourcesP_le isName n m n m _ s h h, fun n s b s' h => sourcesP_us isName n n _ s b s' h, fun s => sourcesP_tot isName _ _ s (Nat.le_refl _)⟩
theorem Rdr.query : Rdr fun n s => queryP isName n s := (Rdr.items isName).bind fun i => (Rdr.need wFrom).bind fun _ => (Rdr.source isName).bind fun f => (Rdr.sources isName f).bind fun fs => (Rdr.whr isName).bind fun w => (Rdr.order isName).bind fun o =>
 Rdr.ret ({ kind := 6, items := i, src := fs, whr := w, order := o } : Stm)
theorem Rdr.stmt : Rdr fun n s => stmtP isName n s :=
 Rdr.ite (atP wCreate) (Rdr.create isName).next (Rdr.ite (atP wDrop) (Rdr.drop isName).next (Rdr.ite (atP wInsert) (Rdr.insert isName).next (Rdr.ite (atP wSelect) (Rdr.query isName).next (Rdr.ite (atP wUpdate) (Rdr.update isName).next (Rdr.ite (atP wDelete) (Rdr.delete isName).next
  (Rdr.ite (atP wBegin) (Rdr.ret ({ kind := 9 } : Stm)).next (Rdr.ite (atP wCommit) (Rdr.ret ({ kind := 10 } : Stm)).next ((Rdr.need wRollback).bind fun _ => Rdr.ret ({ kind := 11 } : Stm)))))))))
theorem parseP_tot (ts : List Tk) : ∃ n r, parseP isName n ts = some r := by
 obtain ⟨n, r, h⟩ := (Rdr.stmt isName).tot ⟨ts, 0, 0⟩
 refine ⟨n, ?_⟩
 unfold parseP
 rw [h]
 match r with
 | .error e => exact ⟨_, rfl⟩
 | .ok (st, s) =>
  dsimp only
  by_cases c : s.rest = []
  ·rw [if_pos c]
   by_cases c2 : s.deep ≤ 40
   ·rw [if_pos c2]; exact ⟨_, rfl⟩
   ·rw [if_neg c2]; exact ⟨_, rfl⟩
  ·rw [if_neg c]; exact ⟨_, rfl⟩
end
end Go.Proofs.YtofnkfjhmjecjaaGreatDoor

namespace Go.Proofs.YtofnkfjhmjecjaaGreatDoor
set_option maxRecDepth 100000
open Go.RowKit Go.Joins Go.ChangeShapes Go.WideShapes
set_option linter.unusedVariables false
set_option linter.unusedSimpArgs false
structure Rd (w : World) (rd b off cap : Nat) (l : List Nat) : Prop where
 hd : w.heap[rd]? = some (.cells #[.slice (some ⟨b, off, none⟩) l.length cap] 80 (0, 0))
 is : IsB w b off l
 cp : l.length ≤ cap
 sz : cap ≤ maxLen
 ln : l.length ≤ 4294967296
 ne : rd ≠ b
theorem Rd.below {w w1 : World} {rd b off cap : Nat} {l : List Nat} (h : Rd w rd b off cap l) (hb : Below w.heap.size w w1) : Rd w1 rd b off cap l :=
 ⟨(hb.block _ (Array.getElem?_eq_some_iff.1 h.hd).1).trans h.hd, h.is.below hb, h.cp, h.sz, h.ln, h.ne⟩
theorem Rd.moved {w : World} {rd b off cap : Nat} {l : List Nat} (h : Rd w rd b off cap l) (n off' cap' : Nat) (ho : off' = off + n ∨ l.length ≤ n) (hc : l.length - n ≤ cap') (hc2 : cap' ≤ cap) :
  Rd (w.setCell ⟨rd, 0, none⟩ (.slice (some ⟨b, off', none⟩) (l.length - n) cap')) rd b off' cap' (l.drop n) ∧ Frm (fun k => k = rd) w (w.setCell ⟨rd, 0, none⟩ (.slice (some ⟨b, off', none⟩) (l.length - n) cap')) := by
 have hlen : (l.drop n).length = l.length - n := List.length_drop
 have hf : Frm (fun k => k = rd) w (w.setCell ⟨rd, 0, none⟩ (.slice (some ⟨b, off', none⟩) (l.length - n) cap')) := Frm.set1 (F := fun k => k = rd) w rfl 0 _
 have hi : IsB w b off' (l.drop n) := by
  rcases ho with rfl | ho
  ·exact h.is.drop n
  ·rw [List.drop_eq_nil_of_le ho]
   exact ⟨fun h => absurd h (by simp), fun i x hx => by simp at hx, fun x hx => by simp at hx⟩
 exact ⟨⟨by rw [hlen, setCell_eq_setRow w rd 0 _ _ _ _ h.hd, setRow_heap w rd _ _ _ _ h.hd]; rfl, hf.isB hi (fun _ e => h.ne e.symm), by rw [hlen]; exact hc, Nat.le_trans hc2 h.sz, by rw [hlen]; have := h.ln; omega, h.ne⟩, hf⟩
set_option maxHeartbeats 1000000 in
theorem take_any {w : World} {rd b off cap : Nat} {l : List Nat} (h : Rd w rd b off cap l) (n : Nat) (hn : n ≤ l.length) :
  Calls Tryz.prog 94 #[.pointer (some ⟨rd, 0, none⟩), .int .i64 n] w fun e w' => e = .returned (.slice (some ⟨b, off, none⟩) n cap) ∧ ∃ off' cap', Rd w' rd b off' cap' (l.drop n) ∧ Frm (fun k => k = rd) w w' := by
 generalize hP : (fun (e : Ending) (w' : World) => e = .returned (.slice (some ⟨b, off, none⟩) n cap) ∧ ∃ off' cap', Rd w' rd b off' cap' (l.drop n) ∧ Frm (fun k => k = rd) w w') = P
 have hcp := h.cp
 have HF := Lib.hid (show P (.returned (.slice (some ⟨b, off, none⟩) n cap)) (w.setCell ⟨rd, 0, none⟩ (.slice (some ⟨b, off + n, none⟩) (l.length - n) (cap - n))) by
  rw [← hP]
  obtain ⟨h1, h2⟩ := h.moved n (off + n) (cap - n) (.inl rfl) (by omega) (by omega)
  exact ⟨rfl, _, _, h1, h2⟩)
 have HF2 := Lib.hid (show cap = n → P (.returned (.slice (some ⟨b, off, none⟩) n n)) (w.setCell ⟨rd, 0, none⟩ (.slice (some ⟨b, off, none⟩) (l.length - n) 0)) by
  intro e
  rw [← hP]
  obtain ⟨h1, h2⟩ := h.moved n off 0 (.inr (by omega)) (by omega) (by omega)
  exact ⟨by rw [e], _, _, h1, h2⟩)
 have c0 : w.cell? ⟨rd, 0, none⟩ = some (.slice (some ⟨b, off, none⟩) l.length cap) := by rw [cell_of_block h.hd]; rfl
 have f0 := unfrozen_of_block h.hd 0
 have hs := h.sz
 obtain ⟨m, hm⟩ : ∃ m, l.length = m := ⟨_, rfl⟩
 rw [hm] at c0 hcp hn HF HF2
 have k1 : (n : Int) ≤ (cap : Int) := by omega
 have k2 : (n : Int) ≤ (m : Int) := by omega
 have k3 : (m : Int) ≤ (cap : Int) := by omega
 clear hP h hm
 go_enter Tryz.func94, Tryz.ntmps94
 go_wp2_with fail
 all_goals first | exact HF.out | exact HF2.out (by assumption)
set_option maxHeartbeats 1000000 in
theorem pass_any {g : Nat} {f : Nat → Bool} (hg : Sort8 g f) (henter : ∀ args w, (callFunc g args).run Tryz.prog w = .ok (.enter g args) w) {w : World} {rd b off cap : Nat} {l : List Nat} (h : Rd w rd b off cap l) :
  Calls Tryz.prog 35 #[.pointer (some ⟨rd, 0, none⟩), .func (.func g) #[] #[]] w fun e w' => e = .returned (.slice (some ⟨b, off, none⟩) (runL f l) cap) ∧ ∃ off' cap', Rd w' rd b off' cap' (l.drop (runL f l)) ∧ Frm (fun k => k = rd) w w' := by
 generalize hP : (fun (e : Ending) (w' : World) => e = .returned (.slice (some ⟨b, off, none⟩) (runL f l) cap) ∧ ∃ off' cap', Rd w' rd b off' cap' (l.drop (runL f l)) ∧ Frm (fun k => k = rd) w w') = P
 have HP := Lib.hid hP
 have hcp := h.cp
 have hsz := h.ln
 have HR := Lib.hid (run_any hg henter w (some ⟨b, off, none⟩) b off cap l (.inr rfl) h.is (by omega))
 have HT := Lib.hid (fun (wx : World) (hb : Below w.heap.size w wx) => take_any (h.below hb) (runL f l) (runL_le f l))
 have c0 : w.cell? ⟨rd, 0, none⟩ = some (.slice (some ⟨b, off, none⟩) l.length cap) := by rw [cell_of_block h.hd]; rfl
 clear hP h
 go_enter Tryz.func35, Tryz.ntmps35
 go_wp2_with fail
 refine HR.out.mono ?_
 rintro e w1 ⟨rfl, b1⟩
 have HT1 := Lib.hid (HT.out w1 b1)
 have B1 := Lib.hid b1
 clear b1
 go_wp2_with fail
 refine HT1.out.mono ?_
 rintro e w2 ⟨rfl, off', cap', h2, f2⟩
 have HX := Lib.hid (show P (.returned (.slice (some ⟨b, off, none⟩) (runL f l) cap)) w2 by
  rw [← HP.out]
  exact ⟨rfl, off', cap', h2, (Frm.of_below (F := fun k => k = rd) B1.out).trans f2 (New.refl _ _)⟩)
 clear h2 f2
 go_wp2_with fail
 exact HX.out
end Go.Proofs.YtofnkfjhmjecjaaGreatDoor

namespace Go.Proofs.YtofnkfjhmjecjaaGreatDoor
set_option maxRecDepth 100000
open Go.RowKit Go.Joins Go.ChangeShapes Go.WideShapes
set_option linter.unusedVariables false
set_option linter.unusedSimpArgs false
def resW : List (List UInt8) := [[97, 110, 100], [97, 115], [98, 101, 103, 105, 110], [98, 111, 111, 108], [98, 121], [99, 111, 109, 109, 105, 116], [99, 114, 101, 97, 116, 101], [100, 101, 108, 101, 116, 101], [100, 101, 115, 99], [100, 114, 111, 112], [102, 97, 108, 115, 101], [102, 114, 111, 109], [105, 110, 100, 101, 120], [105, 110, 102, 105, 110, 105, 116, 121], [105, 110, 110, 101, 114], [105, 110, 115, 101, 114, 116], [105, 110, 116], [105, 110, 116, 111], [105, 115], [106, 111, 105, 110], [110, 97, 110], [110, 111, 116], [110, 117, 108, 108], [111, 110], [111, 114], [111, 114, 100, 101, 114], [114, 101, 97, 108], [114, 111, 108, 108, 98, 97, 99, 107], [115, 101, 108, 101, 99, 116], [115, 101, 116], [116, 97, 98, 108, 101], [116, 101, 120, 116], [116, 114, 117, 101], [117, 110, 105, 113, 117, 101], [117, 112, 100, 97, 116, 101], [118, 97, 108, 117, 101, 115], [119, 104, 101, 114, 101]]
def resB (s : ByteArray) : Bool := resW.any fun x => s.toList == x
set_option maxHeartbeats 4000000 in
theorem res_any (s : ByteArray) (w : World) : Calls Tryz.prog 142 #[.string s] w fun e w' => e = .returned (.bool (resB s)) ∧ w = w' := by
 obtain ⟨r, hr⟩ : ∃ r, resB s = r := ⟨_, rfl⟩
 rw [hr]
 have HR := Lib.hid hr
 clear hr
 go_enter Tryz.func142, Tryz.ntmps142
 go_wp2
 all_goals
  have hr := HR.out
  unfold resB resW at hr
  first
   | (exfalso; simp_all; done)
   | (go_ret; refine ⟨?_, rfl⟩; simp only [List.any_cons, List.any_nil, *, Bool.false_or, Bool.true_or, Bool.or_true, Bool.or_false] at hr; subst hr; rfl)
def smI (c : Nat) : Nat := if 65 ≤ c ∧ c ≤ 90 then c + 32 else c
def ltL (c : Nat) : Bool := c == 95 || (decide (97 ≤ smI c) && decide (smI c ≤ 122))
set_option maxHeartbeats 1000000 in
theorem rdigit_any : Sort8 119 dgL := by
 intro c w hc
 have e1 : decide ((48 : Int) ≤ (c : Int)) = decide (48 ≤ c) := lei 48 c
 have e2 : decide ((c : Int) ≤ (57 : Int)) = decide (c ≤ 57) := lei c 57
 unfold dgL
 cases h1 : decide (48 ≤ c) <;> cases h2 : decide (c ≤ 57) <;> rw [h1] at e1 <;> rw [h2] at e2 <;> clear h1 h2
 all_goals
  go_enter Tryz.func119, Tryz.ntmps119
  go_wp2
  go_ret
  exact ⟨rfl, rfl⟩
set_option maxHeartbeats 1000000 in
theorem rsmall_any (c : Nat) (hc : c < 256) (w : World) : Calls Tryz.prog 120 #[.int .u8 (c : Int)] w fun e w' => e = .returned (.int .u8 (smI c : Nat)) ∧ w = w' := by
 have e1 : decide ((65 : Int) ≤ (c : Int)) = decide (65 ≤ c) := lei 65 c
 have e2 : decide ((c : Int) ≤ (90 : Int)) = decide (c ≤ 90) := lei c 90
 by_cases h1 : 65 ≤ c
 ·by_cases h2 : c ≤ 90
  ·have hs : smI c = c + 32 := by unfold smI; rw [if_pos ⟨h1, h2⟩]
   rw [decide_eq_true h1] at e1
   rw [decide_eq_true h2] at e2
   have e3 : IntKind.u8.wrap ((c : Int) + 32) = ((c + 32 : Nat) : Int) := by rw [IntKind.wrap_u8]; omega
   rw [hs]
   clear hs
   go_enter Tryz.func120, Tryz.ntmps120
   go_wp2
   go_ret
   exact ⟨by simp, rfl⟩
  ·have hs : smI c = c := by unfold smI; rw [if_neg (fun h => h2 h.2)]
   rw [decide_eq_true h1] at e1
   rw [decide_eq_false h2] at e2
   rw [hs]
   clear hs
   go_enter Tryz.func120, Tryz.ntmps120
   go_wp2
   go_ret
   exact ⟨rfl, rfl⟩
 ·have hs : smI c = c := by unfold smI; rw [if_neg (fun h => h1 h.1)]
  rw [decide_eq_false h1] at e1
  rw [hs]
  clear hs
  go_enter Tryz.func120, Tryz.ntmps120
  go_wp2
  go_ret
  exact ⟨rfl, rfl⟩
set_option maxHeartbeats 2000000 in
theorem rletter_any : Sort8 117 ltL := by
 intro c w hc
 have HS := Lib.hid (rsmall_any c hc w)
 have e1 : ((c : Int) == (95 : Int)) = (c == 95) := eqi c 95
 obtain ⟨d, hd⟩ : ∃ d, smI c = d := ⟨_, rfl⟩
 unfold ltL
 rw [hd] at HS ⊢
 have e2 : decide ((97 : Int) ≤ (d : Int)) = decide (97 ≤ d) := lei 97 d
 have e3 : decide ((d : Int) ≤ (122 : Int)) = decide (d ≤ 122) := lei d 122
 cases h1 : (c == 95) <;> cases h2 : decide (97 ≤ d) <;> cases h3 : decide (d ≤ 122) <;> rw [h1] at e1 <;> rw [h2] at e2 <;> rw [h3] at e3 <;> clear h1 h2 h3 hd
 all_goals
  go_enter Tryz.func117, Tryz.ntmps117
  go_wp2_with (first | (go_at_call 120; refine HS.out.mono ?_; rintro e w' ⟨rfl, rfl⟩))
  go_ret
  exact ⟨rfl, rfl⟩
theorem ltL_eq (c : Nat) : ltL c = bwL c := by
 unfold ltL bwL smL cpL smI
 by_cases h : 65 ≤ c ∧ c ≤ 90
 ·rw [if_pos h]
  have h1 : decide (97 ≤ c + 32) = true := by simp; omega
  have h2 : decide (c + 32 ≤ 122) = true := by simp; omega
  have h3 : decide (65 ≤ c) = true := by simpa using h.1
  have h4 : decide (c ≤ 90) = true := by simpa using h.2
  rw [h1, h2, h3, h4]
  simp
 ·rw [if_neg h]
  have h3 : (decide (65 ≤ c) && decide (c ≤ 90)) = false := by
   by_cases a : 65 ≤ c
   ·have : ¬ c ≤ 90 := fun b => h ⟨a, b⟩
    simp [this]
   ·simp [a]
  rw [h3]
  cases (c == 95) <;> cases (decide (97 ≤ c) && decide (c ≤ 122)) <;> rfl
end Go.Proofs.YtofnkfjhmjecjaaGreatDoor

namespace Go.Proofs.YtofnkfjhmjecjaaGreatDoor
set_option maxRecDepth 100000
open Go.RowKit Go.Joins Go.ChangeShapes Go.WideShapes
set_option linter.unusedVariables false
set_option linter.unusedSimpArgs false
theorem conv_b (s : ByteArray) (w : World) (hs : s.size ≤ maxLen) : ∃ cap w1, (convert 9 78 (.string s)).run Tryz.prog w = .ok (.slice (some ⟨w.heap.size, 0, none⟩) s.size cap) w1 ∧ s.size ≤ cap ∧ cap ≤ maxLen ∧ w1.heap.size = w.heap.size + 1 ∧ Below w.heap.size w w1 ∧ IsB w1 w.heap.size 0 (sl s) := by
 refine ⟨grownCap w s.size 0 5, Lib.bytesWorld w 5 s, Lib.run_convert_string_bytes w 9 78 5 s Tryz.underlying9 Tryz.underlying78 Tryz.underlying5, grownCap_ge _ _ _ _, grownCap_le_maxLen _ _ _ _ hs, Lib.bytesWorld_size _ _ _, ⟨rfl, rfl, rfl, by rw [Lib.bytesWorld_size]; omega, fun k hk => Lib.bytesWorld_at_old w _ s k hk⟩, ⟨fun _ => by rw [Lib.bytesWorld_size]; omega, fun i x hx => ?_, sl_lt s⟩⟩
 have hi : i < s.size := by rw [← sl_length]; exact (List.getElem?_eq_some_iff.1 hx).1
 rw [Nat.zero_add, Lib.bytesWorld_cell w _ s i hi]
 unfold sl at hx
 rw [List.getElem?_map] at hx
 rw [List.getD_eq_getElem?_getD]
 cases e : s.data.toList[i]? with
 | none => rw [e] at hx; cases hx
 | some b => rw [e] at hx; injection hx with hx; rw [← hx]; rfl
def nameB (s : ByteArray) : Bool := !(s.size == 0) && decide (s.size ≤ 32) && bwL ((sl s).headD 0) && !resB s && runL inL (sl s) == s.size
theorem sl_head {s : ByteArray} (h : 0 < s.size) : (sl s).headD 0 = s[0].toNat := by
 unfold sl
 have : 0 < s.data.toList.length := by simpa using h
 rw [List.headD_eq_head?_getD, List.head?_map, List.head?_eq_getElem?, List.getElem?_eq_getElem this]
 rfl
set_option maxHeartbeats 4000000 in
theorem name_any (s : ByteArray) (w : World) : Calls Tryz.prog 75 #[.string s] w fun e w' => e = .returned (.bool (nameB s)) ∧ Below w.heap.size w w' := by
 obtain ⟨r, hr⟩ : ∃ r, nameB s = r := ⟨_, rfl⟩
 rw [hr]
 have HN := Lib.hid hr
 have HR := Lib.hid (res_any s w)
 have HB := Lib.hid (begins_any)
 have hl := sl_head (s := s)
 have HL := Lib.hid hl
 clear hl hr
 go_enter Tryz.func75, Tryz.ntmps75
 by_cases c0 : s.size = 0
 ·have e0 : s = ByteArray.empty := ByteArray.ext (Array.eq_empty_of_size_eq_zero c0)
  subst e0
  have hr := HN.out
  have : nameB ByteArray.empty = false := rfl
  rw [this] at hr
  subst hr
  go_wp2_with fail
  go_ret
  exact ⟨rfl, Below.refl _ _⟩
 have hp : 0 < s.size := by omega
 have hb := HL.out hp
 generalize hx : s[0].toNat = x at *
 have hx8 : x < 256 := by rw [← hx]; exact s[0].toNat_lt
 have HB1 := Lib.hid (HB.out x w hx8)
 by_cases c1 : s.size ≤ 32
 ·cases c2 : bwL x with
  | false =>
   rw [c2] at HB1
   have hr := HN.out
   have : nameB s = false := by unfold nameB; rw [hb, c2]; simp
   rw [this] at hr
   subst hr
   go_wp2_with (first | (go_at_call 96; refine HB1.out.mono ?_; rintro e w' ⟨rfl, rfl⟩))
   go_ret
   exact ⟨rfl, Below.refl _ _⟩
  | true =>
   rw [c2] at HB1
   cases c3 : resB s with
   | true =>
    rw [c3] at HR
    have hr := HN.out
    have : nameB s = false := by unfold nameB; rw [c3]; simp
    rw [this] at hr
    subst hr
    go_wp2_with (first | (go_at_call 96; refine HB1.out.mono ?_; rintro e w' ⟨rfl, rfl⟩) | (go_at_call 142; refine HR.out.mono ?_; rintro e w' ⟨rfl, rfl⟩))
    go_ret
    exact ⟨rfl, Below.refl _ _⟩
   | false =>
    rw [c3] at HR
    obtain ⟨cap, w1, hc, _, _, _, b1, is1⟩ := conv_b s w (Nat.le_trans c1 (by decide))
    have HG := Lib.hid (run_any inname_any (enters_of Tryz.func143 (by kernel_rfl) rfl) w1 (some ⟨w.heap.size, 0, none⟩) w.heap.size 0 cap (sl s) (.inr rfl) is1 (by rw [sl_length]; omega))
    rw [sl_length] at HG
    have B1 := Lib.hid b1
    have hr := HN.out
    have : nameB s = (runL inL (sl s) == s.size) := by unfold nameB; rw [hb, c2, c3, decide_eq_true c1]; simp [c0]
    rw [this] at hr
    have HE := Lib.hid (show ((runL inL (sl s) : Int) == (s.size : Int)) = r by rw [← hr]; exact eqi _ _)
    clear b1 is1 hr this
    generalize runL inL (sl s) = q at HG HE
    go_wp2_with (first | (go_at_call 96; refine HB1.out.mono ?_; rintro e w' ⟨rfl, rfl⟩) | (go_at_call 142; refine HR.out.mono ?_; rintro e w' ⟨rfl, rfl⟩) | (go_at_call 95; refine HG.out.mono ?_; rintro e w' ⟨rfl, b2⟩))
    ·exfalso
     rename_i _ q2
     rcases q2 with h | h
     ·exact c0 (by have := eq_of_beq h; omega)
     ·omega
    ·rename_i b2
     go_ret
     exact ⟨by rw [HE.out]; rfl, B1.out.trans (b2.mono B1.out.size)⟩
 ·have hr := HN.out
  have : nameB s = false := by unfold nameB; rw [decide_eq_false c1]; simp
  rw [this] at hr
  subst hr
  go_wp2_with fail
  go_ret
  exact ⟨rfl, Below.refl _ _⟩
end Go.Proofs.YtofnkfjhmjecjaaGreatDoor

namespace Go.Proofs.YtofnkfjhmjecjaaGreatDoor
set_option maxRecDepth 100000
open Go.RowKit Go.Joins Go.ChangeShapes Go.WideShapes
set_option linter.unusedVariables false
set_option linter.unusedSimpArgs false
def ibRen : Go.Shelf.Ren where
 f := fun x => match x with
  | 137 => 191
  | 217 => 208
  | 266 => 223
  | n => n
 t := fun x => match x with
  | 3 => 3
  | 5 => 5
  | 9 => 9
  | n => n
 g := fun x => x
theorem ibLays : Go.Proofs.Lays.n137 Tryz.prog ibRen :=
  { mixed := by kernel_rfl, f137 := Eq.trans Tryz.func191 (congrArg some rfl), f217 := Eq.trans Tryz.func208 (congrArg some rfl), f266 := Eq.trans Tryz.func223 (congrArg some rfl),
    t3 := Tryz.underlying3, a3 := Tryz.isAgg3, z3 := Tryz.sizeOf3, v3 := Tryz.zeroValue3,
    t5 := Tryz.underlying5, a5 := Tryz.isAgg5, z5 := Tryz.sizeOf5, v5 := Tryz.zeroValue5,
    t9 := Tryz.underlying9, a9 := Tryz.isAgg9, z9 := Tryz.sizeOf9, v9 := Tryz.zeroValue9 }
theorem ib_any (s : ByteArray) (c : Int) (w : World) : Calls Tryz.prog 191 #[.string s, .int .u8 c] w fun e w' => e = .returned (.int .i64 (Lib.indexByte s.data.toList c.toNat.toUInt8)) ∧ w = w' := by
 refine (Go.Proofs.Any.strings_IndexByte ibLays s c w).mono ?_
 rintro e w' ⟨rfl, rfl⟩
 exact ⟨rfl, rfl⟩
theorem str_b {w : World} {b off : Nat} {l : List Nat} (h : IsB w b off l) (n cap : Nat) (hn : n ≤ l.length) : (convert 78 9 (.slice (some ⟨b, off, none⟩) n cap)).run Tryz.prog w = .ok (.string (strB (l.take n))) w := by
 have hlen : (l.take n).length = n := by rw [List.length_take]; omega
 refine run_convert_bytes_arg w 78 5 Tryz.underlying78 Tryz.underlying5 b off n cap ((l.take n).map fun n : Nat => (n : Int)) (by simpa using hlen) (fun i hi => ?_) 9 Tryz.underlying9
 have hi2 : i < (l.take n).length := by rw [hlen]; exact hi
 have hg : (l.take n)[i]? = some ((l.take n)[i]'hi2) := List.getElem?_eq_getElem hi2
 rw [(h.take n).c i _ hg]
 rw [List.getD_eq_getElem?_getD, List.getElem?_map, hg]
 rfl
theorem u8_eq {c : Nat} (hc : c < 256) (x : UInt8) : UInt8.ofNat c = x ↔ c = x.toNat :=
 ⟨fun h => by rw [← h, UInt8.toNat_ofNat', Nat.mod_eq_of_lt hc], fun h => by rw [h, UInt8.ofNat_toNat]⟩
theorem two_eq {c d : Nat} (hc : c < 256) (hd : d < 256) (x y : UInt8) : ((strB [c, d]).toList == [x, y]) = (c == x.toNat && d == y.toNat) := by
 rw [ByteArray.toList_eq, strB_data, Bool.eq_iff_iff]
 simp only [List.map_cons, List.map_nil, beq_iff_eq, List.cons.injEq, and_true, Bool.and_eq_true]
 rw [u8_eq hc, u8_eq hd]
theorem ib_signs : ∀ c, c < 256 → decide (0 ≤ Lib.indexByte [40, 41, 44, 46, 42, 43, 45, 47, 37, 61, 60, 62] (Nat.toUInt8 c)) = [40, 41, 44, 46, 42, 43, 45, 47, 37, 61, 60, 62].contains c := by
 decide
set_option maxHeartbeats 4000000 in
theorem signsz_any {w : World} {b off cap : Nat} {c d : Nat} {r : List Nat} (h : IsB w b off (c :: d :: r)) (hl : (c :: d :: r).length ≤ cap) :
  Calls Tryz.prog 166 #[.slice (some ⟨b, off, none⟩) (c :: d :: r).length cap] w fun e w' => e = .returned (.int .i64 (signL (c :: d :: r) : Nat)) ∧ w = w' := by
 have hv : (convert 78 9 (.slice (some ⟨b, off, none⟩) 2 cap)).run Tryz.prog w = .ok (.string (strB [c, d])) w := str_b h 2 cap (by simp)
 have d0 : w.cell? ⟨b, off, none⟩ = some (.int .u8 (c : Int)) := h.c 0 c rfl
 have hc : c < 256 := h.lt c (by simp)
 have hd : d < 256 := h.lt d (by simp)
 have t1 := two_eq hc hd 60 62
 have t2 := two_eq hc hd 60 61
 have t3 := two_eq hc hd 62 61
 have t4 := two_eq hc hd 124 124
 have t5 := ib_signs c hc
 have HI := ib_any ⟨#[40, 41, 44, 46, 42, 43, 45, 47, 37, 61, 60, 62]⟩ (c : Int) w
 rw [show ((c : Int)).toNat = c from rfl] at HI
 obtain ⟨n, hn⟩ : ∃ n, (c :: d :: r).length = n := ⟨_, rfl⟩
 obtain ⟨q, hq⟩ : ∃ q, signL (c :: d :: r) = q := ⟨_, rfl⟩
 rw [hn] at hl ⊢
 rw [hq]
 have h2 : 2 ≤ n := by rw [← hn]; simp
 have hq2 : (if ((c == (60 : UInt8).toNat && d == (62 : UInt8).toNat) || (c == (60 : UInt8).toNat && d == (61 : UInt8).toNat) || (c == (62 : UInt8).toNat && d == (61 : UInt8).toNat) || (c == (124 : UInt8).toNat && d == (124 : UInt8).toNat)) = true then 2 else if [40, 41, 44, 46, 42, 43, 45, 47, 37, 61, 60, 62].contains c = true then 1 else 0) = q := hq
 clear hq hn
 generalize Lib.indexByte (⟨#[40, 41, 44, 46, 42, 43, 45, 47, 37, 61, 60, 62]⟩ : ByteArray).data.toList (Nat.toUInt8 c) = u at *
 have t5' : decide (0 ≤ u) = [40, 41, 44, 46, 42, 43, 45, 47, 37, 61, 60, 62].contains c := t5
 clear t5
 generalize (c == (60 : UInt8).toNat && d == (62 : UInt8).toNat) = v1 at *
 generalize (c == (60 : UInt8).toNat && d == (61 : UInt8).toNat) = v2 at *
 generalize (c == (62 : UInt8).toNat && d == (61 : UInt8).toNat) = v3 at *
 generalize (c == (124 : UInt8).toNat && d == (124 : UInt8).toNat) = v4 at *
 generalize [40, 41, 44, 46, 42, 43, 45, 47, 37, 61, 60, 62].contains c = v5 at *
 have HI := Lib.hid HI
 have HQ := Lib.hid hq2
 clear hq2 hc hd h
 have k1 : (1 : Int) < (n : Int) := by omega
 have k2 : (2 : Int) ≤ (cap : Int) := by omega
 cases v1 <;> cases v2 <;> cases v3 <;> cases v4 <;> cases v5
 all_goals
  go_enter Tryz.func166, Tryz.ntmps166
  go_wp2_with (first | (go_at_call 191; refine HI.out.mono ?_; rintro e w' ⟨rfl, rfl⟩))
  go_ret
  exact ⟨ret_i (by rw [← HQ.out]; rfl), rfl⟩
set_option maxHeartbeats 2000000 in
theorem signsz1_any {w : World} {b off cap : Nat} {c : Nat} (h : IsB w b off [c]) (hl : 1 ≤ cap) :
  Calls Tryz.prog 166 #[.slice (some ⟨b, off, none⟩) 1 cap] w fun e w' => e = .returned (.int .i64 (signL [c] : Nat)) ∧ w = w' := by
 have d0 : w.cell? ⟨b, off, none⟩ = some (.int .u8 (c : Int)) := h.c 0 c rfl
 have hc : c < 256 := h.lt c (by simp)
 have t5 := ib_signs c hc
 have HI := ib_any ⟨#[40, 41, 44, 46, 42, 43, 45, 47, 37, 61, 60, 62]⟩ (c : Int) w
 rw [show ((c : Int)).toNat = c from rfl] at HI
 obtain ⟨q, hq⟩ : ∃ q, signL [c] = q := ⟨_, rfl⟩
 rw [hq]
 have hq2 : (if [40, 41, 44, 46, 42, 43, 45, 47, 37, 61, 60, 62].contains c = true then 1 else 0) = q := hq
 clear hq
 generalize Lib.indexByte (⟨#[40, 41, 44, 46, 42, 43, 45, 47, 37, 61, 60, 62]⟩ : ByteArray).data.toList (Nat.toUInt8 c) = u at *
 have t5' : decide (0 ≤ u) = [40, 41, 44, 46, 42, 43, 45, 47, 37, 61, 60, 62].contains c := t5
 clear t5
 generalize [40, 41, 44, 46, 42, 43, 45, 47, 37, 61, 60, 62].contains c = v5 at *
 have HI := Lib.hid HI
 have HQ := Lib.hid hq2
 clear hq2 hc h
 cases v5
 all_goals
  go_enter Tryz.func166, Tryz.ntmps166
  go_wp2_with (first | (go_at_call 191; refine HI.out.mono ?_; rintro e w' ⟨rfl, rfl⟩))
  go_ret
  exact ⟨ret_i (by rw [← HQ.out]; rfl), rfl⟩
theorem signsize_any {w : World} {b off cap : Nat} {l : List Nat} (h : IsB w b off l) (h0 : l ≠ []) (hl : l.length ≤ cap) :
  Calls Tryz.prog 166 #[.slice (some ⟨b, off, none⟩) l.length cap] w fun e w' => e = .returned (.int .i64 (signL l : Nat)) ∧ w = w' := by
 match l with
 | [] => exact absurd rfl h0
 | [c] => exact signsz1_any h hl
 | c :: d :: r => exact signsz_any h hl
end Go.Proofs.YtofnkfjhmjecjaaGreatDoor

namespace Go.Proofs.YtofnkfjhmjecjaaGreatDoor
set_option maxRecDepth 100000
open Go.RowKit Go.Joins Go.ChangeShapes Go.WideShapes
set_option linter.unusedVariables false
set_option linter.unusedSimpArgs false
def Tkv (k : Int) (s : ByteArray) (n sc : Int) : Value := .agg #[.int .i64 k, .string s, .int .i64 n, .int .i64 sc]
def TokP (x : Except Nat (Tk × Nat)) (w : World) (rd b : Nat) (l : List Nat) (e : Ending) (w' : World) : Prop := match x with
 | .error er => e = .returned (.tuple #[Tkv 0 ⟨#[]⟩ 0 0, .int .i64 (er : Int)]) ∧ Frm (fun k => k = rd) w w'
 | .ok (t, k) => e = .returned (.tuple #[Tkv t.kind (strB t.text) t.num t.scale, .int .i64 0]) ∧ ∃ off' cap', Rd w' rd b off' cap' (l.drop k) ∧ Frm (fun k => k = rd) w w'
def sgnE (l : List Nat) : Except Nat (Tk × Nat) := if signL l = 0 then .error 120 else .ok (⟨5, l.take (signL l), 0, 0⟩, signL l)
theorem Rd.frm {F : Bl} {w w1 : World} {rd b off cap : Nat} {l : List Nat} (h : Rd w rd b off cap l) (f : Frm F w w1) (h1 : ¬ F rd) (h2 : ¬ F b) : Rd w1 rd b off cap l :=
 ⟨(f.heap (Array.getElem?_eq_some_iff.1 h.hd).1 h1).trans h.hd, f.isB h.is (fun _ => h2), h.cp, h.sz, h.ln, h.ne⟩
theorem Rd.boxed {w w2 : World} {rd b off' cap' : Nat} {l : List Nat} (f2 : Frm (fun k => k = rd) w w2) (h : Rd w2 rd b off' cap' l) (h1 : rd < w.heap.size) (h2 : b < w.heap.size) (v0 v1 v2 v3 : Value) :
  Rd ((((w2.setCell ⟨w.heap.size, 0, none⟩ v0).setCell ⟨w.heap.size, 1, none⟩ v1).setCell ⟨w.heap.size, 2, none⟩ v2).setCell ⟨w.heap.size, 3, none⟩ v3) rd b off' cap' l ∧
   Frm (fun k => k = rd) w ((((w2.setCell ⟨w.heap.size, 0, none⟩ v0).setCell ⟨w.heap.size, 1, none⟩ v1).setCell ⟨w.heap.size, 2, none⟩ v2).setCell ⟨w.heap.size, 3, none⟩ v3) := by
 refine ⟨h.frm (F := fun k => k = w.heap.size) (((((Frm.refl (fun k => k = w.heap.size) w2).setCell (.inl rfl) 0 v0).setCell (.inl rfl) 1 v1).setCell (.inl rfl) 2 v2).setCell (.inl rfl) 3 v3) (by show ¬ rd = w.heap.size; omega) (by show ¬ b = w.heap.size; omega), ?_⟩
 exact (((f2.setCell (.inr (Nat.le_refl _)) 0 v0).setCell (.inr (Nat.le_refl _)) 1 v1).setCell (.inr (Nat.le_refl _)) 2 v2).setCell (.inr (Nat.le_refl _)) 3 v3
theorem box_set {w : World} {g : Nat} {cs : Array Value} {ty : TypeId} {fz : Nat × Nat} (hb : w.heap[g]? = some (.cells cs ty fz)) (o : Nat) (u : Value) : (w.setCell ⟨g, o, none⟩ u).heap[g]? = some (.cells (cs.setIfInBounds o u) ty fz) := by
 rw [setCell_eq_setRow w g o _ _ _ _ hb, setRow_heap w g _ _ _ _ hb]
theorem box_four {w2 : World} {g : Nat} {u0 u1 u2 u3 : Value} {ty : TypeId} {fz : Nat × Nat} (hb : w2.heap[g]? = some (.cells #[u0, u1, u2, u3] ty fz)) (v0 v1 v2 v3 : Value) :
  ((((w2.setCell ⟨g, 0, none⟩ v0).setCell ⟨g, 1, none⟩ v1).setCell ⟨g, 2, none⟩ v2).setCell ⟨g, 3, none⟩ v3).heap[g]? = some (.cells #[v0, v1, v2, v3] ty fz) :=
 box_set (box_set (box_set (box_set hb 0 v0) 1 v1) 2 v2) 3 v3
theorem tok_ret {R : Ending → World → Prop} {fn : Func} (hr : fn.results = #[.cell 2 84, .tmp 3]) {a : Act} {w : World} {g : Nat} {k n sc er : Int} {s : ByteArray} (hb : w.heap[g]? = some (.cells #[.int .i64 k, .string s, .int .i64 n, .int .i64 sc] 84 (0, 0)))
  (h2 : a.tmps[2]?.getD undef = .pointer (some ⟨g, 0, none⟩)) (h3 : a.tmps[3]?.getD undef = .int .i64 er) (hd : a.defers = []) (hR : R (.returned (.tuple #[Tkv k s n sc, .int .i64 er])) w) : bodyPost Tryz.prog fn R .ret a w := by
 have z0 : w.cell? ⟨g, 0, none⟩ = some (.int .i64 k) := by rw [cell_of_block hb]; rfl
 have z1 : w.cell? ⟨g, 1, none⟩ = some (.string s) := by rw [cell_of_block hb]; rfl
 have z2 : w.cell? ⟨g, 2, none⟩ = some (.int .i64 n) := by rw [cell_of_block hb]; rfl
 have z3 : w.cell? ⟨g, 3, none⟩ = some (.int .i64 sc) := by rw [cell_of_block hb]; rfl
 exact bodyPost_ret (v := .tuple #[Tkv k s n sc, .int .i64 er]) (by simp [results, hr, go_sem, z0, z1, z2, z3, h2, h3, Tkv]) hd hR
set_option maxHeartbeats 2000000 in
theorem sign_any {w : World} {rd b off cap : Nat} {l : List Nat} (h : Rd w rd b off cap l) (h0 : l ≠ []) :
  Calls Tryz.prog 101 #[.pointer (some ⟨rd, 0, none⟩)] w (TokP (sgnE l) w rd b l) := by
 have b1 : Below w.heap.size w (w.alloc (.cells #[.int .i64 0, .string ⟨#[]⟩, .int .i64 0, .int .i64 0] 84)) := (Below.refl _ _).alloc (Nat.le_refl _) _
 have h1 := h.below b1
 have hbl : b < w.heap.size := h.is.hb (List.length_pos_iff.2 h0)
 have hrd : rd < w.heap.size := (Array.getElem?_eq_some_iff.1 h.hd).1
 have HS := Lib.hid (signsize_any h1.is h0 h1.cp)
 have HT := Lib.hid (take_any h1 (signL l))
 have c0 : w.cell? ⟨rd, 0, none⟩ = some (.slice (some ⟨b, off, none⟩) l.length cap) := by rw [cell_of_block h.hd]; rfl
 have c1 : (w.alloc (.cells #[.int .i64 0, .string ⟨#[]⟩, .int .i64 0, .int .i64 0] 84)).cell? ⟨rd, 0, none⟩ = some (.slice (some ⟨b, off, none⟩) l.length cap) := by rw [cell_of_block h1.hd]; rfl
 have hle : signL l ≠ 0 → signL l ≤ l.length := fun hq => (signL_app (e := 32) rfl [] l hq).2
 have HI := Lib.hid h1.is
 have HB := Lib.hid (show ¬ b = rd from fun e => h.ne e.symm)
 obtain ⟨n, hn⟩ : ∃ n, l.length = n := ⟨_, rfl⟩
 have HX := Lib.hid (rfl : sgnE l = sgnE l)
 unfold sgnE at HX ⊢
 generalize signL l = q at *
 rw [hn] at HS c0 c1
 have hnew := heap_alloc_new w (.cells #[.int .i64 0, .string ⟨#[]⟩, .int .i64 0, .int .i64 0] 84)
 have HN := Lib.hid hnew
 have HBel := Lib.hid b1
 have hsz : w.heap.size < (w.alloc (.cells #[.int .i64 0, .string ⟨#[]⟩, .int .i64 0, .int .i64 0] 84)).heap.size := by simp
 have HZ := Lib.hid hsz
 clear h h1 b1 hnew hsz HX
 by_cases c : q = 0
 ·subst c
  rw [if_pos rfl]
  generalize hP : TokP (.error 120) w rd b l = P
  have HF := Lib.hid (show P (.returned (.tuple #[Tkv 0 ⟨#[]⟩ 0 0, .int .i64 120])) (w.alloc (.cells #[.int .i64 0, .string ⟨#[]⟩, .int .i64 0, .int .i64 0] 84)) by
   rw [← hP]
   exact ⟨rfl, Frm.of_below HBel.out⟩)
  clear hP
  go_enter Tryz.func101, Tryz.ntmps101
  go_wp2_with (first | (go_at_call 166; refine HS.out.mono ?_; rintro e w' ⟨rfl, rfl⟩))
  exact tok_ret Tryz.results101 HN.out rfl rfl rfl HF.out
 ·rw [if_neg c]
  generalize hP : TokP (.ok (⟨5, l.take q, 0, 0⟩, q)) w rd b l = P
  have HP := Lib.hid hP
  clear hP
  have cz : ((q : Int) == 0) = false := by simp [c]
  have HT1 := Lib.hid (HT.out (hle c))
  clear HT
  go_enter Tryz.func101, Tryz.ntmps101
  go_wp2_with (first | (go_at_call 166; refine HS.out.mono ?_; rintro e w' ⟨rfl, rfl⟩))
  go_at_call 94
  refine HT1.out.mono ?_
  rintro e w2 ⟨rfl, off', cap', r2, f2⟩
  have hcv := str_b (f2.isB HI.out (fun _ => HB.out)) q cap (by rw [hn]; exact hn ▸ hle c)
  have hbx : w2.heap[w.heap.size]? = some (.cells #[.int .i64 0, .string ⟨#[]⟩, .int .i64 0, .int .i64 0] 84 (0, 0)) := (f2.heap HZ.out (by omega)).trans HN.out
  have HX := Lib.hid (show P (.returned (.tuple #[Tkv 5 (strB (l.take q)) 0 0, .int .i64 0])) ((((w2.setCell ⟨w.heap.size, 0, none⟩ (.int .i64 5)).setCell ⟨w.heap.size, 1, none⟩ (.string (strB (l.take q)))).setCell ⟨w.heap.size, 2, none⟩ (.int .i64 0)).setCell ⟨w.heap.size, 3, none⟩ (.int .i64 0)) by
   rw [← HP.out]
   obtain ⟨x1, x2⟩ := Rd.boxed ((Frm.of_below (F := fun k => k = rd) HBel.out).trans f2 (New.refl _ _)) r2 hrd hbl (.int .i64 5) (.string (strB (l.take q))) (.int .i64 0) (.int .i64 0)
   exact ⟨rfl, off', cap', x1, x2⟩)
  have e0 : w2.cell? ⟨w.heap.size, 0, none⟩ = some (.int .i64 0) := by rw [cell_of_block hbx]; rfl
  have e1 : w2.cell? ⟨w.heap.size, 1, none⟩ = some (.string ⟨#[]⟩) := by rw [cell_of_block hbx]; rfl
  have e2 : w2.cell? ⟨w.heap.size, 2, none⟩ = some (.int .i64 0) := by rw [cell_of_block hbx]; rfl
  have e3 : w2.cell? ⟨w.heap.size, 3, none⟩ = some (.int .i64 0) := by rw [cell_of_block hbx]; rfl
  have f0 := unfrozen_of_block hbx 0
  have f1 := unfrozen_of_block hbx 1
  have f4 := unfrozen_of_block hbx 2
  have f3 := unfrozen_of_block hbx 3
  clear r2 f2
  go_wp2_with fail
  exact tok_ret Tryz.results101 (box_four hbx _ _ _ _) rfl rfl rfl HX.out
end Go.Proofs.YtofnkfjhmjecjaaGreatDoor

namespace Go.Proofs.YtofnkfjhmjecjaaGreatDoor
set_option maxRecDepth 100000
open Go.RowKit Go.Joins Go.ChangeShapes Go.WideShapes
set_option linter.unusedVariables false
set_option linter.unusedSimpArgs false
def tlRen : Go.Shelf.Ren where
 f := fun x => match x with
  | 10 => 160
  | 15 => 185
  | 16 => 186
  | 18 => 187
  | n => n
 t := fun x => match x with
  | 0 => 0
  | 3 => 3
  | 4 => 4
  | 5 => 5
  | 22 => 78
  | 30 => 186
  | 21 => 21
  | n => n
 g := fun x => x
theorem tlLays : Go.Proofs.SlLaysU.n10 Tryz.prog tlRen :=
  { mixed := by kernel_rfl, f10 := Eq.trans Tryz.func160 (congrArg some rfl), f15 := Eq.trans Tryz.func185 (congrArg some rfl),
    t0 := Tryz.underlying0, a0 := Tryz.isAgg0, z0 := Tryz.sizeOf0, v0 := Tryz.zeroValue0,
    t3 := Tryz.underlying3, a3 := Tryz.isAgg3, z3 := Tryz.sizeOf3, v3 := Tryz.zeroValue3,
    t4 := Tryz.underlying4, a4 := Tryz.isAgg4, z4 := Tryz.sizeOf4, v4 := Tryz.zeroValue4,
    t5 := Tryz.underlying5, a5 := Tryz.isAgg5, z5 := Tryz.sizeOf5, v5 := Tryz.zeroValue5,
    t22 := Tryz.underlying78, a22 := Tryz.isAgg78, z22 := Tryz.sizeOf78, v22 := Tryz.zeroValue78,
    t30 := Tryz.underlying186, a30 := Tryz.isAgg186, z30 := Tryz.sizeOf186, v30 := Tryz.zeroValue186,
    i5 := by kernel_rfl }
theorem tl_any (a : Addr) (n c : Nat) (xs : List Int) (w : World) (hx : xs.length = n) (hasc : ∀ x ∈ xs, 0 ≤ x ∧ x < 128) (hc : ∀ i, i < n → w.cell? (a.add i) = some (.int .u8 (xs.getD i 0))) (h0 : 0 < n) (hs : n ≤ 140737488355328) :
  Calls Tryz.prog 160 #[.slice (some a) n c] w fun e w' => ∃ v', e = .returned v' ∧ Lib.FreshBytes w.heap.size w' v' (Lib.toLowerA (Lib.bytesOf xs)) ∧ Below w.heap.size w w' :=
 Go.Proofs.Any.bytes_ToLower_at tlLays a n c xs w hx hasc hc h0 hs
end Go.Proofs.YtofnkfjhmjecjaaGreatDoor
