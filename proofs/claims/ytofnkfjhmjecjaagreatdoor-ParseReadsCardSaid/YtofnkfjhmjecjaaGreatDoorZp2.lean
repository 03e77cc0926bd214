/-
  Texts of mine put together, in build order.
  Conditions: as each declaration says.
-/
import Derived.Test.YtofnkfjhmjecjaaGreatDoorZp1
namespace Go.Proofs.YtofnkfjhmjecjaaGreatDoor
set_option maxRecDepth 100000
set_option linter.unusedVariables false
set_option linter.unusedSimpArgs false
inductive Ex where
 | mk (op kind num scale : Int) (text qual : ByteArray) (args : List Ex)
structure PS where
 rest : List Tk
 opn : Nat
 deep : Nat
abbrev RX (α : Type) := Option (Except Nat (α × PS))
def bindR {α β : Type} (x : RX α) (f : α → PS → RX β) : RX β := match x with
 | none => none
 | some (.error e) => some (.error e)
 | some (.ok (a, s)) => f a s
def failR {α : Type} (e : Nat) : RX α := some (.error e)
def retR {α : Type} (a : α) (s : PS) : RX α := some (.ok (a, s))
def atP (w : List Nat) (s : PS) : Bool := match s.rest with
 | [] => false
 | t :: _ => t.text == w && !(t.kind == 4)
def PS.next (s : PS) : PS := { s with rest := s.rest.tail }
def needP (w : List Nat) (s : PS) : RX Unit := if atP w s = true then retR () s.next else failR 130
def whichP : List (List Nat × Nat) → PS → Option Nat
 | [], _ => none
 | (w, op) :: r, s => if atP w s = true then some op else whichP r s
def mk1 (op : Nat) (a : Ex) : Ex := .mk op 0 0 0 ⟨#[]⟩ ⟨#[]⟩ [a]
def mk2 (op : Nat) (a b : Ex) : Ex := .mk op 0 0 0 ⟨#[]⟩ ⟨#[]⟩ [a, b]
def cst (kind num scale : Int) (text : ByteArray) : Ex := .mk 21 kind num scale text ⟨#[]⟩ []
def wOr : List Nat := [111, 114]
def wAnd : List Nat := [97, 110, 100]
def wNot : List Nat := [110, 111, 116]
def wIs : List Nat := [105, 115]
def wNull : List Nat := [110, 117, 108, 108]
def wTrue : List Nat := [116, 114, 117, 101]
def wFalse : List Nat := [102, 97, 108, 115, 101]
def wNan : List Nat := [110, 97, 110]
def wInf : List Nat := [105, 110, 102, 105, 110, 105, 116, 121]
def wInt : List Nat := [105, 110, 116]
def wReal : List Nat := [114, 101, 97, 108]
def opsP : Nat → List (List Nat × Nat)
 | 0 => [(wOr, 18)]
 | 1 => [(wAnd, 17)]
 | 3 => [([61], 1), ([60, 62], 2), ([60], 3), ([60, 61], 4), ([62], 5), ([62, 61], 6)]
 | 4 => [([43], 7), ([45], 8), ([124, 124], 12)]
 | 5 => [([42], 9), ([47], 10), ([37], 11)]
 | _ => []
section
variable (isName : List Nat → Bool)
def nameP (s : PS) : RX (List Nat) := match s.rest with
 | [] => failR 130
 | t :: r => if t.kind = 1 ∧ isName t.text = true then retR t.text { s with rest := r } else failR 130
mutual
/-- an expression of a level: 0 or, 1 and, 2 not, 3 test, 4 sum, 5 term, 6 sign, 7 one -/
def px : Nat → Nat → PS → RX Ex
 | 0, _, _ => none
 | n + 1, 2, s => if atP wNot s = true then bindR (px n 2 s.next) fun e s1 => retR (mk1 16 e) s1 else px n 3 s
 | n + 1, 3, s => bindR (px n 4 s) fun e s1 =>
   if atP wIs s1 = true then
    let s2 := s1.next
    if atP wNot s2 = true then bindR (needP wNull s2.next) fun _ s3 => retR (mk1 20 e) s3
    else bindR (needP wNull s2) fun _ s3 => retR (mk1 19 e) s3
   else match whichP (opsP 3) s1 with
    | none => retR e s1
    | some op => bindR (px n 4 s1.next) fun f s2 => retR (mk2 op e f) s2
 | n + 1, 6, s => if atP [45] s = true then bindR (px n 6 s.next) fun e s1 => retR (mk1 13 e) s1 else px n 7 s
 | n + 1, 7, s => match s.rest with
   | [] => failR 130
   | t :: r =>
    let s1 : PS := { s with rest := r }
    if t.kind = 2 then retR (cst 2 t.num 0 ⟨#[]⟩) s1
    else if t.kind = 3 then retR (cst 3 t.num t.scale ⟨#[]⟩) s1
    else if t.kind = 4 then retR (cst 4 0 0 (strB t.text)) s1
    else if t.kind = 1 then
     (if t.text = wNull then retR (cst 0 0 0 ⟨#[]⟩) s1
     else if t.text = wFalse then retR (cst 1 0 0 ⟨#[]⟩) s1
     else if t.text = wTrue then retR (cst 1 1 0 ⟨#[]⟩) s1
     else if t.text = wNan then retR (cst 3 0 (-1) ⟨#[]⟩) s1
     else if t.text = wInf then retR (cst 3 0 (-2) ⟨#[]⟩) s1
     else if t.text = wInt then bindR (needP [40] s1) fun _ s2 => bindR (px n 8 s2) fun e s3 => retR (mk1 14 e) s3
     else if t.text = wReal then bindR (needP [40] s1) fun _ s2 => bindR (px n 8 s2) fun e s3 => retR (mk1 15 e) s3
     else if isName t.text = true then
      (if atP [46] s1 = true then bindR (nameP isName s1.next) fun c s2 => retR (.mk 22 0 0 0 (strB c) (strB t.text) []) s2
      else retR (.mk 22 0 0 0 (strB t.text) ⟨#[]⟩ []) s1)
     else failR 130)
    else if t.text = [40] then px n 8 s1 else failR 130
 | n + 1, 8, s => if s.opn < 40 then bindR (px n 0 { s with opn := s.opn + 1 }) fun e s1 => bindR (needP [41] s1) fun _ s2 => retR e { s2 with opn := s2.opn - 1 } else failR 5
 | n + 1, lvl, s => bindR (px n (lvl + 1) s) fun e s1 => pc n lvl e s1
/-- operands with the operators of a level between, the left ones first -/
def pc : Nat → Nat → Ex → PS → RX Ex
 | 0, _, _, _ => none
 | n + 1, lvl, e, s => match whichP (opsP lvl) s with
  | none => retR e s
  | some op => bindR (px n (lvl + 1) s.next) fun f s1 => pc n lvl (mk2 op e f) s1
end
def MoreR {α : Type} (x y : RX α) : Prop := ∀ r, x = some r → y = some r
theorem MoreR.refl {α : Type} (x : RX α) : MoreR x x := fun _ h => h
theorem MoreR.bind {α β : Type} {x y : RX α} {f g : α → PS → RX β} (h : MoreR x y) (hf : ∀ a s, MoreR (f a s) (g a s)) : MoreR (bindR x f) (bindR y g) := fun r hr => by
 unfold bindR at hr ⊢
 match x, h with
 | none, _ => cases hr
 | some (.error e), h => rw [h _ rfl]; exact hr
 | some (.ok (a, s)), h => rw [h _ rfl]; exact hf a s r hr
theorem MoreR.ite {α : Type} {p : Prop} [Decidable p] {x y x' y' : RX α} (h : MoreR x y) (h' : MoreR x' y') : MoreR (if p then x else x') (if p then y else y') := by
 by_cases c : p
 ·rw [if_pos c, if_pos c]; exact h
 ·rw [if_neg c, if_neg c]; exact h'
theorem px_more : ∀ n, (∀ lvl s, MoreR (px isName n lvl s) (px isName (n + 1) lvl s)) ∧ ∀ lvl e s, MoreR (pc isName n lvl e s) (pc isName (n + 1) lvl e s)
 | 0 => ⟨(fun lvl s r h => by rw [px] at h; cases h), (fun lvl e s r h => by rw [pc] at h; cases h)⟩
 | n + 1 => by
  obtain ⟨ih1, ih2⟩ := px_more n
  have hpc : ∀ lvl e s, MoreR (pc isName (n + 1) lvl e s) (pc isName (n + 1 + 1) lvl e s) := fun lvl e s => by
   rw [pc, pc]
   split
   ·exact MoreR.refl _
   ·exact (ih1 _ _).bind fun _ _ => ih2 _ _ _
  refine ⟨fun lvl s => ?_, hpc⟩
  match lvl with
  | 2 => rw [px, px]; exact ((ih1 _ _).bind fun _ _ => MoreR.refl _).ite (ih1 _ _)
  | 3 =>
   rw [px, px]
   refine (ih1 _ _).bind fun e s1 => MoreR.ite (MoreR.refl _) ?_
   split
   ·exact MoreR.refl _
   ·exact (ih1 _ _).bind fun _ _ => MoreR.refl _
  | 6 => rw [px, px]; exact ((ih1 _ _).bind fun _ _ => MoreR.refl _).ite (ih1 _ _)
  | 7 =>
   rw [px, px]
   split
   ·exact MoreR.refl _
   ·refine MoreR.ite (MoreR.refl _) (MoreR.ite (MoreR.refl _) (MoreR.ite (MoreR.refl _) (MoreR.ite ?_ (MoreR.ite (ih1 _ _) (MoreR.refl _)))))
    refine MoreR.ite (MoreR.refl _) (MoreR.ite (MoreR.refl _) (MoreR.ite (MoreR.refl _) (MoreR.ite (MoreR.refl _) (MoreR.ite (MoreR.refl _) (MoreR.ite ?_ (MoreR.ite ?_ (MoreR.refl _)))))))
    ·exact (MoreR.refl _).bind fun _ _ => (ih1 _ _).bind fun _ _ => MoreR.refl _
    ·exact (MoreR.refl _).bind fun _ _ => (ih1 _ _).bind fun _ _ => MoreR.refl _
  | 8 => rw [px, px]; exact ((ih1 _ _).bind fun _ _ => MoreR.refl _).ite (MoreR.refl _)
  | 0 => rw [px, px] <;> first | exact (ih1 _ _).bind fun _ _ => ih2 _ _ _ | (intros; omega)
  | 1 => rw [px, px] <;> first | exact (ih1 _ _).bind fun _ _ => ih2 _ _ _ | (intros; omega)
  | 4 => rw [px, px] <;> first | exact (ih1 _ _).bind fun _ _ => ih2 _ _ _ | (intros; omega)
  | 5 => rw [px, px] <;> first | exact (ih1 _ _).bind fun _ _ => ih2 _ _ _ | (intros; omega)
  | k + 9 => rw [px, px] <;> first | exact (ih1 _ _).bind fun _ _ => ih2 _ _ _ | (intros; omega)
theorem px_le {n m lvl : Nat} {s : PS} (h : n ≤ m) : MoreR (px isName n lvl s) (px isName m lvl s) := by
 induction h with
 | refl => exact MoreR.refl _
 | step _ ih => exact fun r hr => (px_more isName _).1 _ _ r (ih r hr)
theorem pc_le {n m lvl : Nat} {e : Ex} {s : PS} (h : n ≤ m) : MoreR (pc isName n lvl e s) (pc isName m lvl e s) := by
 induction h with
 | refl => exact MoreR.refl _
 | step _ ih => exact fun r hr => (px_more isName _).2 _ _ _ r (ih r hr)
end
theorem bindR_ok {α β : Type} {x : RX α} {f : α → PS → RX β} {b : β} {s' : PS} (h : bindR x f = some (.ok (b, s'))) : ∃ a s1, x = some (.ok (a, s1)) ∧ f a s1 = some (.ok (b, s')) := by
 unfold bindR at h
 match x, h with
 | some (.ok (a, s)), h => exact ⟨a, s, rfl, h⟩
theorem ite_or {α : Type} {p : Prop} [Decidable p] {x y z : α} (h : (if p then x else y) = z) : (p ∧ x = z) ∨ (¬ p ∧ y = z) := by
 by_cases c : p
 ·rw [if_pos c] at h; exact .inl ⟨c, h⟩
 ·rw [if_neg c] at h; exact .inr ⟨c, h⟩
theorem retR_ok {α : Type} {a b : α} {s s' : PS} (h : retR a s = some (.ok (b, s'))) : a = b ∧ s = s' := by
 unfold retR at h
 injection h with h
 injection h with h
 injection h with h1 h2
 exact ⟨h1, h2⟩
theorem atP_len {w : List Nat} {s : PS} (h : atP w s = true) : s.next.rest.length + 1 = s.rest.length := by
 unfold atP at h
 unfold PS.next
 cases e : s.rest with
 | nil => rw [e] at h; cases h
 | cons t r => simp
theorem needP_ok {w : List Nat} {s s' : PS} {u : Unit} (h : needP w s = some (.ok (u, s'))) : atP w s = true ∧ s' = s.next := by
 unfold needP at h
 by_cases c : atP w s = true
 ·rw [if_pos c] at h; exact ⟨c, (retR_ok h).2.symm⟩
 ·rw [if_neg c] at h; cases h
theorem whichP_len {l : List (List Nat × Nat)} {s : PS} {op : Nat} (h : whichP l s = some op) : s.next.rest.length + 1 = s.rest.length := by
 induction l with
 | nil => cases h
 | cons x r ih =>
  obtain ⟨w, o⟩ := x
  unfold whichP at h
  by_cases c : atP w s = true
  ·exact atP_len c
  ·rw [if_neg c] at h; exact ih h
def UseS (s s' : PS) : Prop := s'.rest.length < s.rest.length ∧ s'.opn = s.opn ∧ s'.deep = s.deep
def UseL (s s' : PS) : Prop := s'.rest.length ≤ s.rest.length ∧ s'.opn = s.opn ∧ s'.deep = s.deep
theorem nameP_ok {isName : List Nat → Bool} {s s' : PS} {c : List Nat} (h : nameP isName s = some (.ok (c, s'))) : UseS s s' := by
 unfold nameP at h
 cases e : s.rest with
 | nil => rw [e] at h; cases h
 | cons t r =>
  rw [e] at h
  dsimp only at h
  by_cases c : t.kind = 1 ∧ isName t.text = true
  ·rw [if_pos c] at h
   obtain ⟨-, rfl⟩ := retR_ok h
   exact ⟨by rw [e]; simp, rfl, rfl⟩
  ·rw [if_neg c] at h; cases h
section
variable (isName : List Nat → Bool)
theorem px_uses : ∀ n, (∀ lvl s e s', px isName n lvl s = some (.ok (e, s')) → UseS s s') ∧ ∀ lvl e0 s e s', pc isName n lvl e0 s = some (.ok (e, s')) → UseL s s'
 | 0 => ⟨(fun lvl s e s' h => by rw [px] at h; cases h), (fun lvl e0 s e s' h => by rw [pc] at h; cases h)⟩
 | n + 1 => by
  obtain ⟨ih1, ih2⟩ := px_uses n
  have chain : ∀ lvl s e s', bindR (px isName n (lvl + 1) s) (fun e s1 => pc isName n lvl e s1) = some (.ok (e, s')) → UseS s s' := fun lvl s e s' h => by
   obtain ⟨a, s1, h1, h2⟩ := bindR_ok h
   obtain ⟨a1, a2, a3⟩ := ih1 _ _ _ _ h1
   obtain ⟨b1, b2, b3⟩ := ih2 _ _ _ _ _ h2
   exact ⟨by omega, by omega, by omega⟩
  refine ⟨fun lvl s e s' h => ?_, fun lvl e0 s e s' h => ?_⟩
  ·match lvl, h with
   | 0, h => rw [px] at h <;> first | exact chain _ _ _ _ h | (intros; omega)
   | 1, h => rw [px] at h <;> first | exact chain _ _ _ _ h | (intros; omega)
   | 4, h => rw [px] at h <;> first | exact chain _ _ _ _ h | (intros; omega)
   | 5, h => rw [px] at h <;> first | exact chain _ _ _ _ h | (intros; omega)
   | k + 9, h => rw [px] at h <;> first | exact chain _ _ _ _ h | (intros; omega)
   | 2, h =>
    rw [px] at h
    by_cases c : atP wNot s = true
    ·rw [if_pos c] at h
     obtain ⟨a, s1, h1, h2⟩ := bindR_ok h
     obtain ⟨-, rfl⟩ := retR_ok h2
     obtain ⟨a1, a2, a3⟩ := ih1 _ _ _ _ h1
     have := atP_len c
     exact ⟨by omega, a2, a3⟩
    ·rw [if_neg c] at h; exact ih1 _ _ _ _ h
   | 6, h =>
    rw [px] at h
    by_cases c : atP [45] s = true
    ·rw [if_pos c] at h
     obtain ⟨a, s1, h1, h2⟩ := bindR_ok h
     obtain ⟨-, rfl⟩ := retR_ok h2
     obtain ⟨a1, a2, a3⟩ := ih1 _ _ _ _ h1
     have := atP_len c
     exact ⟨by omega, a2, a3⟩
    ·rw [if_neg c] at h; exact ih1 _ _ _ _ h
   | 3, h =>
    rw [px] at h
    obtain ⟨a, s1, h1, h2⟩ := bindR_ok h
    obtain ⟨a1, a2, a3⟩ := ih1 _ _ _ _ h1
    by_cases c : atP wIs s1 = true
    ·rw [if_pos c] at h2
     have l1 := atP_len c
     dsimp only at h2
     by_cases c2 : atP wNot s1.next = true
     ·rw [if_pos c2] at h2
      obtain ⟨u, s3, h3, h4⟩ := bindR_ok h2
      obtain ⟨-, rfl⟩ := retR_ok h4
      obtain ⟨c3, rfl⟩ := needP_ok h3
      have l2 := atP_len c2
      have l3 := atP_len c3
      exact ⟨by omega, a2, a3⟩
     ·rw [if_neg c2] at h2
      obtain ⟨u, s3, h3, h4⟩ := bindR_ok h2
      obtain ⟨-, rfl⟩ := retR_ok h4
      obtain ⟨c3, rfl⟩ := needP_ok h3
      have l3 := atP_len c3
      exact ⟨by omega, a2, a3⟩
    ·rw [if_neg c] at h2
     split at h2
     ·obtain ⟨-, rfl⟩ := retR_ok h2
      exact ⟨a1, a2, a3⟩
     ·rename_i op hw
      obtain ⟨f, s2, h3, h4⟩ := bindR_ok h2
      obtain ⟨-, rfl⟩ := retR_ok h4
      obtain ⟨b1, b2, b3⟩ := ih1 _ _ _ _ h3
      have := whichP_len hw
      exact ⟨by omega, b2.trans a2, b3.trans a3⟩
   | 7, h =>
    rw [px] at h
    cases er : s.rest with
    | nil => rw [er] at h; cases h
    | cons t r =>
     rw [er] at h
     dsimp only at h
     have base : UseS s { s with rest := r } := ⟨by rw [er]; simp, rfl, rfl⟩
     have inner : ∀ e s', px isName n 8 { s with rest := r } = some (.ok (e, s')) → UseS s s' := fun e s' h => by
      obtain ⟨b1, b2, b3⟩ := ih1 _ _ _ _ h
      exact ⟨Nat.lt_trans b1 base.1, b2, b3⟩
     have call : ∀ (op : Nat) e s', (bindR (needP [40] { s with rest := r }) fun _ s2 => bindR (px isName n 8 s2) fun e s3 => retR (mk1 op e) s3) = some (.ok (e, s')) → UseS s s' := fun op e s' h => by
      obtain ⟨u, s2, h1, h2⟩ := bindR_ok h
      obtain ⟨a, s3, h3, h4⟩ := bindR_ok h2
      obtain ⟨-, rfl⟩ := retR_ok h4
      obtain ⟨c1, rfl⟩ := needP_ok h1
      obtain ⟨b1, b2, b3⟩ := ih1 _ _ _ _ h3
      have l1 := atP_len c1
      have l2 := base.1
      exact ⟨by omega, b2, b3⟩
     rcases ite_or h with ⟨-, h⟩ | ⟨-, h⟩
     ·obtain ⟨-, rfl⟩ := retR_ok h; exact base
     rcases ite_or h with ⟨-, h⟩ | ⟨-, h⟩
     ·obtain ⟨-, rfl⟩ := retR_ok h; exact base
     rcases ite_or h with ⟨-, h⟩ | ⟨-, h⟩
     ·obtain ⟨-, rfl⟩ := retR_ok h; exact base
     rcases ite_or h with ⟨-, h⟩ | ⟨-, h⟩
     ·rcases ite_or h with ⟨-, h⟩ | ⟨-, h⟩
      ·obtain ⟨-, rfl⟩ := retR_ok h; exact base
      rcases ite_or h with ⟨-, h⟩ | ⟨-, h⟩
      ·obtain ⟨-, rfl⟩ := retR_ok h; exact base
      rcases ite_or h with ⟨-, h⟩ | ⟨-, h⟩
      ·obtain ⟨-, rfl⟩ := retR_ok h; exact base
      rcases ite_or h with ⟨-, h⟩ | ⟨-, h⟩
      ·obtain ⟨-, rfl⟩ := retR_ok h; exact base
      rcases ite_or h with ⟨-, h⟩ | ⟨-, h⟩
      ·obtain ⟨-, rfl⟩ := retR_ok h; exact base
      rcases ite_or h with ⟨-, h⟩ | ⟨-, h⟩
      ·exact call _ _ _ h
      rcases ite_or h with ⟨-, h⟩ | ⟨-, h⟩
      ·exact call _ _ _ h
      rcases ite_or h with ⟨-, h⟩ | ⟨-, h⟩
      ·rcases ite_or h with ⟨cq, h⟩ | ⟨-, h⟩
       ·obtain ⟨c, s2, h1, h2⟩ := bindR_ok h
        obtain ⟨-, rfl⟩ := retR_ok h2
        obtain ⟨b1, b2, b3⟩ := nameP_ok h1
        have l1 := atP_len cq
        have l2 := base.1
        exact ⟨by omega, b2, b3⟩
       ·obtain ⟨-, rfl⟩ := retR_ok h; exact base
      ·cases h
     rcases ite_or h with ⟨-, h⟩ | ⟨-, h⟩
     ·exact inner _ _ h
     ·cases h
   | 8, h =>
    rw [px] at h
    by_cases c : s.opn < 40
    ·rw [if_pos c] at h
     obtain ⟨a, s1, h1, h2⟩ := bindR_ok h
     obtain ⟨u, s2, h3, h4⟩ := bindR_ok h2
     obtain ⟨-, rfl⟩ := retR_ok h4
     obtain ⟨c1, rfl⟩ := needP_ok h3
     obtain ⟨b1, b2, b3⟩ := ih1 _ _ _ _ h1
     have l1 := atP_len c1
     refine ⟨?_, ?_, b3⟩
     ·show s1.next.rest.length < s.rest.length
      have : s1.rest.length < s.rest.length := b1
      omega
     ·show s1.opn - 1 = s.opn
      have : s1.opn = s.opn + 1 := b2
      omega
    ·rw [if_neg c] at h; cases h
  ·rw [pc] at h
   split at h
   ·obtain ⟨-, rfl⟩ := retR_ok h
    exact ⟨Nat.le_refl _, rfl, rfl⟩
   ·rename_i op hw
    obtain ⟨f, s1, h1, h2⟩ := bindR_ok h
    obtain ⟨a1, a2, a3⟩ := ih1 _ _ _ _ h1
    obtain ⟨b1, b2, b3⟩ := ih2 _ _ _ _ _ h2
    have := whichP_len hw
    exact ⟨by omega, b2.trans a2, b3.trans a3⟩
end
section
variable (isName : List Nat → Bool)
def TotX (lvl : Nat) (s : PS) : Prop := ∃ n r, px isName n lvl s = some r
def TotC (lvl : Nat) (e : Ex) (s : PS) : Prop := ∃ n r, pc isName n lvl e s = some r
theorem tot_bind {α β : Type} {x : Nat → RX α} {g : Nat → α → PS → RX β} (mx : ∀ n m, n ≤ m → MoreR (x n) (x m)) (mg : ∀ n m a s, n ≤ m → MoreR (g n a s) (g m a s)) (h : ∃ n r, x n = some r) (hg : ∀ n a s, x n = some (.ok (a, s)) → ∃ m r, g m a s = some r) : ∃ n r, bindR (x n) (g n) = some r := by
 obtain ⟨n, r, hr⟩ := h
 match r, hr with
 | .error e, hr => exact ⟨n, .error e, by rw [hr]; rfl⟩
 | .ok (a, s), hr =>
  obtain ⟨m, r, hm⟩ := hg n a s hr
  refine ⟨n + m, r, ?_⟩
  rw [mx n (n + m) (by omega) _ hr]
  exact mg m (n + m) a s (by omega) r hm
theorem tot_const {α : Type} (x : RX α) (h : x ≠ none) : ∃ n : Nat, ∃ r, (fun _ : Nat => x) n = some r := by
 cases x with
 | none => exact absurd rfl h
 | some r => exact ⟨0, r, rfl⟩
theorem needP_tot (w : List Nat) (s : PS) : needP w s ≠ none := by
 unfold needP
 split <;> (intro h; cases h)
theorem nameP_tot (s : PS) : nameP isName s ≠ none := by
 unfold nameP
 split
 ·intro h; cases h
 ·split <;> (intro h; cases h)
theorem tot_chain {lvl : Nat} {s : PS} (hl : lvl = 0 ∨ lvl = 1 ∨ lvl = 4 ∨ lvl = 5) (h : TotX isName (lvl + 1) s) (hc : ∀ e s', s'.rest.length < s.rest.length → TotC isName lvl e s') : TotX isName lvl s := by
 obtain ⟨n, r, hr⟩ := tot_bind (x := fun n => px isName n (lvl + 1) s) (g := fun n e s1 => pc isName n lvl e s1) (fun n m h => px_le isName h) (fun n m a s h => pc_le isName h) h (fun n a s1 hs => hc a s1 ((px_uses isName n).1 _ _ _ _ hs).1)
 refine ⟨n + 1, r, ?_⟩
 rcases hl with rfl | rfl | rfl | rfl <;> (rw [px] <;> first | exact hr | (intros; omega))
theorem px_total : ∀ L s, s.rest.length = L → (∀ lvl, lvl ≤ 8 → TotX isName lvl s) ∧ ∀ lvl e, lvl ≤ 7 → TotC isName lvl e s := by
  intro L
  induction L using Nat.strongRecOn with
  | ind L ih =>
  have H : ∀ s : PS, s.rest.length = L → TotX isName 7 s ∧ TotX isName 6 s ∧ TotX isName 5 s ∧ TotX isName 4 s ∧ TotX isName 3 s ∧ TotX isName 2 s ∧ TotX isName 1 s ∧ TotX isName 0 s := by
    intro s hs
    have small : ∀ s', s'.rest.length < s.rest.length → (∀ lvl, lvl ≤ 8 → TotX isName lvl s') ∧ ∀ lvl e, lvl ≤ 7 → TotC isName lvl e s' := fun s' h => ih _ (by omega) s' rfl
    have one : ∀ (op : Nat) lvl s', TotX isName lvl s' → ∃ n r, bindR (px isName n lvl s') (fun e s1 => retR (mk1 op e) s1) = some r := fun op lvl s' h =>
      tot_bind (x := fun n => px isName n lvl s') (g := fun _ e s1 => retR (mk1 op e) s1) (fun n m h => px_le isName h) (fun _ _ _ _ _ => MoreR.refl _) h (fun _ a s1 _ => ⟨0, _, rfl⟩)
    have t7 : TotX isName 7 s := by
      cases er : s.rest with
      | nil => exact ⟨1, .error 130, by rw [px, er]; rfl⟩
      | cons t r =>
        have sm := small { s with rest := r } (by rw [er]; simp)
        obtain ⟨n8, r8, h8⟩ := sm.1 8 (Nat.le_refl _)
        have hcall : ∀ op : Nat, ∃ n r', (bindR (needP [40] { s with rest := r }) fun _ s2 => bindR (px isName n 8 s2) fun e s3 => retR (mk1 op e) s3) = some r' := fun op =>
          tot_bind (x := fun _ => needP [40] { s with rest := r }) (g := fun n _ s2 => bindR (px isName n 8 s2) fun e s3 => retR (mk1 op e) s3) (fun _ _ _ => MoreR.refl _) (fun n m a s h => (px_le isName h).bind fun _ _ => MoreR.refl _) (tot_const _ (needP_tot _ _)) (fun _ u s2 h2 => by
            obtain ⟨c, rfl⟩ := needP_ok h2
            have l1 := atP_len c
            exact one op 8 _ ((small _ (by have : ({ s with rest := r } : PS).rest.length < s.rest.length := by rw [er]; simp
                                           omega)).1 8 (Nat.le_refl _)))
        by_cases k2 : t.kind = 2
        · exact ⟨1, _, by rw [px, er]; simp only [k2, if_true]; rfl⟩
        by_cases k3 : t.kind = 3
        · exact ⟨1, _, by rw [px, er]; simp only [k3]; rfl⟩
        by_cases k4 : t.kind = 4
        · exact ⟨1, _, by rw [px, er]; simp only [k4]; rfl⟩
        by_cases k1 : t.kind = 1
        · by_cases q1 : t.text = wNull
          · exact ⟨1, .ok (_, _), by rw [px, er]; dsimp only; rw [if_neg k2, if_neg k3, if_neg k4, if_pos k1, if_pos q1]; rfl⟩
          by_cases q2 : t.text = wFalse
          · exact ⟨1, .ok (_, _), by rw [px, er]; dsimp only; rw [if_neg k2, if_neg k3, if_neg k4, if_pos k1, if_neg q1, if_pos q2]; rfl⟩
          by_cases q3 : t.text = wTrue
          · exact ⟨1, .ok (_, _), by rw [px, er]; dsimp only; rw [if_neg k2, if_neg k3, if_neg k4, if_pos k1, if_neg q1, if_neg q2, if_pos q3]; rfl⟩
          by_cases q4 : t.text = wNan
          · exact ⟨1, .ok (_, _), by rw [px, er]; dsimp only; rw [if_neg k2, if_neg k3, if_neg k4, if_pos k1, if_neg q1, if_neg q2, if_neg q3, if_pos q4]; rfl⟩
          by_cases q5 : t.text = wInf
          · exact ⟨1, .ok (_, _), by rw [px, er]; dsimp only; rw [if_neg k2, if_neg k3, if_neg k4, if_pos k1, if_neg q1, if_neg q2, if_neg q3, if_neg q4, if_pos q5]; rfl⟩
          by_cases q6 : t.text = wInt
          · obtain ⟨n, r', hr⟩ := hcall 14
            exact ⟨n + 1, r', by rw [px, er]; dsimp only; rw [if_neg k2, if_neg k3, if_neg k4, if_pos k1, if_neg q1, if_neg q2, if_neg q3, if_neg q4, if_neg q5, if_pos q6]; exact hr⟩
          by_cases q7 : t.text = wReal
          · obtain ⟨n, r', hr⟩ := hcall 15
            exact ⟨n + 1, r', by rw [px, er]; dsimp only; rw [if_neg k2, if_neg k3, if_neg k4, if_pos k1, if_neg q1, if_neg q2, if_neg q3, if_neg q4, if_neg q5, if_neg q6, if_pos q7]; exact hr⟩
          by_cases q8 : isName t.text = true
          · by_cases q9 : atP [46] { s with rest := r } = true
            · obtain ⟨n, r', hr⟩ := tot_bind (x := fun _ => nameP isName (PS.next { s with rest := r })) (g := fun (_ : Nat) c s2 => retR (Ex.mk 22 0 0 0 (strB c) (strB t.text) []) s2) (fun _ _ _ => MoreR.refl _) (fun _ _ _ _ _ => MoreR.refl _) (tot_const _ (nameP_tot isName _)) (fun _ a s1 _ => ⟨0, _, rfl⟩)
              exact ⟨n + 1, r', by rw [px, er]; dsimp only; rw [if_neg k2, if_neg k3, if_neg k4, if_pos k1, if_neg q1, if_neg q2, if_neg q3, if_neg q4, if_neg q5, if_neg q6, if_neg q7, if_pos q8, if_pos q9]; exact hr⟩
            · exact ⟨1, .ok (_, _), by rw [px, er]; dsimp only; rw [if_neg k2, if_neg k3, if_neg k4, if_pos k1, if_neg q1, if_neg q2, if_neg q3, if_neg q4, if_neg q5, if_neg q6, if_neg q7, if_pos q8, if_neg q9]; rfl⟩
          · exact ⟨1, .error 130, by rw [px, er]; dsimp only; rw [if_neg k2, if_neg k3, if_neg k4, if_pos k1, if_neg q1, if_neg q2, if_neg q3, if_neg q4, if_neg q5, if_neg q6, if_neg q7, if_neg q8]; rfl⟩
        by_cases k5 : t.text = [40]
        · exact ⟨n8 + 1, r8, by rw [px, er]; dsimp only; rw [if_neg k2, if_neg k3, if_neg k4, if_neg k1, if_pos k5]; exact h8⟩
        · exact ⟨1, .error 130, by rw [px, er]; dsimp only; rw [if_neg k2, if_neg k3, if_neg k4, if_neg k1, if_neg k5]; rfl⟩
    have t6 : TotX isName 6 s := by
      by_cases c : atP [45] s = true
      · obtain ⟨n, r, hr⟩ := one 13 6 s.next ((small _ (by have := atP_len c; omega)).1 6 (by omega))
        exact ⟨n + 1, r, by rw [px, if_pos c]; exact hr⟩
      · obtain ⟨n, r, hr⟩ := t7
        exact ⟨n + 1, r, by rw [px, if_neg c]; exact hr⟩
    have t5 : TotX isName 5 s := tot_chain isName (by omega) t6 (fun e s' h => (small s' h).2 5 e (by omega))
    have t4 : TotX isName 4 s := tot_chain isName (by omega) t5 (fun e s' h => (small s' h).2 4 e (by omega))
    have t3 : TotX isName 3 s := by
      obtain ⟨n, r, hr⟩ := tot_bind (x := fun n => px isName n 4 s) (g := fun n e s1 =>
          if atP wIs s1 = true then
            if atP wNot s1.next = true then bindR (needP wNull s1.next.next) fun _ s3 => retR (mk1 20 e) s3
            else bindR (needP wNull s1.next) fun _ s3 => retR (mk1 19 e) s3
          else match whichP (opsP 3) s1 with
            | none => retR e s1
            | some op => bindR (px isName n 4 s1.next) fun f s2 => retR (mk2 op e f) s2) (fun n m h => px_le isName h)
        (fun n m a s h => by
          refine MoreR.ite (MoreR.refl _) ?_
          split
          · exact MoreR.refl _
          · exact (px_le isName h).bind fun _ _ => MoreR.refl _) t4 (fun n e s1 h1 => by
          have hu := ((px_uses isName n).1 _ _ _ _ h1).1
          by_cases c : atP wIs s1 = true
          · have hnd : ∀ (op : Nat) s', ∃ r, (bindR (needP wNull s') fun _ s3 => retR (mk1 op e) s3) = some r := fun op s' => by
              cases hh : needP wNull s' with
              | none => exact absurd hh (needP_tot _ _)
              | some x => cases x with
                | error e => exact ⟨_, rfl⟩
                | ok y => exact ⟨_, rfl⟩
            by_cases c2 : atP wNot s1.next = true
            · obtain ⟨r, hr⟩ := hnd 20 s1.next.next
              exact ⟨0, r, by rw [if_pos c, if_pos c2]; exact hr⟩
            · obtain ⟨r, hr⟩ := hnd 19 s1.next
              exact ⟨0, r, by rw [if_pos c, if_neg c2]; exact hr⟩
          · cases hw : whichP (opsP 3) s1 with
            | none => exact ⟨0, _, by rw [if_neg c]; rfl⟩
            | some op =>
              have := whichP_len hw
              obtain ⟨m, r, hr⟩ := tot_bind (x := fun n => px isName n 4 s1.next) (g := fun (_ : Nat) f s2 => retR (mk2 op e f) s2) (fun n m h => px_le isName h) (fun _ _ _ _ _ => MoreR.refl _) ((small _ (by omega)).1 4 (by omega)) (fun _ a s1 _ => ⟨0, _, rfl⟩)
              exact ⟨m, r, by rw [if_neg c]; exact hr⟩)
      exact ⟨n + 1, r, by rw [px]; exact hr⟩
    have t2 : TotX isName 2 s := by
      by_cases c : atP wNot s = true
      · obtain ⟨n, r, hr⟩ := one 16 2 s.next ((small _ (by have := atP_len c; omega)).1 2 (by omega))
        exact ⟨n + 1, r, by rw [px, if_pos c]; exact hr⟩
      · obtain ⟨n, r, hr⟩ := t3
        exact ⟨n + 1, r, by rw [px, if_neg c]; exact hr⟩
    have t1 : TotX isName 1 s := tot_chain isName (by omega) t2 (fun e s' h => (small s' h).2 1 e (by omega))
    have t0 : TotX isName 0 s := tot_chain isName (by omega) t1 (fun e s' h => (small s' h).2 0 e (by omega))
    exact ⟨t7, t6, t5, t4, t3, t2, t1, t0⟩
  intro s hs
  have small : ∀ s', s'.rest.length < s.rest.length → (∀ lvl, lvl ≤ 8 → TotX isName lvl s') ∧ ∀ lvl e, lvl ≤ 7 → TotC isName lvl e s' := fun s' h => ih _ (by omega) s' rfl
  obtain ⟨t7, t6, t5, t4, t3, t2, t1, t0⟩ := H s hs
  have t8 : TotX isName 8 s := by
    by_cases c : s.opn < 40
    · obtain ⟨n, r, hr⟩ := tot_bind (x := fun n => px isName n 0 { s with opn := s.opn + 1 }) (g := fun (_ : Nat) e s1 => bindR (needP [41] s1) fun _ s2 => retR e { s2 with opn := s2.opn - 1 }) (fun n m h => px_le isName h) (fun _ _ _ _ _ => MoreR.refl _) (H _ (by exact hs)).2.2.2.2.2.2.2 (fun _ e s1 _ => by
        cases hh : needP [41] s1 with
        | none => exact absurd hh (needP_tot _ _)
        | some x => cases x with
          | error e => exact ⟨0, _, rfl⟩
          | ok y => exact ⟨0, _, rfl⟩)
      exact ⟨n + 1, r, by rw [px, if_pos c]; exact hr⟩
    · exact ⟨1, .error 5, by rw [px, if_neg c]; rfl⟩
  refine ⟨fun lvl hl => ?_, fun lvl e hl => ?_⟩
  · match lvl, hl with
    | 0, _ => exact t0
    | 1, _ => exact t1
    | 2, _ => exact t2
    | 3, _ => exact t3
    | 4, _ => exact t4
    | 5, _ => exact t5
    | 6, _ => exact t6
    | 7, _ => exact t7
    | 8, _ => exact t8
  · cases hw : whichP (opsP lvl) s with
    | none => exact ⟨1, .ok (e, s), by rw [pc, hw]; rfl⟩
    | some op =>
      have hl1 := whichP_len hw
      obtain ⟨n, r, hr⟩ := tot_bind (x := fun n => px isName n (lvl + 1) s.next) (g := fun n f s1 => pc isName n lvl (mk2 op e f) s1) (fun n m h => px_le isName h) (fun n m a s h => pc_le isName h) ((small s.next (by omega)).1 (lvl + 1) (by omega)) (fun n a s1 h1 => by
        have hu := ((px_uses isName n).1 _ _ _ _ h1).1
        exact (small s1 (by omega)).2 lvl _ hl)
      exact ⟨n + 1, r, by rw [pc, hw]; exact hr⟩
end
end Go.Proofs.YtofnkfjhmjecjaaGreatDoor

namespace Go.Proofs.YtofnkfjhmjecjaaGreatDoor
set_option maxRecDepth 100000
set_option linter.unusedVariables false
set_option linter.unusedSimpArgs false
mutual
/-- how many operators stand in one another -/
def depR : Ex → Nat
 | .mk _ _ _ _ _ _ args => depL args
def depL : List Ex → Nat
 | [] => 0
 | a :: r => max (depR a + 1) (depL r)
end
structure Co where
 name : List Nat
 type : Nat
 req : Bool
structure Ite where
 e : Ex
 name : List Nat
structure Src where
 table : List Nat
 alias_ : List Nat
 on_ : Ex
structure Srt where
 e : Ex
 desc : Bool
structure Se where
 col : List Nat
 e : Ex
def zE : Ex := .mk 0 0 0 0 ⟨#[]⟩ ⟨#[]⟩ []
structure Stm where
 kind : Nat
 table : List Nat := []
 index : List Nat := []
 cols : List Co := []
 names : List (List Nat) := []
 uniq : Bool := false
 rows : List (List Ex) := []
 items : List Ite := []
 src : List Src := []
 whr : Ex := zE
 order : List Srt := []
 sets : List Se := []
def wCreate : List Nat := [99, 114, 101, 97, 116, 101]
def wDrop : List Nat := [100, 114, 111, 112]
def wInsert : List Nat := [105, 110, 115, 101, 114, 116]
def wSelect : List Nat := [115, 101, 108, 101, 99, 116]
def wUpdate : List Nat := [117, 112, 100, 97, 116, 101]
def wDelete : List Nat := [100, 101, 108, 101, 116, 101]
def wBegin : List Nat := [98, 101, 103, 105, 110]
def wCommit : List Nat := [99, 111, 109, 109, 105, 116]
def wRollback : List Nat := [114, 111, 108, 108, 98, 97, 99, 107]
def wTable : List Nat := [116, 97, 98, 108, 101]
def wIndex : List Nat := [105, 110, 100, 101, 120]
def wUnique : List Nat := [117, 110, 105, 113, 117, 101]
def wOn : List Nat := [111, 110]
def wInto : List Nat := [105, 110, 116, 111]
def wValues : List Nat := [118, 97, 108, 117, 101, 115]
def wFrom : List Nat := [102, 114, 111, 109]
def wOrder : List Nat := [111, 114, 100, 101, 114]
def wBy : List Nat := [98, 121]
def wAs : List Nat := [97, 115]
def wInner : List Nat := [105, 110, 110, 101, 114]
def wJoin : List Nat := [106, 111, 105, 110]
def wWhere : List Nat := [119, 104, 101, 114, 101]
def wDesc : List Nat := [100, 101, 115, 99]
def wSet : List Nat := [115, 101, 116]
def wBool : List Nat := [98, 111, 111, 108]
def wText : List Nat := [116, 101, 120, 116]
def gotP (w : List Nat) (s : PS) : Bool × PS := if atP w s = true then (true, s.next) else (false, s)
def lsP {α : Type} (one : PS → RX α) (most : Nat) : Nat → List α → PS → RX (List α)
 | 0, _, _ => none
 | n + 1, acc, s => if atP [44] s = true then
   (if acc.length < most then bindR (one s.next) fun a s1 => lsP one most n (acc ++ [a]) s1 else failR 151)
  else retR acc s
def listP {α : Type} (one : PS → RX α) (most n : Nat) (s : PS) : RX (List α) := bindR (one s) fun a s1 => lsP one most n [a] s1
def enclP {α : Type} (one : PS → RX α) (most n : Nat) (s : PS) : RX (List α) :=
 bindR (needP [40] s) fun _ s1 => bindR (listP one most n s1) fun l s2 => bindR (needP [41] s2) fun _ s3 => retR l s3
section
variable (isName : List Nat → Bool) (n : Nat)
def wholeP (s : PS) : RX Ex := bindR (px isName n 0 s) fun e s1 => retR e { s1 with deep := max s1.deep (depR e) }
def whereP (s : PS) : RX Ex := if atP wWhere s = true then wholeP isName n s.next else retR zE s
def aliasP (s : PS) : RX (List Nat) := if atP wAs s = true then nameP isName s.next else retR [] s
def typeP (s : PS) : RX Nat :=
 if atP wInt s = true then retR 2 s.next else if atP wReal s = true then retR 3 s.next else if atP wBool s = true then retR 1 s.next
 else bindR (needP wText s) fun _ s1 => retR 4 s1
def colP (s : PS) : RX Co := bindR (nameP isName s) fun c s1 => bindR (typeP s1) fun t s2 =>
 if atP wNot s2 = true then bindR (needP wNull s2.next) fun _ s3 => retR ⟨c, t, true⟩ s3 else retR ⟨c, t, false⟩ s2
def itemP (s : PS) : RX Ite := bindR (wholeP isName n s) fun e s1 => bindR (aliasP isName s1) fun a s2 => retR ⟨e, a⟩ s2
def sourceP (s : PS) : RX Src := bindR (nameP isName s) fun t s1 => bindR (aliasP isName s1) fun a s2 => retR ⟨t, a, zE⟩ s2
def sourcesP : Nat → List Src → PS → RX (List Src)
 | 0, _, _ => none
 | m + 1, acc, s => if atP wInner s = true ∨ atP wJoin s = true then
   (if acc.length < 4 then bindR (needP wJoin (gotP wInner s).2) fun _ s1 => bindR (sourceP isName s1) fun x s2 => bindR (needP wOn s2) fun _ s3 => bindR (wholeP isName n s3) fun e s4 => sourcesP m (acc ++ [{ x with on_ := e }]) s4
   else failR 151)
  else retR acc s
def sortP (s : PS) : RX Srt := bindR (wholeP isName n s) fun e s1 => let g := gotP wDesc s1; retR ⟨e, g.1⟩ g.2
def setP (s : PS) : RX Se := bindR (nameP isName s) fun c s1 => bindR (needP [61] s1) fun _ s2 => bindR (wholeP isName n s2) fun e s3 => retR ⟨c, e⟩ s3
def createP (s : PS) : RX Stm :=
 if atP wTable s = true then bindR (nameP isName s.next) fun t s1 => bindR (enclP (colP isName) 16 n s1) fun c s2 => retR { kind := 1, table := t, cols := c } s2
 else let g := gotP wUnique s
  bindR (needP wIndex g.2) fun _ s1 => bindR (nameP isName s1) fun i s2 => bindR (needP wOn s2) fun _ s3 => bindR (nameP isName s3) fun t s4 => bindR (enclP (nameP isName) 4 n s4) fun c s5 =>
   retR { kind := 3, table := t, index := i, names := c, uniq := g.1 } s5
def dropP (s : PS) : RX Stm :=
 if atP wTable s = true then bindR (nameP isName s.next) fun t s1 => retR { kind := 2, table := t } s1
 else bindR (needP wIndex s) fun _ s1 => bindR (nameP isName s1) fun i s2 => retR { kind := 4, index := i } s2
def insertP (s : PS) : RX Stm := bindR (needP wInto s) fun _ s1 => bindR (nameP isName s1) fun t s2 => bindR (needP wValues s2) fun _ s3 =>
 bindR (listP (enclP (wholeP isName n) 50 n) 50 n s3) fun r s4 => retR { kind := 5, table := t, rows := r } s4
def itemsP (s : PS) : RX (List Ite) := if atP [42] s = true then retR [] s.next else listP (itemP isName n) 50 n s
def orderP (s : PS) : RX (List Srt) := if atP wOrder s = true then bindR (needP wBy s.next) fun _ s1 => listP (sortP isName n) 50 n s1 else retR [] s
def queryP (s : PS) : RX Stm := bindR (itemsP isName n s) fun i s1 => bindR (needP wFrom s1) fun _ s2 => bindR (sourceP isName s2) fun f s3 => bindR (sourcesP isName n n [f] s3) fun fs s4 =>
 bindR (whereP isName n s4) fun w s5 => bindR (orderP isName n s5) fun o s6 => retR { kind := 6, items := i, src := fs, whr := w, order := o } s6
def updateP (s : PS) : RX Stm := bindR (nameP isName s) fun t s1 => bindR (needP wSet s1) fun _ s2 => bindR (listP (setP isName n) 50 n s2) fun x s3 => bindR (whereP isName n s3) fun w s4 =>
 retR { kind := 7, table := t, sets := x, whr := w } s4
def deleteP (s : PS) : RX Stm := bindR (needP wFrom s) fun _ s1 => bindR (nameP isName s1) fun t s2 => bindR (whereP isName n s2) fun w s3 => retR { kind := 8, table := t, whr := w } s3
def stmtP (s : PS) : RX Stm :=
 if atP wCreate s = true then createP isName n s.next else if atP wDrop s = true then dropP isName s.next else if atP wInsert s = true then insertP isName n s.next
 else if atP wSelect s = true then queryP isName n s.next else if atP wUpdate s = true then updateP isName n s.next else if atP wDelete s = true then deleteP isName n s.next
 else if atP wBegin s = true then retR { kind := 9 } s.next else if atP wCommit s = true then retR { kind := 10 } s.next
 else bindR (needP wRollback s) fun _ s1 => retR { kind := 11 } s1
def parseP (ts : List Tk) : Option (Except Nat Stm) := match stmtP isName n ⟨ts, 0, 0⟩ with
 | none => none
 | some (.error e) => some (.error e)
 | some (.ok (st, s)) => if s.rest = [] then (if s.deep ≤ 40 then some (.ok st) else some (.error 5)) else some (.error 130)
end
end Go.Proofs.YtofnkfjhmjecjaaGreatDoor
