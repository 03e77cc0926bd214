/-
  Texts of mine put together, in build order.
  Conditions: as each declaration says.
-/
import Derived.Lib.ConvBytes
import Derived.Shelf.Small.Strs
import Derived.Shelf.Bytes.SlCase
import Derived.Shelf.Strconv.ParseIntPublic10
import Derived.Test.YtkffomfbnbcgaaaGreatDoorZp1
namespace Go.Proofs.YtkffomfbnbcgaaaGreatDoor
set_option maxRecDepth 100000
set_option linter.unusedVariables false
set_option linter.unusedSimpArgs false

/-- an expression, as api.Expr has it -/
inductive Ex where
  | mk (op kind num scale : Int) (text qual : ByteArray) (args : List Ex)
/-- the reader: the tokens that are left, the parentheses that are open, the greatest depth so far -/
structure PS where
  rest : List Tk
  opn : Nat
  deep : Nat
abbrev RX (α : Type) := Option (Except Nat (α × PS))
/-- first the one, then the other -/
def bindR {α β : Type} (x : RX α) (f : α → PS → RX β) : RX β := match x with
  | none => none
  | some (.error e) => some (.error e)
  | some (.ok (a, s)) => f a s
def failR {α : Type} (e : Nat) : RX α := some (.error e)
def retR {α : Type} (a : α) (s : PS) : RX α := some (.ok (a, s))
/-- a word or a sign comes next -/
def atP (w : List Nat) (s : PS) : Bool := match s.rest with
  | [] => false
  | t :: _ => t.text == w && !(t.kind == 4)
/-- passed over -/
def PS.next (s : PS) : PS := { s with rest := s.rest.tail }
/-- it must come next -/
def needP (w : List Nat) (s : PS) : RX Unit := if atP w s = true then retR () s.next else failR 130
/-- which of these comes next -/
def whichP : List (List Nat × Nat) → PS → Option Nat
  | [], _ => none
  | (w, op) :: r, s => if atP w s = true then some op else whichP r s
def mk1 (op : Nat) (a : Ex) : Ex := .mk op 0 0 0 ⟨#[]⟩ ⟨#[]⟩ [a]
def mk2 (op : Nat) (a b : Ex) : Ex := .mk op 0 0 0 ⟨#[]⟩ ⟨#[]⟩ [a, b]
def cst (kind num scale : Int) (text : ByteArray) : Ex := .mk 21 kind num scale text ⟨#[]⟩ []

def wOr : List Nat := [111, 114]
def wAnd : List Nat := [97, 110, 100]
def wNot : List Nat := [110, 111, 116]
def wIs : List Nat := [105, 115]
def wNull : List Nat := [110, 117, 108, 108]
def wTrue : List Nat := [116, 114, 117, 101]
def wFalse : List Nat := [102, 97, 108, 115, 101]
def wNan : List Nat := [110, 97, 110]
def wInf : List Nat := [105, 110, 102, 105, 110, 105, 116, 121]
def wInt : List Nat := [105, 110, 116]
def wReal : List Nat := [114, 101, 97, 108]
/-- the operators of a level -/
def opsP : Nat → List (List Nat × Nat)
  | 0 => [(wOr, 18)]
  | 1 => [(wAnd, 17)]
  | 3 => [([61], 1), ([60, 62], 2), ([60], 3), ([60, 61], 4), ([62], 5), ([62, 61], 6)]
  | 4 => [([43], 7), ([45], 8), ([124, 124], 12)]
  | 5 => [([42], 9), ([47], 10), ([37], 11)]
  | _ => []
section
variable (isName : List Nat → Bool)
/-- a name must come next -/
def nameP (s : PS) : RX (List Nat) := match s.rest with
  | [] => failR 130
  | t :: r => if t.kind = 1 ∧ isName t.text = true then retR t.text { s with rest := r } else failR 130
mutual
/-- an expression of a level: 0 or, 1 and, 2 not, 3 test, 4 sum, 5 term, 6 sign, 7 one -/
def px : Nat → Nat → PS → RX Ex
  | 0, _, _ => none
  | n + 1, 2, s => if atP wNot s = true then bindR (px n 2 s.next) fun e s1 => retR (mk1 16 e) s1 else px n 3 s
  | n + 1, 3, s => bindR (px n 4 s) fun e s1 =>
      if atP wIs s1 = true then
        let s2 := s1.next
        if atP wNot s2 = true then bindR (needP wNull s2.next) fun _ s3 => retR (mk1 20 e) s3
        else bindR (needP wNull s2) fun _ s3 => retR (mk1 19 e) s3
      else match whichP (opsP 3) s1 with
        | none => retR e s1
        | some op => bindR (px n 4 s1.next) fun f s2 => retR (mk2 op e f) s2
  | n + 1, 6, s => if atP [45] s = true then bindR (px n 6 s.next) fun e s1 => retR (mk1 13 e) s1 else px n 7 s
  | n + 1, 7, s => match s.rest with
      | [] => failR 130
      | t :: r =>
        let s1 : PS := { s with rest := r }
        if t.kind = 2 then retR (cst 2 t.num 0 ⟨#[]⟩) s1
        else if t.kind = 3 then retR (cst 3 t.num t.scale ⟨#[]⟩) s1
        else if t.kind = 4 then retR (cst 4 0 0 (strB t.text)) s1
        else if t.kind = 1 then
          (if t.text = wNull then retR (cst 0 0 0 ⟨#[]⟩) s1
          else if t.text = wFalse then retR (cst 1 0 0 ⟨#[]⟩) s1
          else if t.text = wTrue then retR (cst 1 1 0 ⟨#[]⟩) s1
          else if t.text = wNan then retR (cst 3 0 (-1) ⟨#[]⟩) s1
          else if t.text = wInf then retR (cst 3 0 (-2) ⟨#[]⟩) s1
          else if t.text = wInt then bindR (needP [40] s1) fun _ s2 => bindR (px n 8 s2) fun e s3 => retR (mk1 14 e) s3
          else if t.text = wReal then bindR (needP [40] s1) fun _ s2 => bindR (px n 8 s2) fun e s3 => retR (mk1 15 e) s3
          else if isName t.text = true then
            (if atP [46] s1 = true then bindR (nameP isName s1.next) fun c s2 => retR (.mk 22 0 0 0 (strB c) (strB t.text) []) s2
            else retR (.mk 22 0 0 0 (strB t.text) ⟨#[]⟩ []) s1)
          else failR 130)
        else if t.text = [40] then px n 8 s1 else failR 130
  | n + 1, 8, s => if s.opn < 40 then bindR (px n 0 { s with opn := s.opn + 1 }) fun e s1 => bindR (needP [41] s1) fun _ s2 => retR e { s2 with opn := s2.opn - 1 } else failR 5
  | n + 1, lvl, s => bindR (px n (lvl + 1) s) fun e s1 => pc n lvl e s1
/-- operands with the operators of a level between, the left ones first -/
def pc : Nat → Nat → Ex → PS → RX Ex
  | 0, _, _, _ => none
  | n + 1, lvl, e, s => match whichP (opsP lvl) s with
    | none => retR e s
    | some op => bindR (px n (lvl + 1) s.next) fun f s1 => pc n lvl (mk2 op e f) s1
end
theorem bindR_none {α β : Type} (f : α → PS → RX β) : bindR (none : RX α) f = none := rfl
/-- more fuel tells no other -/
def MoreR {α : Type} (x y : RX α) : Prop := ∀ r, x = some r → y = some r
theorem MoreR.refl {α : Type} (x : RX α) : MoreR x x := fun _ h => h
theorem MoreR.bind {α β : Type} {x y : RX α} {f g : α → PS → RX β} (h : MoreR x y) (hf : ∀ a s, MoreR (f a s) (g a s)) : MoreR (bindR x f) (bindR y g) := fun r hr => by
  unfold bindR at hr ⊢
  match x, h with
  | none, _ => cases hr
  | some (.error e), h => rw [h _ rfl]; exact hr
  | some (.ok (a, s)), h => rw [h _ rfl]; exact hf a s r hr
theorem MoreR.ite {α : Type} {p : Prop} [Decidable p] {x y x' y' : RX α} (h : MoreR x y) (h' : MoreR x' y') : MoreR (if p then x else x') (if p then y else y') := by
  by_cases c : p
  · rw [if_pos c, if_pos c]; exact h
  · rw [if_neg c, if_neg c]; exact h'
theorem px_more : ∀ n, (∀ lvl s, MoreR (px isName n lvl s) (px isName (n + 1) lvl s)) ∧ ∀ lvl e s, MoreR (pc isName n lvl e s) (pc isName (n + 1) lvl e s)
  | 0 => ⟨(fun lvl s r h => by rw [px] at h; cases h), (fun lvl e s r h => by rw [pc] at h; cases h)⟩
  | n + 1 => by
    obtain ⟨ih1, ih2⟩ := px_more n
    have hpc : ∀ lvl e s, MoreR (pc isName (n + 1) lvl e s) (pc isName (n + 1 + 1) lvl e s) := fun lvl e s => by
      rw [pc, pc]
      split
      · exact MoreR.refl _
      · exact (ih1 _ _).bind fun _ _ => ih2 _ _ _
    refine ⟨fun lvl s => ?_, hpc⟩
    match lvl with
    | 2 => rw [px, px]; exact ((ih1 _ _).bind fun _ _ => MoreR.refl _).ite (ih1 _ _)
    | 3 =>
      rw [px, px]
      refine (ih1 _ _).bind fun e s1 => MoreR.ite (MoreR.refl _) ?_
      split
      · exact MoreR.refl _
      · exact (ih1 _ _).bind fun _ _ => MoreR.refl _
    | 6 => rw [px, px]; exact ((ih1 _ _).bind fun _ _ => MoreR.refl _).ite (ih1 _ _)
    | 7 =>
      rw [px, px]
      split
      · exact MoreR.refl _
      · refine MoreR.ite (MoreR.refl _) (MoreR.ite (MoreR.refl _) (MoreR.ite (MoreR.refl _) (MoreR.ite ?_ (MoreR.ite (ih1 _ _) (MoreR.refl _)))))
        refine MoreR.ite (MoreR.refl _) (MoreR.ite (MoreR.refl _) (MoreR.ite (MoreR.refl _) (MoreR.ite (MoreR.refl _) (MoreR.ite (MoreR.refl _) (MoreR.ite ?_ (MoreR.ite ?_ (MoreR.refl _)))))))
        · exact (MoreR.refl _).bind fun _ _ => (ih1 _ _).bind fun _ _ => MoreR.refl _
        · exact (MoreR.refl _).bind fun _ _ => (ih1 _ _).bind fun _ _ => MoreR.refl _
    | 8 => rw [px, px]; exact ((ih1 _ _).bind fun _ _ => MoreR.refl _).ite (MoreR.refl _)
    | 0 => rw [px, px] <;> first | exact (ih1 _ _).bind fun _ _ => ih2 _ _ _ | (intros; omega)
    | 1 => rw [px, px] <;> first | exact (ih1 _ _).bind fun _ _ => ih2 _ _ _ | (intros; omega)
    | 4 => rw [px, px] <;> first | exact (ih1 _ _).bind fun _ _ => ih2 _ _ _ | (intros; omega)
    | 5 => rw [px, px] <;> first | exact (ih1 _ _).bind fun _ _ => ih2 _ _ _ | (intros; omega)
    | k + 9 => rw [px, px] <;> first | exact (ih1 _ _).bind fun _ _ => ih2 _ _ _ | (intros; omega)
theorem px_le {n m lvl : Nat} {s : PS} (h : n ≤ m) : MoreR (px isName n lvl s) (px isName m lvl s) := by
  induction h with
  | refl => exact MoreR.refl _
  | step _ ih => exact fun r hr => (px_more isName _).1 _ _ r (ih r hr)
theorem pc_le {n m lvl : Nat} {e : Ex} {s : PS} (h : n ≤ m) : MoreR (pc isName n lvl e s) (pc isName m lvl e s) := by
  induction h with
  | refl => exact MoreR.refl _
  | step _ ih => exact fun r hr => (px_more isName _).2 _ _ _ r (ih r hr)
end
theorem bindR_ok {α β : Type} {x : RX α} {f : α → PS → RX β} {b : β} {s' : PS} (h : bindR x f = some (.ok (b, s'))) : ∃ a s1, x = some (.ok (a, s1)) ∧ f a s1 = some (.ok (b, s')) := by
  unfold bindR at h
  match x, h with
  | some (.ok (a, s)), h => exact ⟨a, s, rfl, h⟩
theorem ite_or {α : Type} {p : Prop} [Decidable p] {x y z : α} (h : (if p then x else y) = z) : (p ∧ x = z) ∨ (¬ p ∧ y = z) := by
  by_cases c : p
  · rw [if_pos c] at h; exact .inl ⟨c, h⟩
  · rw [if_neg c] at h; exact .inr ⟨c, h⟩
theorem retR_ok {α : Type} {a b : α} {s s' : PS} (h : retR a s = some (.ok (b, s'))) : a = b ∧ s = s' := by
  unfold retR at h
  injection h with h
  injection h with h
  injection h with h1 h2
  exact ⟨h1, h2⟩
theorem atP_len {w : List Nat} {s : PS} (h : atP w s = true) : s.next.rest.length + 1 = s.rest.length := by
  unfold atP at h
  unfold PS.next
  cases e : s.rest with
  | nil => rw [e] at h; cases h
  | cons t r => simp
theorem needP_ok {w : List Nat} {s s' : PS} {u : Unit} (h : needP w s = some (.ok (u, s'))) : atP w s = true ∧ s' = s.next := by
  unfold needP at h
  by_cases c : atP w s = true
  · rw [if_pos c] at h; exact ⟨c, (retR_ok h).2.symm⟩
  · rw [if_neg c] at h; cases h
theorem whichP_len {l : List (List Nat × Nat)} {s : PS} {op : Nat} (h : whichP l s = some op) : s.next.rest.length + 1 = s.rest.length := by
  induction l with
  | nil => cases h
  | cons x r ih =>
    obtain ⟨w, o⟩ := x
    unfold whichP at h
    by_cases c : atP w s = true
    · exact atP_len c
    · rw [if_neg c] at h; exact ih h
/-- what a reading leaves: fewer tokens, the same parentheses, the same depth -/
def UseS (s s' : PS) : Prop := s'.rest.length < s.rest.length ∧ s'.opn = s.opn ∧ s'.deep = s.deep
def UseL (s s' : PS) : Prop := s'.rest.length ≤ s.rest.length ∧ s'.opn = s.opn ∧ s'.deep = s.deep
theorem nameP_ok {isName : List Nat → Bool} {s s' : PS} {c : List Nat} (h : nameP isName s = some (.ok (c, s'))) : UseS s s' := by
  unfold nameP at h
  cases e : s.rest with
  | nil => rw [e] at h; cases h
  | cons t r =>
    rw [e] at h
    dsimp only at h
    by_cases c : t.kind = 1 ∧ isName t.text = true
    · rw [if_pos c] at h
      obtain ⟨-, rfl⟩ := retR_ok h
      exact ⟨by rw [e]; simp, rfl, rfl⟩
    · rw [if_neg c] at h; cases h
section
variable (isName : List Nat → Bool)
theorem px_uses : ∀ n, (∀ lvl s e s', px isName n lvl s = some (.ok (e, s')) → UseS s s') ∧ ∀ lvl e0 s e s', pc isName n lvl e0 s = some (.ok (e, s')) → UseL s s'
  | 0 => ⟨(fun lvl s e s' h => by rw [px] at h; cases h), (fun lvl e0 s e s' h => by rw [pc] at h; cases h)⟩
  | n + 1 => by
    obtain ⟨ih1, ih2⟩ := px_uses n
    have chain : ∀ lvl s e s', bindR (px isName n (lvl + 1) s) (fun e s1 => pc isName n lvl e s1) = some (.ok (e, s')) → UseS s s' := fun lvl s e s' h => by
      obtain ⟨a, s1, h1, h2⟩ := bindR_ok h
      obtain ⟨a1, a2, a3⟩ := ih1 _ _ _ _ h1
      obtain ⟨b1, b2, b3⟩ := ih2 _ _ _ _ _ h2
      exact ⟨by omega, by omega, by omega⟩
    refine ⟨fun lvl s e s' h => ?_, fun lvl e0 s e s' h => ?_⟩
    · match lvl, h with
      | 0, h => rw [px] at h <;> first | exact chain _ _ _ _ h | (intros; omega)
      | 1, h => rw [px] at h <;> first | exact chain _ _ _ _ h | (intros; omega)
      | 4, h => rw [px] at h <;> first | exact chain _ _ _ _ h | (intros; omega)
      | 5, h => rw [px] at h <;> first | exact chain _ _ _ _ h | (intros; omega)
      | k + 9, h => rw [px] at h <;> first | exact chain _ _ _ _ h | (intros; omega)
      | 2, h =>
        rw [px] at h
        by_cases c : atP wNot s = true
        · rw [if_pos c] at h
          obtain ⟨a, s1, h1, h2⟩ := bindR_ok h
          obtain ⟨-, rfl⟩ := retR_ok h2
          obtain ⟨a1, a2, a3⟩ := ih1 _ _ _ _ h1
          have := atP_len c
          exact ⟨by omega, a2, a3⟩
        · rw [if_neg c] at h; exact ih1 _ _ _ _ h
      | 6, h =>
        rw [px] at h
        by_cases c : atP [45] s = true
        · rw [if_pos c] at h
          obtain ⟨a, s1, h1, h2⟩ := bindR_ok h
          obtain ⟨-, rfl⟩ := retR_ok h2
          obtain ⟨a1, a2, a3⟩ := ih1 _ _ _ _ h1
          have := atP_len c
          exact ⟨by omega, a2, a3⟩
        · rw [if_neg c] at h; exact ih1 _ _ _ _ h
      | 3, h =>
        rw [px] at h
        obtain ⟨a, s1, h1, h2⟩ := bindR_ok h
        obtain ⟨a1, a2, a3⟩ := ih1 _ _ _ _ h1
        by_cases c : atP wIs s1 = true
        · rw [if_pos c] at h2
          have l1 := atP_len c
          dsimp only at h2
          by_cases c2 : atP wNot s1.next = true
          · rw [if_pos c2] at h2
            obtain ⟨u, s3, h3, h4⟩ := bindR_ok h2
            obtain ⟨-, rfl⟩ := retR_ok h4
            obtain ⟨c3, rfl⟩ := needP_ok h3
            have l2 := atP_len c2
            have l3 := atP_len c3
            exact ⟨by omega, a2, a3⟩
          · rw [if_neg c2] at h2
            obtain ⟨u, s3, h3, h4⟩ := bindR_ok h2
            obtain ⟨-, rfl⟩ := retR_ok h4
            obtain ⟨c3, rfl⟩ := needP_ok h3
            have l3 := atP_len c3
            exact ⟨by omega, a2, a3⟩
        · rw [if_neg c] at h2
          split at h2
          · obtain ⟨-, rfl⟩ := retR_ok h2
            exact ⟨a1, a2, a3⟩
          · rename_i op hw
            obtain ⟨f, s2, h3, h4⟩ := bindR_ok h2
            obtain ⟨-, rfl⟩ := retR_ok h4
            obtain ⟨b1, b2, b3⟩ := ih1 _ _ _ _ h3
            have := whichP_len hw
            exact ⟨by omega, b2.trans a2, b3.trans a3⟩
      | 7, h =>
        rw [px] at h
        cases er : s.rest with
        | nil => rw [er] at h; cases h
        | cons t r =>
          rw [er] at h
          dsimp only at h
          have base : UseS s { s with rest := r } := ⟨by rw [er]; simp, rfl, rfl⟩
          have inner : ∀ e s', px isName n 8 { s with rest := r } = some (.ok (e, s')) → UseS s s' := fun e s' h => by
            obtain ⟨b1, b2, b3⟩ := ih1 _ _ _ _ h
            exact ⟨Nat.lt_trans b1 base.1, b2, b3⟩
          have call : ∀ (op : Nat) e s', (bindR (needP [40] { s with rest := r }) fun _ s2 => bindR (px isName n 8 s2) fun e s3 => retR (mk1 op e) s3) = some (.ok (e, s')) → UseS s s' := fun op e s' h => by
            obtain ⟨u, s2, h1, h2⟩ := bindR_ok h
            obtain ⟨a, s3, h3, h4⟩ := bindR_ok h2
            obtain ⟨-, rfl⟩ := retR_ok h4
            obtain ⟨c1, rfl⟩ := needP_ok h1
            obtain ⟨b1, b2, b3⟩ := ih1 _ _ _ _ h3
            have l1 := atP_len c1
            have l2 := base.1
            exact ⟨by omega, b2, b3⟩
          rcases ite_or h with ⟨-, h⟩ | ⟨-, h⟩
          · obtain ⟨-, rfl⟩ := retR_ok h; exact base
          rcases ite_or h with ⟨-, h⟩ | ⟨-, h⟩
          · obtain ⟨-, rfl⟩ := retR_ok h; exact base
          rcases ite_or h with ⟨-, h⟩ | ⟨-, h⟩
          · obtain ⟨-, rfl⟩ := retR_ok h; exact base
          rcases ite_or h with ⟨-, h⟩ | ⟨-, h⟩
          · rcases ite_or h with ⟨-, h⟩ | ⟨-, h⟩
            · obtain ⟨-, rfl⟩ := retR_ok h; exact base
            rcases ite_or h with ⟨-, h⟩ | ⟨-, h⟩
            · obtain ⟨-, rfl⟩ := retR_ok h; exact base
            rcases ite_or h with ⟨-, h⟩ | ⟨-, h⟩
            · obtain ⟨-, rfl⟩ := retR_ok h; exact base
            rcases ite_or h with ⟨-, h⟩ | ⟨-, h⟩
            · obtain ⟨-, rfl⟩ := retR_ok h; exact base
            rcases ite_or h with ⟨-, h⟩ | ⟨-, h⟩
            · obtain ⟨-, rfl⟩ := retR_ok h; exact base
            rcases ite_or h with ⟨-, h⟩ | ⟨-, h⟩
            · exact call _ _ _ h
            rcases ite_or h with ⟨-, h⟩ | ⟨-, h⟩
            · exact call _ _ _ h
            rcases ite_or h with ⟨-, h⟩ | ⟨-, h⟩
            · rcases ite_or h with ⟨cq, h⟩ | ⟨-, h⟩
              · obtain ⟨c, s2, h1, h2⟩ := bindR_ok h
                obtain ⟨-, rfl⟩ := retR_ok h2
                obtain ⟨b1, b2, b3⟩ := nameP_ok h1
                have l1 := atP_len cq
                have l2 := base.1
                exact ⟨by omega, b2, b3⟩
              · obtain ⟨-, rfl⟩ := retR_ok h; exact base
            · cases h
          rcases ite_or h with ⟨-, h⟩ | ⟨-, h⟩
          · exact inner _ _ h
          · cases h
      | 8, h =>
        rw [px] at h
        by_cases c : s.opn < 40
        · rw [if_pos c] at h
          obtain ⟨a, s1, h1, h2⟩ := bindR_ok h
          obtain ⟨u, s2, h3, h4⟩ := bindR_ok h2
          obtain ⟨-, rfl⟩ := retR_ok h4
          obtain ⟨c1, rfl⟩ := needP_ok h3
          obtain ⟨b1, b2, b3⟩ := ih1 _ _ _ _ h1
          have l1 := atP_len c1
          refine ⟨?_, ?_, b3⟩
          · show s1.next.rest.length < s.rest.length
            have : s1.rest.length < s.rest.length := b1
            omega
          · show s1.opn - 1 = s.opn
            have : s1.opn = s.opn + 1 := b2
            omega
        · rw [if_neg c] at h; cases h
    · rw [pc] at h
      split at h
      · obtain ⟨-, rfl⟩ := retR_ok h
        exact ⟨Nat.le_refl _, rfl, rfl⟩
      · rename_i op hw
        obtain ⟨f, s1, h1, h2⟩ := bindR_ok h
        obtain ⟨a1, a2, a3⟩ := ih1 _ _ _ _ h1
        obtain ⟨b1, b2, b3⟩ := ih2 _ _ _ _ _ h2
        have := whichP_len hw
        exact ⟨by omega, b2.trans a2, b3.trans a3⟩
end
section
variable (isName : List Nat → Bool)
def TotX (lvl : Nat) (s : PS) : Prop := ∃ n r, px isName n lvl s = some r
def TotC (lvl : Nat) (e : Ex) (s : PS) : Prop := ∃ n r, pc isName n lvl e s = some r
theorem tot_bind {α β : Type} {x : Nat → RX α} {g : Nat → α → PS → RX β} (mx : ∀ n m, n ≤ m → MoreR (x n) (x m)) (mg : ∀ n m a s, n ≤ m → MoreR (g n a s) (g m a s)) (h : ∃ n r, x n = some r) (hg : ∀ n a s, x n = some (.ok (a, s)) → ∃ m r, g m a s = some r) : ∃ n r, bindR (x n) (g n) = some r := by
  obtain ⟨n, r, hr⟩ := h
  match r, hr with
  | .error e, hr => exact ⟨n, .error e, by rw [hr]; rfl⟩
  | .ok (a, s), hr =>
    obtain ⟨m, r, hm⟩ := hg n a s hr
    refine ⟨n + m, r, ?_⟩
    rw [mx n (n + m) (by omega) _ hr]
    exact mg m (n + m) a s (by omega) r hm
theorem tot_const {α : Type} (x : RX α) (h : x ≠ none) : ∃ n : Nat, ∃ r, (fun _ : Nat => x) n = some r := by
  cases x with
  | none => exact absurd rfl h
  | some r => exact ⟨0, r, rfl⟩
theorem needP_tot (w : List Nat) (s : PS) : needP w s ≠ none := by
  unfold needP
  split <;> (intro h; cases h)
theorem nameP_tot (s : PS) : nameP isName s ≠ none := by
  unfold nameP
  split
  · intro h; cases h
  · split <;> (intro h; cases h)
theorem tot_chain {lvl : Nat} {s : PS} (hl : lvl = 0 ∨ lvl = 1 ∨ lvl = 4 ∨ lvl = 5) (h : TotX isName (lvl + 1) s) (hc : ∀ e s', s'.rest.length < s.rest.length → TotC isName lvl e s') : TotX isName lvl s := by
  obtain ⟨n, r, hr⟩ := tot_bind (x := fun n => px isName n (lvl + 1) s) (g := fun n e s1 => pc isName n lvl e s1) (fun n m h => px_le isName h) (fun n m a s h => pc_le isName h) h (fun n a s1 hs => hc a s1 ((px_uses isName n).1 _ _ _ _ hs).1)
  refine ⟨n + 1, r, ?_⟩
  rcases hl with rfl | rfl | rfl | rfl <;> (rw [px] <;> first | exact hr | (intros; omega))
theorem px_total : ∀ L s, s.rest.length = L → (∀ lvl, lvl ≤ 8 → TotX isName lvl s) ∧ ∀ lvl e, lvl ≤ 7 → TotC isName lvl e s := by
  intro L
  induction L using Nat.strongRecOn with
  | ind L ih =>
  have H : ∀ s : PS, s.rest.length = L → TotX isName 7 s ∧ TotX isName 6 s ∧ TotX isName 5 s ∧ TotX isName 4 s ∧ TotX isName 3 s ∧ TotX isName 2 s ∧ TotX isName 1 s ∧ TotX isName 0 s := by
    intro s hs
    have small : ∀ s', s'.rest.length < s.rest.length → (∀ lvl, lvl ≤ 8 → TotX isName lvl s') ∧ ∀ lvl e, lvl ≤ 7 → TotC isName lvl e s' := fun s' h => ih _ (by omega) s' rfl
    have one : ∀ (op : Nat) lvl s', TotX isName lvl s' → ∃ n r, bindR (px isName n lvl s') (fun e s1 => retR (mk1 op e) s1) = some r := fun op lvl s' h =>
      tot_bind (x := fun n => px isName n lvl s') (g := fun _ e s1 => retR (mk1 op e) s1) (fun n m h => px_le isName h) (fun _ _ _ _ _ => MoreR.refl _) h (fun _ a s1 _ => ⟨0, _, rfl⟩)
    have t7 : TotX isName 7 s := by
      cases er : s.rest with
      | nil => exact ⟨1, .error 130, by rw [px, er]; rfl⟩
      | cons t r =>
        have sm := small { s with rest := r } (by rw [er]; simp)
        obtain ⟨n8, r8, h8⟩ := sm.1 8 (Nat.le_refl _)
        have hcall : ∀ op : Nat, ∃ n r', (bindR (needP [40] { s with rest := r }) fun _ s2 => bindR (px isName n 8 s2) fun e s3 => retR (mk1 op e) s3) = some r' := fun op =>
          tot_bind (x := fun _ => needP [40] { s with rest := r }) (g := fun n _ s2 => bindR (px isName n 8 s2) fun e s3 => retR (mk1 op e) s3) (fun _ _ _ => MoreR.refl _) (fun n m a s h => (px_le isName h).bind fun _ _ => MoreR.refl _) (tot_const _ (needP_tot _ _)) (fun _ u s2 h2 => by
            obtain ⟨c, rfl⟩ := needP_ok h2
            have l1 := atP_len c
            exact one op 8 _ ((small _ (by have : ({ s with rest := r } : PS).rest.length < s.rest.length := by rw [er]; simp
                                           omega)).1 8 (Nat.le_refl _)))
        by_cases k2 : t.kind = 2
        · exact ⟨1, _, by rw [px, er]; simp only [k2, if_true]; rfl⟩
        by_cases k3 : t.kind = 3
        · exact ⟨1, _, by rw [px, er]; simp only [k3]; rfl⟩
        by_cases k4 : t.kind = 4
        · exact ⟨1, _, by rw [px, er]; simp only [k4]; rfl⟩
        by_cases k1 : t.kind = 1
        · by_cases q1 : t.text = wNull
          · exact ⟨1, .ok (_, _), by rw [px, er]; dsimp only; rw [if_neg k2, if_neg k3, if_neg k4, if_pos k1, if_pos q1]; rfl⟩
          by_cases q2 : t.text = wFalse
          · exact ⟨1, .ok (_, _), by rw [px, er]; dsimp only; rw [if_neg k2, if_neg k3, if_neg k4, if_pos k1, if_neg q1, if_pos q2]; rfl⟩
          by_cases q3 : t.text = wTrue
          · exact ⟨1, .ok (_, _), by rw [px, er]; dsimp only; rw [if_neg k2, if_neg k3, if_neg k4, if_pos k1, if_neg q1, if_neg q2, if_pos q3]; rfl⟩
          by_cases q4 : t.text = wNan
          · exact ⟨1, .ok (_, _), by rw [px, er]; dsimp only; rw [if_neg k2, if_neg k3, if_neg k4, if_pos k1, if_neg q1, if_neg q2, if_neg q3, if_pos q4]; rfl⟩
          by_cases q5 : t.text = wInf
          · exact ⟨1, .ok (_, _), by rw [px, er]; dsimp only; rw [if_neg k2, if_neg k3, if_neg k4, if_pos k1, if_neg q1, if_neg q2, if_neg q3, if_neg q4, if_pos q5]; rfl⟩
          by_cases q6 : t.text = wInt
          · obtain ⟨n, r', hr⟩ := hcall 14
            exact ⟨n + 1, r', by rw [px, er]; dsimp only; rw [if_neg k2, if_neg k3, if_neg k4, if_pos k1, if_neg q1, if_neg q2, if_neg q3, if_neg q4, if_neg q5, if_pos q6]; exact hr⟩
          by_cases q7 : t.text = wReal
          · obtain ⟨n, r', hr⟩ := hcall 15
            exact ⟨n + 1, r', by rw [px, er]; dsimp only; rw [if_neg k2, if_neg k3, if_neg k4, if_pos k1, if_neg q1, if_neg q2, if_neg q3, if_neg q4, if_neg q5, if_neg q6, if_pos q7]; exact hr⟩
          by_cases q8 : isName t.text = true
          · by_cases q9 : atP [46] { s with rest := r } = true
            · obtain ⟨n, r', hr⟩ := tot_bind (x := fun _ => nameP isName (PS.next { s with rest := r })) (g := fun (_ : Nat) c s2 => retR (Ex.mk 22 0 0 0 (strB c) (strB t.text) []) s2) (fun _ _ _ => MoreR.refl _) (fun _ _ _ _ _ => MoreR.refl _) (tot_const _ (nameP_tot isName _)) (fun _ a s1 _ => ⟨0, _, rfl⟩)
              exact ⟨n + 1, r', by rw [px, er]; dsimp only; rw [if_neg k2, if_neg k3, if_neg k4, if_pos k1, if_neg q1, if_neg q2, if_neg q3, if_neg q4, if_neg q5, if_neg q6, if_neg q7, if_pos q8, if_pos q9]; exact hr⟩
            · exact ⟨1, .ok (_, _), by rw [px, er]; dsimp only; rw [if_neg k2, if_neg k3, if_neg k4, if_pos k1, if_neg q1, if_neg q2, if_neg q3, if_neg q4, if_neg q5, if_neg q6, if_neg q7, if_pos q8, if_neg q9]; rfl⟩
          · exact ⟨1, .error 130, by rw [px, er]; dsimp only; rw [if_neg k2, if_neg k3, if_neg k4, if_pos k1, if_neg q1, if_neg q2, if_neg q3, if_neg q4, if_neg q5, if_neg q6, if_neg q7, if_neg q8]; rfl⟩
        by_cases k5 : t.text = [40]
        · exact ⟨n8 + 1, r8, by rw [px, er]; dsimp only; rw [if_neg k2, if_neg k3, if_neg k4, if_neg k1, if_pos k5]; exact h8⟩
        · exact ⟨1, .error 130, by rw [px, er]; dsimp only; rw [if_neg k2, if_neg k3, if_neg k4, if_neg k1, if_neg k5]; rfl⟩
    have t6 : TotX isName 6 s := by
      by_cases c : atP [45] s = true
      · obtain ⟨n, r, hr⟩ := one 13 6 s.next ((small _ (by have := atP_len c; omega)).1 6 (by omega))
        exact ⟨n + 1, r, by rw [px, if_pos c]; exact hr⟩
      · obtain ⟨n, r, hr⟩ := t7
        exact ⟨n + 1, r, by rw [px, if_neg c]; exact hr⟩
    have t5 : TotX isName 5 s := tot_chain isName (by omega) t6 (fun e s' h => (small s' h).2 5 e (by omega))
    have t4 : TotX isName 4 s := tot_chain isName (by omega) t5 (fun e s' h => (small s' h).2 4 e (by omega))
    have t3 : TotX isName 3 s := by
      obtain ⟨n, r, hr⟩ := tot_bind (x := fun n => px isName n 4 s) (g := fun n e s1 =>
          if atP wIs s1 = true then
            if atP wNot s1.next = true then bindR (needP wNull s1.next.next) fun _ s3 => retR (mk1 20 e) s3
            else bindR (needP wNull s1.next) fun _ s3 => retR (mk1 19 e) s3
          else match whichP (opsP 3) s1 with
            | none => retR e s1
            | some op => bindR (px isName n 4 s1.next) fun f s2 => retR (mk2 op e f) s2) (fun n m h => px_le isName h)
        (fun n m a s h => by
          refine MoreR.ite (MoreR.refl _) ?_
          split
          · exact MoreR.refl _
          · exact (px_le isName h).bind fun _ _ => MoreR.refl _) t4 (fun n e s1 h1 => by
          have hu := ((px_uses isName n).1 _ _ _ _ h1).1
          by_cases c : atP wIs s1 = true
          · have hnd : ∀ (op : Nat) s', ∃ r, (bindR (needP wNull s') fun _ s3 => retR (mk1 op e) s3) = some r := fun op s' => by
              cases hh : needP wNull s' with
              | none => exact absurd hh (needP_tot _ _)
              | some x => cases x with
                | error e => exact ⟨_, rfl⟩
                | ok y => exact ⟨_, rfl⟩
            by_cases c2 : atP wNot s1.next = true
            · obtain ⟨r, hr⟩ := hnd 20 s1.next.next
              exact ⟨0, r, by rw [if_pos c, if_pos c2]; exact hr⟩
            · obtain ⟨r, hr⟩ := hnd 19 s1.next
              exact ⟨0, r, by rw [if_pos c, if_neg c2]; exact hr⟩
          · cases hw : whichP (opsP 3) s1 with
            | none => exact ⟨0, _, by rw [if_neg c]; rfl⟩
            | some op =>
              have := whichP_len hw
              obtain ⟨m, r, hr⟩ := tot_bind (x := fun n => px isName n 4 s1.next) (g := fun (_ : Nat) f s2 => retR (mk2 op e f) s2) (fun n m h => px_le isName h) (fun _ _ _ _ _ => MoreR.refl _) ((small _ (by omega)).1 4 (by omega)) (fun _ a s1 _ => ⟨0, _, rfl⟩)
              exact ⟨m, r, by rw [if_neg c]; exact hr⟩)
      exact ⟨n + 1, r, by rw [px]; exact hr⟩
    have t2 : TotX isName 2 s := by
      by_cases c : atP wNot s = true
      · obtain ⟨n, r, hr⟩ := one 16 2 s.next ((small _ (by have := atP_len c; omega)).1 2 (by omega))
        exact ⟨n + 1, r, by rw [px, if_pos c]; exact hr⟩
      · obtain ⟨n, r, hr⟩ := t3
        exact ⟨n + 1, r, by rw [px, if_neg c]; exact hr⟩
    have t1 : TotX isName 1 s := tot_chain isName (by omega) t2 (fun e s' h => (small s' h).2 1 e (by omega))
    have t0 : TotX isName 0 s := tot_chain isName (by omega) t1 (fun e s' h => (small s' h).2 0 e (by omega))
    exact ⟨t7, t6, t5, t4, t3, t2, t1, t0⟩
  intro s hs
  have small : ∀ s', s'.rest.length < s.rest.length → (∀ lvl, lvl ≤ 8 → TotX isName lvl s') ∧ ∀ lvl e, lvl ≤ 7 → TotC isName lvl e s' := fun s' h => ih _ (by omega) s' rfl
  obtain ⟨t7, t6, t5, t4, t3, t2, t1, t0⟩ := H s hs
  have t8 : TotX isName 8 s := by
    by_cases c : s.opn < 40
    · obtain ⟨n, r, hr⟩ := tot_bind (x := fun n => px isName n 0 { s with opn := s.opn + 1 }) (g := fun (_ : Nat) e s1 => bindR (needP [41] s1) fun _ s2 => retR e { s2 with opn := s2.opn - 1 }) (fun n m h => px_le isName h) (fun _ _ _ _ _ => MoreR.refl _) (H _ (by exact hs)).2.2.2.2.2.2.2 (fun _ e s1 _ => by
        cases hh : needP [41] s1 with
        | none => exact absurd hh (needP_tot _ _)
        | some x => cases x with
          | error e => exact ⟨0, _, rfl⟩
          | ok y => exact ⟨0, _, rfl⟩)
      exact ⟨n + 1, r, by rw [px, if_pos c]; exact hr⟩
    · exact ⟨1, .error 5, by rw [px, if_neg c]; rfl⟩
  refine ⟨fun lvl hl => ?_, fun lvl e hl => ?_⟩
  · match lvl, hl with
    | 0, _ => exact t0
    | 1, _ => exact t1
    | 2, _ => exact t2
    | 3, _ => exact t3
    | 4, _ => exact t4
    | 5, _ => exact t5
    | 6, _ => exact t6
    | 7, _ => exact t7
    | 8, _ => exact t8
  · cases hw : whichP (opsP lvl) s with
    | none => exact ⟨1, .ok (e, s), by rw [pc, hw]; rfl⟩
    | some op =>
      have hl1 := whichP_len hw
      obtain ⟨n, r, hr⟩ := tot_bind (x := fun n => px isName n (lvl + 1) s.next) (g := fun n f s1 => pc isName n lvl (mk2 op e f) s1) (fun n m h => px_le isName h) (fun n m a s h => pc_le isName h) ((small s.next (by omega)).1 (lvl + 1) (by omega)) (fun n a s1 h1 => by
        have hu := ((px_uses isName n).1 _ _ _ _ h1).1
        exact (small s1 (by omega)).2 lvl _ hl)
      exact ⟨n + 1, r, by rw [pc, hw]; exact hr⟩
end

end Go.Proofs.YtkffomfbnbcgaaaGreatDoor

namespace Go.Proofs.YtkffomfbnbcgaaaGreatDoor
set_option maxRecDepth 100000
set_option linter.unusedVariables false
set_option linter.unusedSimpArgs false

mutual
/-- how many operators stand in one another -/
def depR : Ex → Nat
  | .mk _ _ _ _ _ _ args => depL args
def depL : List Ex → Nat
  | [] => 0
  | a :: r => max (depR a + 1) (depL r)
end
/-- a column of a table that is made -/
structure Co where
  name : List Nat
  type : Nat
  req : Bool
structure Ite where
  e : Ex
  name : List Nat
structure Src where
  table : List Nat
  alias_ : List Nat
  on_ : Ex
structure Srt where
  e : Ex
  desc : Bool
structure Se where
  col : List Nat
  e : Ex
def zE : Ex := .mk 0 0 0 0 ⟨#[]⟩ ⟨#[]⟩ []
/-- a statement, as api.Stmt has it -/
structure Stm where
  kind : Nat
  table : List Nat := []
  index : List Nat := []
  cols : List Co := []
  names : List (List Nat) := []
  uniq : Bool := false
  rows : List (List Ex) := []
  items : List Ite := []
  src : List Src := []
  whr : Ex := zE
  order : List Srt := []
  sets : List Se := []
def wCreate : List Nat := [99, 114, 101, 97, 116, 101]
def wDrop : List Nat := [100, 114, 111, 112]
def wInsert : List Nat := [105, 110, 115, 101, 114, 116]
def wSelect : List Nat := [115, 101, 108, 101, 99, 116]
def wUpdate : List Nat := [117, 112, 100, 97, 116, 101]
def wDelete : List Nat := [100, 101, 108, 101, 116, 101]
def wBegin : List Nat := [98, 101, 103, 105, 110]
def wCommit : List Nat := [99, 111, 109, 109, 105, 116]
def wRollback : List Nat := [114, 111, 108, 108, 98, 97, 99, 107]
def wTable : List Nat := [116, 97, 98, 108, 101]
def wIndex : List Nat := [105, 110, 100, 101, 120]
def wUnique : List Nat := [117, 110, 105, 113, 117, 101]
def wOn : List Nat := [111, 110]
def wInto : List Nat := [105, 110, 116, 111]
def wValues : List Nat := [118, 97, 108, 117, 101, 115]
def wFrom : List Nat := [102, 114, 111, 109]
def wOrder : List Nat := [111, 114, 100, 101, 114]
def wBy : List Nat := [98, 121]
def wAs : List Nat := [97, 115]
def wInner : List Nat := [105, 110, 110, 101, 114]
def wJoin : List Nat := [106, 111, 105, 110]
def wWhere : List Nat := [119, 104, 101, 114, 101]
def wDesc : List Nat := [100, 101, 115, 99]
def wSet : List Nat := [115, 101, 116]
def wBool : List Nat := [98, 111, 111, 108]
def wText : List Nat := [116, 101, 120, 116]
/-- passed over, if it comes next -/
def gotP (w : List Nat) (s : PS) : Bool × PS := if atP w s = true then (true, s.next) else (false, s)
/-- what follows behind an element of a list -/
def lsP {α : Type} (one : PS → RX α) (most : Nat) : Nat → List α → PS → RX (List α)
  | 0, _, _ => none
  | n + 1, acc, s => if atP [44] s = true then
      (if acc.length < most then bindR (one s.next) fun a s1 => lsP one most n (acc ++ [a]) s1 else failR 151)
    else retR acc s
/-- a list with commas -/
def listP {α : Type} (one : PS → RX α) (most n : Nat) (s : PS) : RX (List α) := bindR (one s) fun a s1 => lsP one most n [a] s1
/-- a list between parentheses -/
def enclP {α : Type} (one : PS → RX α) (most n : Nat) (s : PS) : RX (List α) :=
  bindR (needP [40] s) fun _ s1 => bindR (listP one most n s1) fun l s2 => bindR (needP [41] s2) fun _ s3 => retR l s3
section
variable (isName : List Nat → Bool) (n : Nat)
/-- an expression that stands in no other one -/
def wholeP (s : PS) : RX Ex := bindR (px isName n 0 s) fun e s1 => retR e { s1 with deep := max s1.deep (depR e) }
def whereP (s : PS) : RX Ex := if atP wWhere s = true then wholeP isName n s.next else retR zE s
def aliasP (s : PS) : RX (List Nat) := if atP wAs s = true then nameP isName s.next else retR [] s
def typeP (s : PS) : RX Nat :=
  if atP wInt s = true then retR 2 s.next else if atP wReal s = true then retR 3 s.next else if atP wBool s = true then retR 1 s.next
  else bindR (needP wText s) fun _ s1 => retR 4 s1
def colP (s : PS) : RX Co := bindR (nameP isName s) fun c s1 => bindR (typeP s1) fun t s2 =>
  if atP wNot s2 = true then bindR (needP wNull s2.next) fun _ s3 => retR ⟨c, t, true⟩ s3 else retR ⟨c, t, false⟩ s2
def itemP (s : PS) : RX Ite := bindR (wholeP isName n s) fun e s1 => bindR (aliasP isName s1) fun a s2 => retR ⟨e, a⟩ s2
def sourceP (s : PS) : RX Src := bindR (nameP isName s) fun t s1 => bindR (aliasP isName s1) fun a s2 => retR ⟨t, a, zE⟩ s2
def sourcesP : Nat → List Src → PS → RX (List Src)
  | 0, _, _ => none
  | m + 1, acc, s => if atP wInner s = true ∨ atP wJoin s = true then
      (if acc.length < 4 then bindR (needP wJoin (gotP wInner s).2) fun _ s1 => bindR (sourceP isName s1) fun x s2 => bindR (needP wOn s2) fun _ s3 => bindR (wholeP isName n s3) fun e s4 => sourcesP m (acc ++ [{ x with on_ := e }]) s4
      else failR 151)
    else retR acc s
def sortP (s : PS) : RX Srt := bindR (wholeP isName n s) fun e s1 => let g := gotP wDesc s1; retR ⟨e, g.1⟩ g.2
def setP (s : PS) : RX Se := bindR (nameP isName s) fun c s1 => bindR (needP [61] s1) fun _ s2 => bindR (wholeP isName n s2) fun e s3 => retR ⟨c, e⟩ s3
def createP (s : PS) : RX Stm :=
  if atP wTable s = true then bindR (nameP isName s.next) fun t s1 => bindR (enclP (colP isName) 16 n s1) fun c s2 => retR { kind := 1, table := t, cols := c } s2
  else let g := gotP wUnique s
    bindR (needP wIndex g.2) fun _ s1 => bindR (nameP isName s1) fun i s2 => bindR (needP wOn s2) fun _ s3 => bindR (nameP isName s3) fun t s4 => bindR (enclP (nameP isName) 4 n s4) fun c s5 =>
      retR { kind := 3, table := t, index := i, names := c, uniq := g.1 } s5
def dropP (s : PS) : RX Stm :=
  if atP wTable s = true then bindR (nameP isName s.next) fun t s1 => retR { kind := 2, table := t } s1
  else bindR (needP wIndex s) fun _ s1 => bindR (nameP isName s1) fun i s2 => retR { kind := 4, index := i } s2
def insertP (s : PS) : RX Stm := bindR (needP wInto s) fun _ s1 => bindR (nameP isName s1) fun t s2 => bindR (needP wValues s2) fun _ s3 =>
  bindR (listP (enclP (wholeP isName n) 50 n) 50 n s3) fun r s4 => retR { kind := 5, table := t, rows := r } s4
def itemsP (s : PS) : RX (List Ite) := if atP [42] s = true then retR [] s.next else listP (itemP isName n) 50 n s
def orderP (s : PS) : RX (List Srt) := if atP wOrder s = true then bindR (needP wBy s.next) fun _ s1 => listP (sortP isName n) 50 n s1 else retR [] s
def queryP (s : PS) : RX Stm := bindR (itemsP isName n s) fun i s1 => bindR (needP wFrom s1) fun _ s2 => bindR (sourceP isName s2) fun f s3 => bindR (sourcesP isName n n [f] s3) fun fs s4 =>
  bindR (whereP isName n s4) fun w s5 => bindR (orderP isName n s5) fun o s6 => retR { kind := 6, items := i, src := fs, whr := w, order := o } s6
def updateP (s : PS) : RX Stm := bindR (nameP isName s) fun t s1 => bindR (needP wSet s1) fun _ s2 => bindR (listP (setP isName n) 50 n s2) fun x s3 => bindR (whereP isName n s3) fun w s4 =>
  retR { kind := 7, table := t, sets := x, whr := w } s4
def deleteP (s : PS) : RX Stm := bindR (needP wFrom s) fun _ s1 => bindR (nameP isName s1) fun t s2 => bindR (whereP isName n s2) fun w s3 => retR { kind := 8, table := t, whr := w } s3
/-- a statement -/
def stmtP (s : PS) : RX Stm :=
  if atP wCreate s = true then createP isName n s.next else if atP wDrop s = true then dropP isName s.next else if atP wInsert s = true then insertP isName n s.next
  else if atP wSelect s = true then queryP isName n s.next else if atP wUpdate s = true then updateP isName n s.next else if atP wDelete s = true then deleteP isName n s.next
  else if atP wBegin s = true then retR { kind := 9 } s.next else if atP wCommit s = true then retR { kind := 10 } s.next
  else bindR (needP wRollback s) fun _ s1 => retR { kind := 11 } s1
/-- the tokens of a statement, all of them -/
def parseP (ts : List Tk) : Option (Except Nat Stm) := match stmtP isName n ⟨ts, 0, 0⟩ with
  | none => none
  | some (.error e) => some (.error e)
  | some (.ok (st, s)) => if s.rest = [] then (if s.deep ≤ 40 then some (.ok st) else some (.error 5)) else some (.error 130)
end

end Go.Proofs.YtkffomfbnbcgaaaGreatDoor

namespace Go.Proofs.YtkffomfbnbcgaaaGreatDoor
set_option maxRecDepth 100000
set_option linter.unusedVariables false
set_option linter.unusedSimpArgs false

/-- a reader with fuel: more fuel tells no other, no token comes back, and fuel enough there is -/
structure Rdr {α : Type} (x : Nat → PS → RX α) : Prop where
  le : ∀ n m s, n ≤ m → MoreR (x n s) (x m s)
  us : ∀ n s a s', x n s = some (.ok (a, s')) → s'.rest.length ≤ s.rest.length
  tot : ∀ s, ∃ n r, x n s = some r
theorem next_le (s : PS) : s.next.rest.length ≤ s.rest.length := by unfold PS.next; simp
theorem Rdr.bind {α β : Type} {x : Nat → PS → RX α} {f : α → Nat → PS → RX β} (hx : Rdr x) (hf : ∀ a, Rdr (f a)) : Rdr fun n s => bindR (x n s) fun a s1 => f a n s1 := by
  refine ⟨fun n m s h => (hx.le n m s h).bind fun a s1 => (hf a).le n m s1 h, fun n s a s' h => ?_, fun s => ?_⟩
  · obtain ⟨c, s1, h1, h2⟩ := bindR_ok h
    exact Nat.le_trans ((hf c).us _ _ _ _ h2) (hx.us _ _ _ _ h1)
  · exact tot_bind (x := fun n => x n s) (g := fun n a s1 => f a n s1) (fun n m h => hx.le n m s h) (fun n m a s1 h => (hf a).le n m s1 h) (hx.tot s) (fun _ a s1 _ => (hf a).tot s1)
theorem Rdr.ret {α : Type} (a : α) : Rdr fun _ s => retR a s := ⟨fun _ _ _ _ => MoreR.refl _, fun n s b s' h => by rw [(retR_ok h).2]; exact Nat.le_refl _, fun s => ⟨0, _, rfl⟩⟩
theorem Rdr.fail {α : Type} (e : Nat) : Rdr fun _ _ => (failR e : RX α) := ⟨fun _ _ _ _ => MoreR.refl _, (fun n s b s' h => by cases h), fun s => ⟨0, _, rfl⟩⟩
theorem Rdr.ite {α : Type} (p : PS → Bool) {x y : Nat → PS → RX α} (hx : Rdr x) (hy : Rdr y) : Rdr fun n s => if p s = true then x n s else y n s := by
  refine ⟨fun n m s h => MoreR.ite (hx.le n m s h) (hy.le n m s h), fun n s a s' h => ?_, fun s => ?_⟩
  · rcases ite_or h with ⟨-, h⟩ | ⟨-, h⟩
    · exact hx.us _ _ _ _ h
    · exact hy.us _ _ _ _ h
  · by_cases c : p s = true
    · obtain ⟨n, r, h⟩ := hx.tot s
      exact ⟨n, r, by rw [if_pos c]; exact h⟩
    · obtain ⟨n, r, h⟩ := hy.tot s
      exact ⟨n, r, by rw [if_neg c]; exact h⟩
theorem Rdr.frm {α : Type} (g : PS → PS) (hg : ∀ s, (g s).rest.length ≤ s.rest.length) {x : Nat → PS → RX α} (hx : Rdr x) : Rdr fun n s => x n (g s) :=
  ⟨fun n m s h => hx.le n m _ h, fun n s a s' h => Nat.le_trans (hx.us _ _ _ _ h) (hg s), fun s => hx.tot _⟩
theorem Rdr.next {α : Type} {x : Nat → PS → RX α} (hx : Rdr x) : Rdr fun n s => x n s.next := hx.frm PS.next next_le
theorem Rdr.need (w : List Nat) : Rdr fun _ s => needP w s := by
  refine ⟨fun _ _ _ _ => MoreR.refl _, fun n s b s' h => ?_, fun s => ?_⟩
  · rw [(needP_ok h).2]; exact next_le s
  · cases h : needP w s with
    | none => exact absurd h (needP_tot w s)
    | some r => exact ⟨0, r, rfl⟩
theorem Rdr.name (isName : List Nat → Bool) : Rdr fun _ s => nameP isName s := by
  refine ⟨fun _ _ _ _ => MoreR.refl _, fun n s b s' h => Nat.le_of_lt (nameP_ok h).1, fun s => ?_⟩
  cases h : nameP isName s with
  | none => exact absurd h (nameP_tot isName s)
  | some r => exact ⟨0, r, rfl⟩
theorem Rdr.px (isName : List Nat → Bool) : Rdr fun n s => px isName n 0 s :=
  ⟨fun n m s h => px_le isName h, fun n s a s' h => Nat.le_of_lt ((px_uses isName n).1 _ _ _ _ h).1, fun s => (px_total isName _ s rfl).1 0 (by omega)⟩
theorem lsP_le {α : Type} {one : Nat → PS → RX α} (h1 : Rdr one) (most : Nat) : ∀ (n m k l : Nat) (acc : List α) (s : PS), n ≤ m → k ≤ l → MoreR (lsP (one k) most n acc s) (lsP (one l) most m acc s)
  | 0, m, k, l, acc, s, _, _ => fun r h => by rw [lsP] at h; cases h
  | n + 1, 0, k, l, acc, s, h, _ => by omega
  | n + 1, m + 1, k, l, acc, s, h, hk => by
    rw [lsP, lsP]
    exact MoreR.ite (MoreR.ite ((h1.le k l _ hk).bind fun a s1 => lsP_le h1 most n m k l _ s1 (by omega) hk) (MoreR.refl _)) (MoreR.refl _)
theorem lsP_us {α : Type} {one : PS → RX α} (h1 : ∀ s a s', one s = some (.ok (a, s')) → s'.rest.length ≤ s.rest.length) (most : Nat) : ∀ (n : Nat) (acc : List α) (s : PS) (b : List α) (s' : PS), lsP one most n acc s = some (.ok (b, s')) → s'.rest.length ≤ s.rest.length
  | 0, acc, s, b, s', h => by rw [lsP] at h; cases h
  | n + 1, acc, s, b, s', h => by
    rw [lsP] at h
    rcases ite_or h with ⟨-, h⟩ | ⟨-, h⟩
    · rcases ite_or h with ⟨-, h⟩ | ⟨-, h⟩
      · obtain ⟨a, s1, h2, h3⟩ := bindR_ok h
        have := lsP_us h1 most n _ _ _ _ h3
        have := h1 _ _ _ h2
        have := next_le s
        omega
      · cases h
    · rw [(retR_ok h).2]; exact Nat.le_refl _
theorem lsP_tot {α : Type} {one : Nat → PS → RX α} (h1 : Rdr one) (most : Nat) : ∀ (L : Nat) (acc : List α) (s : PS), s.rest.length ≤ L → ∃ n r, lsP (one n) most n acc s = some r := by
  intro L
  induction L with
  | zero =>
    intro acc s hs
    refine ⟨1, .ok (acc, s), ?_⟩
    rw [lsP, if_neg (fun c => by have := atP_len c; omega)]
    rfl
  | succ L ih =>
    intro acc s hs
    by_cases c : atP [44] s = true
    · by_cases c2 : acc.length < most
      · obtain ⟨n, r, hr⟩ := tot_bind (x := fun n => one n s.next) (g := fun n a s1 => lsP (one n) most n (acc ++ [a]) s1) (fun n m h => h1.le n m _ h) (fun n m a s h => lsP_le h1 most n m n m _ s h h) (h1.tot _) (fun n a s1 h => by
          have := h1.us _ _ _ _ h
          have := atP_len c
          exact ih _ s1 (by omega))
        have hm := lsP_le h1 most (n + 1) (n + 1) n (n + 1) acc s (Nat.le_refl _) (by omega)
        exact ⟨n + 1, r, hm _ (by rw [lsP, if_pos c, if_pos c2]; exact hr)⟩
      · exact ⟨1, .error 151, by rw [lsP, if_pos c, if_neg c2]; rfl⟩
    · exact ⟨1, .ok (acc, s), by rw [lsP, if_neg c]; rfl⟩
theorem Rdr.list {α : Type} {one : Nat → PS → RX α} (h1 : Rdr one) (most : Nat) : Rdr fun n s => listP (one n) most n s :=
  h1.bind fun a => (⟨fun n m s h => lsP_le h1 most n m n m [a] s h h, fun n s b s' h => lsP_us (fun s a s' h => h1.us n s a s' h) most n [a] s b s' h, fun s => lsP_tot h1 most _ [a] s (Nat.le_refl _)⟩ : Rdr fun n s => lsP (one n) most n [a] s)
theorem Rdr.encl {α : Type} {one : Nat → PS → RX α} (h1 : Rdr one) (most : Nat) : Rdr fun n s => enclP (one n) most n s :=
  (Rdr.need [40]).bind fun _ => (h1.list most).bind fun l => (Rdr.need [41]).bind fun _ => Rdr.ret l
section
variable (isName : List Nat → Bool)
theorem Rdr.whole : Rdr fun n s => wholeP isName n s := by
  refine (Rdr.px isName).bind fun e => ⟨fun _ _ _ _ => MoreR.refl _, fun n s a s' h => ?_, fun s => ⟨0, _, rfl⟩⟩
  have := (retR_ok h).2
  rw [← this]
  exact Nat.le_refl _
theorem Rdr.whr : Rdr fun n s => whereP isName n s := Rdr.ite (atP wWhere) (Rdr.whole isName).next (Rdr.ret zE)
theorem Rdr.als : Rdr fun _ s => aliasP isName s := Rdr.ite (atP wAs) (Rdr.name isName).next (Rdr.ret [])
theorem Rdr.type : Rdr fun _ s => typeP s := Rdr.ite (atP wInt) (Rdr.ret 2).next (Rdr.ite (atP wReal) (Rdr.ret 3).next (Rdr.ite (atP wBool) (Rdr.ret 1).next ((Rdr.need wText).bind fun _ => Rdr.ret 4)))
theorem Rdr.col : Rdr fun _ s => colP isName s := (Rdr.name isName).bind fun c => Rdr.type.bind fun t => Rdr.ite (atP wNot) (((Rdr.need wNull).bind fun _ => Rdr.ret (⟨c, t, true⟩ : Co)).next) (Rdr.ret (⟨c, t, false⟩ : Co))
theorem Rdr.item : Rdr fun n s => itemP isName n s := (Rdr.whole isName).bind fun e => (Rdr.als isName).bind fun a => Rdr.ret (⟨e, a⟩ : Ite)
theorem Rdr.source : Rdr fun _ s => sourceP isName s := (Rdr.name isName).bind fun t => (Rdr.als isName).bind fun a => Rdr.ret (⟨t, a, zE⟩ : Src)
theorem Rdr.set : Rdr fun n s => setP isName n s := (Rdr.name isName).bind fun c => (Rdr.need [61]).bind fun _ => (Rdr.whole isName).bind fun e => Rdr.ret (⟨c, e⟩ : Se)
theorem Rdr.drop : Rdr fun _ s => dropP isName s := Rdr.ite (atP wTable) ((Rdr.name isName).bind fun t => Rdr.ret ({ kind := 2, table := t } : Stm)).next ((Rdr.need wIndex).bind fun _ => (Rdr.name isName).bind fun i => Rdr.ret ({ kind := 4, index := i } : Stm))
theorem Rdr.insert : Rdr fun n s => insertP isName n s := (Rdr.need wInto).bind fun _ => (Rdr.name isName).bind fun t => (Rdr.need wValues).bind fun _ => (((Rdr.whole isName).encl 50).list 50).bind fun r => Rdr.ret ({ kind := 5, table := t, rows := r } : Stm)
theorem Rdr.items : Rdr fun n s => itemsP isName n s := Rdr.ite (atP [42]) (Rdr.ret []).next ((Rdr.item isName).list 50)
theorem Rdr.update : Rdr fun n s => updateP isName n s := (Rdr.name isName).bind fun t => (Rdr.need wSet).bind fun _ => ((Rdr.set isName).list 50).bind fun x => (Rdr.whr isName).bind fun w => Rdr.ret ({ kind := 7, table := t, sets := x, whr := w } : Stm)
theorem Rdr.delete : Rdr fun n s => deleteP isName n s := (Rdr.need wFrom).bind fun _ => (Rdr.name isName).bind fun t => (Rdr.whr isName).bind fun w => Rdr.ret ({ kind := 8, table := t, whr := w } : Stm)
end
theorem Rdr.got {α : Type} (w : List Nat) {f : Bool → Nat → PS → RX α} (hf : ∀ b, Rdr (f b)) : Rdr fun n s => f (gotP w s).1 n (gotP w s).2 := by
  have hl : ∀ s, (gotP w s).2.rest.length ≤ s.rest.length := fun s => by
    unfold gotP
    split
    · exact next_le s
    · exact Nat.le_refl _
  exact ⟨fun n m s h => (hf _).le n m _ h, fun n s a s' h => Nat.le_trans ((hf _).us _ _ _ _ h) (hl s), fun s => (hf _).tot _⟩
section
variable (isName : List Nat → Bool)
theorem Rdr.sort : Rdr fun n s => sortP isName n s := (Rdr.whole isName).bind fun e => Rdr.got wDesc (f := fun b _ s => retR (⟨e, b⟩ : Srt) s) fun b => Rdr.ret (⟨e, b⟩ : Srt)
theorem Rdr.order : Rdr fun n s => orderP isName n s := Rdr.ite (atP wOrder) ((Rdr.need wBy).bind fun _ => (Rdr.sort isName).list 50).next (Rdr.ret [])
theorem Rdr.create : Rdr fun n s => createP isName n s := by
  have hc : Rdr fun n s => enclP (colP isName) 16 n s := (Rdr.col isName).encl 16
  have hn : Rdr fun n s => enclP (nameP isName) 4 n s := (Rdr.name isName).encl 4
  exact Rdr.ite (atP wTable) ((Rdr.name isName).bind fun t => hc.bind fun c => Rdr.ret ({ kind := 1, table := t, cols := c } : Stm)).next
    (Rdr.got wUnique (f := fun b n s => bindR (needP wIndex s) fun _ s1 => bindR (nameP isName s1) fun i s2 => bindR (needP wOn s2) fun _ s3 => bindR (nameP isName s3) fun t s4 => bindR (enclP (nameP isName) 4 n s4) fun c s5 => retR ({ kind := 3, table := t, index := i, names := c, uniq := b } : Stm) s5)
      fun b => (Rdr.need wIndex).bind fun _ => (Rdr.name isName).bind fun i => (Rdr.need wOn).bind fun _ => (Rdr.name isName).bind fun t => hn.bind fun c => Rdr.ret ({ kind := 3, table := t, index := i, names := c, uniq := b } : Stm))
/-- a source behind the first -/
def moreSrc (n : Nat) (s : PS) : RX Src := bindR (needP wJoin (gotP wInner s).2) fun _ s1 => bindR (sourceP isName s1) fun x s2 => bindR (needP wOn s2) fun _ s3 => bindR (wholeP isName n s3) fun e s4 => retR { x with on_ := e } s4
theorem bindR_assoc {α β γ : Type} (x : RX α) (f : α → PS → RX β) (g : β → PS → RX γ) : bindR (bindR x f) g = bindR x fun a s => bindR (f a s) g := by
  unfold bindR
  match x with
  | none => rfl
  | some (.error e) => rfl
  | some (.ok (a, s)) => rfl
theorem bindR_ret {α β : Type} (a : α) (s : PS) (g : α → PS → RX β) : bindR (retR a s) g = g a s := rfl
theorem sourcesP_eq (n m : Nat) (acc : List Src) (s : PS) : sourcesP isName n (m + 1) acc s = if atP wInner s = true ∨ atP wJoin s = true then (if acc.length < 4 then bindR (moreSrc isName n s) fun x s1 => sourcesP isName n m (acc ++ [x]) s1 else failR 151) else retR acc s := by
  rw [sourcesP]
  unfold moreSrc
  simp only [bindR_assoc, bindR_ret]
theorem Rdr.moreSrc : Rdr fun n s => moreSrc isName n s := by
  have h : Rdr fun n s => bindR (needP wJoin s) fun _ s1 => bindR (sourceP isName s1) fun x s2 => bindR (needP wOn s2) fun _ s3 => bindR (wholeP isName n s3) fun e s4 => retR ({ x with on_ := e } : Src) s4 :=
    (Rdr.need wJoin).bind fun _ => (Rdr.source isName).bind fun x => (Rdr.need wOn).bind fun _ => (Rdr.whole isName).bind fun e => Rdr.ret ({ x with on_ := e } : Src)
  exact Rdr.got wInner (f := fun _ n s => bindR (needP wJoin s) fun _ s1 => bindR (sourceP isName s1) fun x s2 => bindR (needP wOn s2) fun _ s3 => bindR (wholeP isName n s3) fun e s4 => retR ({ x with on_ := e } : Src) s4) fun _ => h
theorem moreSrc_less {n : Nat} {s s' : PS} {x : Src} (h : moreSrc isName n s = some (.ok (x, s'))) : s'.rest.length < s.rest.length := by
  unfold moreSrc at h
  obtain ⟨u, s1, h1, h2⟩ := bindR_ok h
  obtain ⟨c, rfl⟩ := needP_ok h1
  have l1 := atP_len c
  have hg : (gotP wInner s).2.rest.length ≤ s.rest.length := by
    unfold gotP
    split
    · exact next_le s
    · exact Nat.le_refl _
  have l2 := ((Rdr.source isName).bind fun y => (Rdr.need wOn).bind fun _ => (Rdr.whole isName).bind fun e => Rdr.ret ({ y with on_ := e } : Src)).us n _ _ _ h2
  omega
theorem sourcesP_le : ∀ (a b k l : Nat) (acc : List Src) (s : PS), a ≤ b → k ≤ l → MoreR (sourcesP isName k a acc s) (sourcesP isName l b acc s)
  | 0, b, k, l, acc, s, _, _ => fun r h => by rw [sourcesP] at h; cases h
  | a + 1, 0, k, l, acc, s, h, _ => by omega
  | a + 1, b + 1, k, l, acc, s, h, hk => by
    rw [sourcesP_eq, sourcesP_eq]
    exact MoreR.ite (MoreR.ite (((Rdr.moreSrc isName).le k l s hk).bind fun x s1 => sourcesP_le a b k l _ s1 (by omega) hk) (MoreR.refl _)) (MoreR.refl _)
theorem sourcesP_us : ∀ (a n : Nat) (acc : List Src) (s : PS) (b : List Src) (s' : PS), sourcesP isName n a acc s = some (.ok (b, s')) → s'.rest.length ≤ s.rest.length
  | 0, n, acc, s, b, s', h => by rw [sourcesP] at h; cases h
  | a + 1, n, acc, s, b, s', h => by
    rw [sourcesP_eq] at h
    rcases ite_or h with ⟨-, h⟩ | ⟨-, h⟩
    · rcases ite_or h with ⟨-, h⟩ | ⟨-, h⟩
      · obtain ⟨x, s1, h2, h3⟩ := bindR_ok h
        have := sourcesP_us a n _ _ _ _ h3
        have := moreSrc_less isName h2
        omega
      · cases h
    · rw [(retR_ok h).2]; exact Nat.le_refl _
theorem sourcesP_tot : ∀ (L : Nat) (acc : List Src) (s : PS), s.rest.length ≤ L → ∃ n r, sourcesP isName n n acc s = some r := by
  intro L
  induction L with
  | zero =>
    intro acc s hs
    refine ⟨1, .ok (acc, s), ?_⟩
    rw [sourcesP_eq, if_neg (fun c => by rcases c with c | c <;> (have := atP_len c; omega))]
    rfl
  | succ L ih =>
    intro acc s hs
    by_cases c : atP wInner s = true ∨ atP wJoin s = true
    · by_cases c2 : acc.length < 4
      · obtain ⟨n, r, hr⟩ := tot_bind (x := fun n => moreSrc isName n s) (g := fun n x s1 => sourcesP isName n n (acc ++ [x]) s1) (fun n m h => (Rdr.moreSrc isName).le n m _ h) (fun n m a s h => sourcesP_le isName n m n m _ s h h) ((Rdr.moreSrc isName).tot _) (fun n x s1 h => by
          have := moreSrc_less isName h
          exact ih _ s1 (by omega))
        have hm := sourcesP_le isName (n + 1) (n + 1) n (n + 1) acc s (Nat.le_refl _) (by omega)
        exact ⟨n + 1, r, hm _ (by rw [sourcesP_eq, if_pos c, if_pos c2]; exact hr)⟩
      · exact ⟨1, .error 151, by rw [sourcesP_eq, if_pos c, if_neg c2]; rfl⟩
    · exact ⟨1, .ok (acc, s), by rw [sourcesP_eq, if_neg c]; rfl⟩
theorem Rdr.sources (f : Src) : Rdr fun n s => sourcesP isName n n [f] s := ⟨fun n m s h => sourcesP_le isName n m n m _ s h h, fun n s b s' h => sourcesP_us isName n n _ s b s' h, fun s => sourcesP_tot isName _ _ s (Nat.le_refl _)⟩
theorem Rdr.query : Rdr fun n s => queryP isName n s := (Rdr.items isName).bind fun i => (Rdr.need wFrom).bind fun _ => (Rdr.source isName).bind fun f => (Rdr.sources isName f).bind fun fs => (Rdr.whr isName).bind fun w => (Rdr.order isName).bind fun o =>
  Rdr.ret ({ kind := 6, items := i, src := fs, whr := w, order := o } : Stm)
theorem Rdr.stmt : Rdr fun n s => stmtP isName n s :=
  Rdr.ite (atP wCreate) (Rdr.create isName).next (Rdr.ite (atP wDrop) (Rdr.drop isName).next (Rdr.ite (atP wInsert) (Rdr.insert isName).next (Rdr.ite (atP wSelect) (Rdr.query isName).next (Rdr.ite (atP wUpdate) (Rdr.update isName).next (Rdr.ite (atP wDelete) (Rdr.delete isName).next
    (Rdr.ite (atP wBegin) (Rdr.ret ({ kind := 9 } : Stm)).next (Rdr.ite (atP wCommit) (Rdr.ret ({ kind := 10 } : Stm)).next ((Rdr.need wRollback).bind fun _ => Rdr.ret ({ kind := 11 } : Stm)))))))))
/-- each list of tokens has its answer -/
theorem parseP_tot (ts : List Tk) : ∃ n r, parseP isName n ts = some r := by
  obtain ⟨n, r, h⟩ := (Rdr.stmt isName).tot ⟨ts, 0, 0⟩
  refine ⟨n, ?_⟩
  unfold parseP
  rw [h]
  match r with
  | .error e => exact ⟨_, rfl⟩
  | .ok (st, s) =>
    dsimp only
    by_cases c : s.rest = []
    · rw [if_pos c]
      by_cases c2 : s.deep ≤ 40
      · rw [if_pos c2]; exact ⟨_, rfl⟩
      · rw [if_neg c2]; exact ⟨_, rfl⟩
    · rw [if_neg c]; exact ⟨_, rfl⟩
end

end Go.Proofs.YtkffomfbnbcgaaaGreatDoor

namespace Go.Proofs.YtkffomfbnbcgaaaGreatDoor
set_option maxRecDepth 100000
open Go.RowKit Go.Joins Go.ChangeShapes Go.WideShapes
set_option linter.unusedVariables false
set_option linter.unusedSimpArgs false

/-- a reader: what is left of the bytes of block b -/
structure Rd (w : World) (rd b off cap : Nat) (l : List Nat) : Prop where
  hd : w.heap[rd]? = some (.cells #[.slice (some ⟨b, off, none⟩) l.length cap] 92 (0, 0))
  is : IsB w b off l
  cp : l.length ≤ cap
  sz : cap ≤ maxLen
  ln : l.length ≤ 4294967296
  ne : rd ≠ b
theorem Rd.below {w w1 : World} {rd b off cap : Nat} {l : List Nat} (h : Rd w rd b off cap l) (hb : Below w.heap.size w w1) : Rd w1 rd b off cap l :=
  ⟨(hb.block _ (Array.getElem?_eq_some_iff.1 h.hd).1).trans h.hd, h.is.below hb, h.cp, h.sz, h.ln, h.ne⟩
theorem Rd.moved {w : World} {rd b off cap : Nat} {l : List Nat} (h : Rd w rd b off cap l) (n off' cap' : Nat) (ho : off' = off + n ∨ l.length ≤ n) (hc : l.length - n ≤ cap') (hc2 : cap' ≤ cap) :
    Rd (w.setCell ⟨rd, 0, none⟩ (.slice (some ⟨b, off', none⟩) (l.length - n) cap')) rd b off' cap' (l.drop n) ∧ Frm (fun k => k = rd) w (w.setCell ⟨rd, 0, none⟩ (.slice (some ⟨b, off', none⟩) (l.length - n) cap')) := by
  have hlen : (l.drop n).length = l.length - n := List.length_drop
  have hf : Frm (fun k => k = rd) w (w.setCell ⟨rd, 0, none⟩ (.slice (some ⟨b, off', none⟩) (l.length - n) cap')) := Frm.set1 (F := fun k => k = rd) w rfl 0 _
  have hi : IsB w b off' (l.drop n) := by
    rcases ho with rfl | ho
    · exact h.is.drop n
    · rw [List.drop_eq_nil_of_le ho]
      exact ⟨fun h => absurd h (by simp), fun i x hx => by simp at hx, fun x hx => by simp at hx⟩
  exact ⟨⟨by rw [hlen, setCell_eq_setRow w rd 0 _ _ _ _ h.hd, setRow_heap w rd _ _ _ _ h.hd]; rfl, hf.isB hi (fun _ e => h.ne e.symm), by rw [hlen]; exact hc, Nat.le_trans hc2 h.sz, by rw [hlen]; have := h.ln; omega, h.ne⟩, hf⟩
set_option maxHeartbeats 1000000 in
theorem take_any {w : World} {rd b off cap : Nat} {l : List Nat} (h : Rd w rd b off cap l) (n : Nat) (hn : n ≤ l.length) :
    Calls Tryz.prog 110 #[.pointer (some ⟨rd, 0, none⟩), .int .i64 n] w fun e w' => e = .returned (.slice (some ⟨b, off, none⟩) n cap) ∧ ∃ off' cap', Rd w' rd b off' cap' (l.drop n) ∧ Frm (fun k => k = rd) w w' := by
  generalize hP : (fun (e : Ending) (w' : World) => e = .returned (.slice (some ⟨b, off, none⟩) n cap) ∧ ∃ off' cap', Rd w' rd b off' cap' (l.drop n) ∧ Frm (fun k => k = rd) w w') = P
  have hcp := h.cp
  have HF := Lib.hid (show P (.returned (.slice (some ⟨b, off, none⟩) n cap)) (w.setCell ⟨rd, 0, none⟩ (.slice (some ⟨b, off + n, none⟩) (l.length - n) (cap - n))) by
    rw [← hP]
    obtain ⟨h1, h2⟩ := h.moved n (off + n) (cap - n) (.inl rfl) (by omega) (by omega)
    exact ⟨rfl, _, _, h1, h2⟩)
  have HF2 := Lib.hid (show cap = n → P (.returned (.slice (some ⟨b, off, none⟩) n n)) (w.setCell ⟨rd, 0, none⟩ (.slice (some ⟨b, off, none⟩) (l.length - n) 0)) by
    intro e
    rw [← hP]
    obtain ⟨h1, h2⟩ := h.moved n off 0 (.inr (by omega)) (by omega) (by omega)
    exact ⟨by rw [e], _, _, h1, h2⟩)
  have c0 : w.cell? ⟨rd, 0, none⟩ = some (.slice (some ⟨b, off, none⟩) l.length cap) := by rw [cell_of_block h.hd]; rfl
  have f0 := unfrozen_of_block h.hd 0
  have hs := h.sz
  obtain ⟨m, hm⟩ : ∃ m, l.length = m := ⟨_, rfl⟩
  rw [hm] at c0 hcp hn HF HF2
  have k1 : (n : Int) ≤ (cap : Int) := by omega
  have k2 : (n : Int) ≤ (m : Int) := by omega
  have k3 : (m : Int) ≤ (cap : Int) := by omega
  clear hP h hm
  go_enter Tryz.func110, Tryz.ntmps110
  go_wp2_with fail
  all_goals first | exact HF.out | exact HF2.out (by assumption)
set_option maxHeartbeats 1000000 in
theorem pass_any {g : Nat} {f : Nat → Bool} (hg : Sort8 g f) (henter : ∀ args w, (callFunc g args).run Tryz.prog w = .ok (.enter g args) w) {w : World} {rd b off cap : Nat} {l : List Nat} (h : Rd w rd b off cap l) :
    Calls Tryz.prog 47 #[.pointer (some ⟨rd, 0, none⟩), .func (.func g) #[] #[]] w fun e w' => e = .returned (.slice (some ⟨b, off, none⟩) (runL f l) cap) ∧ ∃ off' cap', Rd w' rd b off' cap' (l.drop (runL f l)) ∧ Frm (fun k => k = rd) w w' := by
  generalize hP : (fun (e : Ending) (w' : World) => e = .returned (.slice (some ⟨b, off, none⟩) (runL f l) cap) ∧ ∃ off' cap', Rd w' rd b off' cap' (l.drop (runL f l)) ∧ Frm (fun k => k = rd) w w') = P
  have HP := Lib.hid hP
  have hcp := h.cp
  have hsz := h.ln
  have HR := Lib.hid (run_any hg henter w (some ⟨b, off, none⟩) b off cap l (.inr rfl) h.is (by omega))
  have HT := Lib.hid (fun (wx : World) (hb : Below w.heap.size w wx) => take_any (h.below hb) (runL f l) (runL_le f l))
  have c0 : w.cell? ⟨rd, 0, none⟩ = some (.slice (some ⟨b, off, none⟩) l.length cap) := by rw [cell_of_block h.hd]; rfl
  clear hP h
  go_enter Tryz.func47, Tryz.ntmps47
  go_wp2_with fail
  refine HR.out.mono ?_
  rintro e w1 ⟨rfl, b1⟩
  have HT1 := Lib.hid (HT.out w1 b1)
  have B1 := Lib.hid b1
  clear b1
  go_wp2_with fail
  refine HT1.out.mono ?_
  rintro e w2 ⟨rfl, off', cap', h2, f2⟩
  have HX := Lib.hid (show P (.returned (.slice (some ⟨b, off, none⟩) (runL f l) cap)) w2 by
    rw [← HP.out]
    exact ⟨rfl, off', cap', h2, (Frm.of_below (F := fun k => k = rd) B1.out).trans f2 (New.refl _ _)⟩)
  clear h2 f2
  go_wp2_with fail
  exact HX.out

end Go.Proofs.YtkffomfbnbcgaaaGreatDoor

namespace Go.Proofs.YtkffomfbnbcgaaaGreatDoor
set_option maxRecDepth 100000
open Go.RowKit Go.Joins Go.ChangeShapes Go.WideShapes
set_option linter.unusedVariables false
set_option linter.unusedSimpArgs false

/-- the reserved words -/
def resW : List (List UInt8) := [[97, 110, 100], [97, 115], [98, 101, 103, 105, 110], [98, 111, 111, 108], [98, 121], [99, 111, 109, 109, 105, 116], [99, 114, 101, 97, 116, 101], [100, 101, 108, 101, 116, 101], [100, 101, 115, 99], [100, 114, 111, 112], [102, 97, 108, 115, 101], [102, 114, 111, 109], [105, 110, 100, 101, 120], [105, 110, 102, 105, 110, 105, 116, 121], [105, 110, 110, 101, 114], [105, 110, 115, 101, 114, 116], [105, 110, 116], [105, 110, 116, 111], [105, 115], [106, 111, 105, 110], [110, 97, 110], [110, 111, 116], [110, 117, 108, 108], [111, 110], [111, 114], [111, 114, 100, 101, 114], [114, 101, 97, 108], [114, 111, 108, 108, 98, 97, 99, 107], [115, 101, 108, 101, 99, 116], [115, 101, 116], [116, 97, 98, 108, 101], [116, 101, 120, 116], [116, 114, 117, 101], [117, 110, 105, 113, 117, 101], [117, 112, 100, 97, 116, 101], [118, 97, 108, 117, 101, 115], [119, 104, 101, 114, 101]]
def resB (s : ByteArray) : Bool := resW.any fun x => s.toList == x
set_option maxHeartbeats 4000000 in
theorem res_any (s : ByteArray) (w : World) : Calls Tryz.prog 150 #[.string s] w fun e w' => e = .returned (.bool (resB s)) ∧ w = w' := by
  obtain ⟨r, hr⟩ : ∃ r, resB s = r := ⟨_, rfl⟩
  rw [hr]
  have HR := Lib.hid hr
  clear hr
  go_enter Tryz.func150, Tryz.ntmps150
  go_wp2
  all_goals
    have hr := HR.out
    unfold resB resW at hr
    first
      | (exfalso; simp_all; done)
      | (go_ret; refine ⟨?_, rfl⟩; simp only [List.any_cons, List.any_nil, *, Bool.false_or, Bool.true_or, Bool.or_true, Bool.or_false] at hr; subst hr; rfl)

def smI (c : Nat) : Nat := if 65 ≤ c ∧ c ≤ 90 then c + 32 else c
def ltL (c : Nat) : Bool := c == 95 || (decide (97 ≤ smI c) && decide (smI c ≤ 122))
set_option maxHeartbeats 1000000 in
theorem rdigit_any : Sort8 70 dgL := by
  intro c w hc
  have e1 : decide ((48 : Int) ≤ (c : Int)) = decide (48 ≤ c) := lei 48 c
  have e2 : decide ((c : Int) ≤ (57 : Int)) = decide (c ≤ 57) := lei c 57
  unfold dgL
  cases h1 : decide (48 ≤ c) <;> cases h2 : decide (c ≤ 57) <;> rw [h1] at e1 <;> rw [h2] at e2 <;> clear h1 h2
  all_goals
    go_enter Tryz.func70, Tryz.ntmps70
    go_wp2
    go_ret
    exact ⟨rfl, rfl⟩
set_option maxHeartbeats 1000000 in
theorem rsmall_any (c : Nat) (hc : c < 256) (w : World) : Calls Tryz.prog 71 #[.int .u8 (c : Int)] w fun e w' => e = .returned (.int .u8 (smI c : Nat)) ∧ w = w' := by
  have e1 : decide ((65 : Int) ≤ (c : Int)) = decide (65 ≤ c) := lei 65 c
  have e2 : decide ((c : Int) ≤ (90 : Int)) = decide (c ≤ 90) := lei c 90
  by_cases h1 : 65 ≤ c
  · by_cases h2 : c ≤ 90
    · have hs : smI c = c + 32 := by unfold smI; rw [if_pos ⟨h1, h2⟩]
      rw [decide_eq_true h1] at e1
      rw [decide_eq_true h2] at e2
      have e3 : IntKind.u8.wrap ((c : Int) + 32) = ((c + 32 : Nat) : Int) := by rw [IntKind.wrap_u8]; omega
      rw [hs]
      clear hs
      go_enter Tryz.func71, Tryz.ntmps71
      go_wp2
      go_ret
      exact ⟨by simp, rfl⟩
    · have hs : smI c = c := by unfold smI; rw [if_neg (fun h => h2 h.2)]
      rw [decide_eq_true h1] at e1
      rw [decide_eq_false h2] at e2
      rw [hs]
      clear hs
      go_enter Tryz.func71, Tryz.ntmps71
      go_wp2
      go_ret
      exact ⟨rfl, rfl⟩
  · have hs : smI c = c := by unfold smI; rw [if_neg (fun h => h1 h.1)]
    rw [decide_eq_false h1] at e1
    rw [hs]
    clear hs
    go_enter Tryz.func71, Tryz.ntmps71
    go_wp2
    go_ret
    exact ⟨rfl, rfl⟩
theorem smI_lt {c : Nat} (hc : c < 256) : smI c < 256 := by unfold smI; split <;> omega
set_option maxHeartbeats 2000000 in
theorem rletter_any : Sort8 68 ltL := by
  intro c w hc
  have HS := Lib.hid (rsmall_any c hc w)
  have e1 : ((c : Int) == (95 : Int)) = (c == 95) := eqi c 95
  obtain ⟨d, hd⟩ : ∃ d, smI c = d := ⟨_, rfl⟩
  unfold ltL
  rw [hd] at HS ⊢
  have e2 : decide ((97 : Int) ≤ (d : Int)) = decide (97 ≤ d) := lei 97 d
  have e3 : decide ((d : Int) ≤ (122 : Int)) = decide (d ≤ 122) := lei d 122
  cases h1 : (c == 95) <;> cases h2 : decide (97 ≤ d) <;> cases h3 : decide (d ≤ 122) <;> rw [h1] at e1 <;> rw [h2] at e2 <;> rw [h3] at e3 <;> clear h1 h2 h3 hd
  all_goals
    go_enter Tryz.func68, Tryz.ntmps68
    go_wp2_with (first | (go_at_call 71; refine HS.out.mono ?_; rintro e w' ⟨rfl, rfl⟩))
    go_ret
    exact ⟨rfl, rfl⟩
/-- the document's letters are the program's -/
theorem ltL_eq (c : Nat) : ltL c = bwL c := by
  unfold ltL bwL smL cpL smI
  by_cases h : 65 ≤ c ∧ c ≤ 90
  · rw [if_pos h]
    have h1 : decide (97 ≤ c + 32) = true := by simp; omega
    have h2 : decide (c + 32 ≤ 122) = true := by simp; omega
    have h3 : decide (65 ≤ c) = true := by simpa using h.1
    have h4 : decide (c ≤ 90) = true := by simpa using h.2
    rw [h1, h2, h3, h4]
    simp
  · rw [if_neg h]
    have h3 : (decide (65 ≤ c) && decide (c ≤ 90)) = false := by
      by_cases a : 65 ≤ c
      · have : ¬ c ≤ 90 := fun b => h ⟨a, b⟩
        simp [this]
      · simp [a]
    rw [h3]
    cases (c == 95) <;> cases (decide (97 ≤ c) && decide (c ≤ 122)) <;> rfl

end Go.Proofs.YtkffomfbnbcgaaaGreatDoor

namespace Go.Proofs.YtkffomfbnbcgaaaGreatDoor
set_option maxRecDepth 100000
open Go.RowKit Go.Joins Go.ChangeShapes Go.WideShapes
set_option linter.unusedVariables false
set_option linter.unusedSimpArgs false

/-- a text's bytes in a block of their own -/
theorem conv_b (s : ByteArray) (w : World) (hs : s.size ≤ maxLen) : ∃ cap w1, (convert 9 45 (.string s)).run Tryz.prog w = .ok (.slice (some ⟨w.heap.size, 0, none⟩) s.size cap) w1 ∧ s.size ≤ cap ∧ cap ≤ maxLen ∧ w1.heap.size = w.heap.size + 1 ∧ Below w.heap.size w w1 ∧ IsB w1 w.heap.size 0 (sl s) := by
  refine ⟨grownCap w s.size 0 5, Lib.bytesWorld w 5 s, Lib.run_convert_string_bytes w 9 45 5 s Tryz.underlying9 Tryz.underlying45 Tryz.underlying5, grownCap_ge _ _ _ _, grownCap_le_maxLen _ _ _ _ hs, Lib.bytesWorld_size _ _ _, ⟨rfl, rfl, rfl, by rw [Lib.bytesWorld_size]; omega, fun k hk => Lib.bytesWorld_at_old w _ s k hk⟩, ⟨fun _ => by rw [Lib.bytesWorld_size]; omega, fun i x hx => ?_, sl_lt s⟩⟩
  have hi : i < s.size := by rw [← sl_length]; exact (List.getElem?_eq_some_iff.1 hx).1
  rw [Nat.zero_add, Lib.bytesWorld_cell w _ s i hi]
  unfold sl at hx
  rw [List.getElem?_map] at hx
  rw [List.getD_eq_getElem?_getD]
  cases e : s.data.toList[i]? with
  | none => rw [e] at hx; cases hx
  | some b => rw [e] at hx; injection hx with hx; rw [← hx]; rfl
/-- whether a text can be a name -/
def nameB (s : ByteArray) : Bool := !(s.size == 0) && decide (s.size ≤ 32) && bwL ((sl s).headD 0) && !resB s && runL inL (sl s) == s.size
theorem sl_head {s : ByteArray} (h : 0 < s.size) : (sl s).headD 0 = s[0].toNat := by
  unfold sl
  have : 0 < s.data.toList.length := by simpa using h
  rw [List.headD_eq_head?_getD, List.head?_map, List.head?_eq_getElem?, List.getElem?_eq_getElem this]
  rfl
set_option maxHeartbeats 4000000 in
theorem name_any (s : ByteArray) (w : World) : Calls Tryz.prog 92 #[.string s] w fun e w' => e = .returned (.bool (nameB s)) ∧ Below w.heap.size w w' := by
  obtain ⟨r, hr⟩ : ∃ r, nameB s = r := ⟨_, rfl⟩
  rw [hr]
  have HN := Lib.hid hr
  have HR := Lib.hid (res_any s w)
  have HB := Lib.hid (begins_any)
  have hl := sl_head (s := s)
  have HL := Lib.hid hl
  clear hl hr
  go_enter Tryz.func92, Tryz.ntmps92
  by_cases c0 : s.size = 0
  · have e0 : s = ByteArray.empty := ByteArray.ext (Array.eq_empty_of_size_eq_zero c0)
    subst e0
    have hr := HN.out
    have : nameB ByteArray.empty = false := rfl
    rw [this] at hr
    subst hr
    go_wp2_with fail
    go_ret
    exact ⟨rfl, Below.refl _ _⟩
  have hp : 0 < s.size := by omega
  have hb := HL.out hp
  generalize hx : s[0].toNat = x at *
  have hx8 : x < 256 := by rw [← hx]; exact s[0].toNat_lt
  have HB1 := Lib.hid (HB.out x w hx8)
  by_cases c1 : s.size ≤ 32
  · cases c2 : bwL x with
    | false =>
      rw [c2] at HB1
      have hr := HN.out
      have : nameB s = false := by unfold nameB; rw [hb, c2]; simp
      rw [this] at hr
      subst hr
      go_wp2_with (first | (go_at_call 112; refine HB1.out.mono ?_; rintro e w' ⟨rfl, rfl⟩))
      go_ret
      exact ⟨rfl, Below.refl _ _⟩
    | true =>
      rw [c2] at HB1
      cases c3 : resB s with
      | true =>
        rw [c3] at HR
        have hr := HN.out
        have : nameB s = false := by unfold nameB; rw [c3]; simp
        rw [this] at hr
        subst hr
        go_wp2_with (first | (go_at_call 112; refine HB1.out.mono ?_; rintro e w' ⟨rfl, rfl⟩) | (go_at_call 150; refine HR.out.mono ?_; rintro e w' ⟨rfl, rfl⟩))
        go_ret
        exact ⟨rfl, Below.refl _ _⟩
      | false =>
        rw [c3] at HR
        obtain ⟨cap, w1, hc, _, _, _, b1, is1⟩ := conv_b s w (Nat.le_trans c1 (by decide))
        have HG := Lib.hid (run_any inname_any (enters_of Tryz.func151 (by kernel_rfl) rfl) w1 (some ⟨w.heap.size, 0, none⟩) w.heap.size 0 cap (sl s) (.inr rfl) is1 (by rw [sl_length]; omega))
        rw [sl_length] at HG
        have B1 := Lib.hid b1
        have hr := HN.out
        have : nameB s = (runL inL (sl s) == s.size) := by unfold nameB; rw [hb, c2, c3, decide_eq_true c1]; simp [c0]
        rw [this] at hr
        have HE := Lib.hid (show ((runL inL (sl s) : Int) == (s.size : Int)) = r by rw [← hr]; exact eqi _ _)
        clear b1 is1 hr this
        generalize runL inL (sl s) = q at HG HE
        go_wp2_with (first | (go_at_call 112; refine HB1.out.mono ?_; rintro e w' ⟨rfl, rfl⟩) | (go_at_call 150; refine HR.out.mono ?_; rintro e w' ⟨rfl, rfl⟩) | (go_at_call 111; refine HG.out.mono ?_; rintro e w' ⟨rfl, b2⟩))
        · exfalso
          rename_i _ q2
          rcases q2 with h | h
          · exact c0 (by have := eq_of_beq h; omega)
          · omega
        · rename_i b2
          go_ret
          exact ⟨by rw [HE.out]; rfl, B1.out.trans (b2.mono B1.out.size)⟩
  · have hr := HN.out
    have : nameB s = false := by unfold nameB; rw [decide_eq_false c1]; simp
    rw [this] at hr
    subst hr
    go_wp2_with fail
    go_ret
    exact ⟨rfl, Below.refl _ _⟩

end Go.Proofs.YtkffomfbnbcgaaaGreatDoor

namespace Go.Proofs.YtkffomfbnbcgaaaGreatDoor
set_option maxRecDepth 100000
open Go.RowKit Go.Joins Go.ChangeShapes Go.WideShapes
set_option linter.unusedVariables false
set_option linter.unusedSimpArgs false

/-- the numbers that the library's text has here -/
def ibRen : Go.Shelf.Ren where
  f := fun x => match x with
    | 137 => 195
    | 217 => 212
    | 266 => 227
    | n => n
  t := fun x => match x with
    | 3 => 3
    | 5 => 5
    | 9 => 9
    | n => n
  g := fun x => x
theorem ibLays : Go.Proofs.Lays.n137 Tryz.prog ibRen :=
  { mixed := by kernel_rfl, f137 := Eq.trans Tryz.func195 (congrArg some rfl), f217 := Eq.trans Tryz.func212 (congrArg some rfl), f266 := Eq.trans Tryz.func227 (congrArg some rfl),
    t3 := Tryz.underlying3, a3 := Tryz.isAgg3, z3 := Tryz.sizeOf3, v3 := Tryz.zeroValue3,
    t5 := Tryz.underlying5, a5 := Tryz.isAgg5, z5 := Tryz.sizeOf5, v5 := Tryz.zeroValue5,
    t9 := Tryz.underlying9, a9 := Tryz.isAgg9, z9 := Tryz.sizeOf9, v9 := Tryz.zeroValue9 }
theorem ib_any (s : ByteArray) (c : Int) (w : World) : Calls Tryz.prog 195 #[.string s, .int .u8 c] w fun e w' => e = .returned (.int .i64 (Lib.indexByte s.data.toList c.toNat.toUInt8)) ∧ w = w' := by
  refine (Go.Proofs.Any.strings_IndexByte ibLays s c w).mono ?_
  rintro e w' ⟨rfl, rfl⟩
  exact ⟨rfl, rfl⟩

/-- a piece of a row of bytes as a text -/
theorem str_b {w : World} {b off : Nat} {l : List Nat} (h : IsB w b off l) (n cap : Nat) (hn : n ≤ l.length) : (convert 45 9 (.slice (some ⟨b, off, none⟩) n cap)).run Tryz.prog w = .ok (.string (strB (l.take n))) w := by
  have hlen : (l.take n).length = n := by rw [List.length_take]; omega
  refine run_convert_bytes_arg w 45 5 Tryz.underlying45 Tryz.underlying5 b off n cap ((l.take n).map fun n : Nat => (n : Int)) (by simpa using hlen) (fun i hi => ?_) 9 Tryz.underlying9
  have hi2 : i < (l.take n).length := by rw [hlen]; exact hi
  have hg : (l.take n)[i]? = some ((l.take n)[i]'hi2) := List.getElem?_eq_getElem hi2
  rw [(h.take n).c i _ hg]
  rw [List.getD_eq_getElem?_getD, List.getElem?_map, hg]
  rfl
theorem u8_eq {c : Nat} (hc : c < 256) (x : UInt8) : UInt8.ofNat c = x ↔ c = x.toNat :=
  ⟨fun h => by rw [← h, UInt8.toNat_ofNat', Nat.mod_eq_of_lt hc], fun h => by rw [h, UInt8.ofNat_toNat]⟩
theorem two_eq {c d : Nat} (hc : c < 256) (hd : d < 256) (x y : UInt8) : ((strB [c, d]).toList == [x, y]) = (c == x.toNat && d == y.toNat) := by
  rw [ByteArray.toList_eq, strB_data, Bool.eq_iff_iff]
  simp only [List.map_cons, List.map_nil, beq_iff_eq, List.cons.injEq, and_true, Bool.and_eq_true]
  rw [u8_eq hc, u8_eq hd]
theorem ib_signs : ∀ c, c < 256 → decide (0 ≤ Lib.indexByte [40, 41, 44, 46, 42, 43, 45, 47, 37, 61, 60, 62] (Nat.toUInt8 c)) = [40, 41, 44, 46, 42, 43, 45, 47, 37, 61, 60, 62].contains c := by
  decide
set_option maxHeartbeats 4000000 in
theorem signsz_any {w : World} {b off cap : Nat} {c d : Nat} {r : List Nat} (h : IsB w b off (c :: d :: r)) (hl : (c :: d :: r).length ≤ cap) :
    Calls Tryz.prog 171 #[.slice (some ⟨b, off, none⟩) (c :: d :: r).length cap] w fun e w' => e = .returned (.int .i64 (signL (c :: d :: r) : Nat)) ∧ w = w' := by
  have hv : (convert 45 9 (.slice (some ⟨b, off, none⟩) 2 cap)).run Tryz.prog w = .ok (.string (strB [c, d])) w := str_b h 2 cap (by simp)
  have d0 : w.cell? ⟨b, off, none⟩ = some (.int .u8 (c : Int)) := h.c 0 c rfl
  have hc : c < 256 := h.lt c (by simp)
  have hd : d < 256 := h.lt d (by simp)
  have t1 := two_eq hc hd 60 62
  have t2 := two_eq hc hd 60 61
  have t3 := two_eq hc hd 62 61
  have t4 := two_eq hc hd 124 124
  have t5 := ib_signs c hc
  have HI := ib_any ⟨#[40, 41, 44, 46, 42, 43, 45, 47, 37, 61, 60, 62]⟩ (c : Int) w
  rw [show ((c : Int)).toNat = c from rfl] at HI
  obtain ⟨n, hn⟩ : ∃ n, (c :: d :: r).length = n := ⟨_, rfl⟩
  obtain ⟨q, hq⟩ : ∃ q, signL (c :: d :: r) = q := ⟨_, rfl⟩
  rw [hn] at hl ⊢
  rw [hq]
  have h2 : 2 ≤ n := by rw [← hn]; simp
  have hq2 : (if ((c == (60 : UInt8).toNat && d == (62 : UInt8).toNat) || (c == (60 : UInt8).toNat && d == (61 : UInt8).toNat) || (c == (62 : UInt8).toNat && d == (61 : UInt8).toNat) || (c == (124 : UInt8).toNat && d == (124 : UInt8).toNat)) = true then 2 else if [40, 41, 44, 46, 42, 43, 45, 47, 37, 61, 60, 62].contains c = true then 1 else 0) = q := hq
  clear hq hn
  generalize Lib.indexByte (⟨#[40, 41, 44, 46, 42, 43, 45, 47, 37, 61, 60, 62]⟩ : ByteArray).data.toList (Nat.toUInt8 c) = u at *
  have t5' : decide (0 ≤ u) = [40, 41, 44, 46, 42, 43, 45, 47, 37, 61, 60, 62].contains c := t5
  clear t5
  generalize (c == (60 : UInt8).toNat && d == (62 : UInt8).toNat) = v1 at *
  generalize (c == (60 : UInt8).toNat && d == (61 : UInt8).toNat) = v2 at *
  generalize (c == (62 : UInt8).toNat && d == (61 : UInt8).toNat) = v3 at *
  generalize (c == (124 : UInt8).toNat && d == (124 : UInt8).toNat) = v4 at *
  generalize [40, 41, 44, 46, 42, 43, 45, 47, 37, 61, 60, 62].contains c = v5 at *
  have HI := Lib.hid HI
  have HQ := Lib.hid hq2
  clear hq2 hc hd h
  have k1 : (1 : Int) < (n : Int) := by omega
  have k2 : (2 : Int) ≤ (cap : Int) := by omega
  cases v1 <;> cases v2 <;> cases v3 <;> cases v4 <;> cases v5
  all_goals
    go_enter Tryz.func171, Tryz.ntmps171
    go_wp2_with (first | (go_at_call 195; refine HI.out.mono ?_; rintro e w' ⟨rfl, rfl⟩))
    go_ret
    exact ⟨ret_i (by rw [← HQ.out]; rfl), rfl⟩
set_option maxHeartbeats 2000000 in
theorem signsz1_any {w : World} {b off cap : Nat} {c : Nat} (h : IsB w b off [c]) (hl : 1 ≤ cap) :
    Calls Tryz.prog 171 #[.slice (some ⟨b, off, none⟩) 1 cap] w fun e w' => e = .returned (.int .i64 (signL [c] : Nat)) ∧ w = w' := by
  have d0 : w.cell? ⟨b, off, none⟩ = some (.int .u8 (c : Int)) := h.c 0 c rfl
  have hc : c < 256 := h.lt c (by simp)
  have t5 := ib_signs c hc
  have HI := ib_any ⟨#[40, 41, 44, 46, 42, 43, 45, 47, 37, 61, 60, 62]⟩ (c : Int) w
  rw [show ((c : Int)).toNat = c from rfl] at HI
  obtain ⟨q, hq⟩ : ∃ q, signL [c] = q := ⟨_, rfl⟩
  rw [hq]
  have hq2 : (if [40, 41, 44, 46, 42, 43, 45, 47, 37, 61, 60, 62].contains c = true then 1 else 0) = q := hq
  clear hq
  generalize Lib.indexByte (⟨#[40, 41, 44, 46, 42, 43, 45, 47, 37, 61, 60, 62]⟩ : ByteArray).data.toList (Nat.toUInt8 c) = u at *
  have t5' : decide (0 ≤ u) = [40, 41, 44, 46, 42, 43, 45, 47, 37, 61, 60, 62].contains c := t5
  clear t5
  generalize [40, 41, 44, 46, 42, 43, 45, 47, 37, 61, 60, 62].contains c = v5 at *
  have HI := Lib.hid HI
  have HQ := Lib.hid hq2
  clear hq2 hc h
  cases v5
  all_goals
    go_enter Tryz.func171, Tryz.ntmps171
    go_wp2_with (first | (go_at_call 195; refine HI.out.mono ?_; rintro e w' ⟨rfl, rfl⟩))
    go_ret
    exact ⟨ret_i (by rw [← HQ.out]; rfl), rfl⟩
theorem signsize_any {w : World} {b off cap : Nat} {l : List Nat} (h : IsB w b off l) (h0 : l ≠ []) (hl : l.length ≤ cap) :
    Calls Tryz.prog 171 #[.slice (some ⟨b, off, none⟩) l.length cap] w fun e w' => e = .returned (.int .i64 (signL l : Nat)) ∧ w = w' := by
  match l with
  | [] => exact absurd rfl h0
  | [c] => exact signsz1_any h hl
  | c :: d :: r => exact signsz_any h hl

end Go.Proofs.YtkffomfbnbcgaaaGreatDoor

namespace Go.Proofs.YtkffomfbnbcgaaaGreatDoor
set_option maxRecDepth 100000
open Go.RowKit Go.Joins Go.ChangeShapes Go.WideShapes
set_option linter.unusedVariables false
set_option linter.unusedSimpArgs false

/-- a token as it is handed out -/
def Tkv (k : Int) (s : ByteArray) (n sc : Int) : Value := .agg #[.int .i64 k, .string s, .int .i64 n, .int .i64 sc]
/-- how a piece of the reader ends: with an error, or with a token, and the rest stands behind it -/
def TokP (x : Except Nat (Tk × Nat)) (w : World) (rd b : Nat) (l : List Nat) (e : Ending) (w' : World) : Prop := match x with
  | .error er => e = .returned (.tuple #[Tkv 0 ⟨#[]⟩ 0 0, .int .i64 (er : Int)]) ∧ Frm (fun k => k = rd) w w'
  | .ok (t, k) => e = .returned (.tuple #[Tkv t.kind (strB t.text) t.num t.scale, .int .i64 0]) ∧ ∃ off' cap', Rd w' rd b off' cap' (l.drop k) ∧ Frm (fun k => k = rd) w w'
def sgnE (l : List Nat) : Except Nat (Tk × Nat) := if signL l = 0 then .error 120 else .ok (⟨5, l.take (signL l), 0, 0⟩, signL l)
theorem Rd.frm {F : Bl} {w w1 : World} {rd b off cap : Nat} {l : List Nat} (h : Rd w rd b off cap l) (f : Frm F w w1) (h1 : ¬ F rd) (h2 : ¬ F b) : Rd w1 rd b off cap l :=
  ⟨(f.heap (Array.getElem?_eq_some_iff.1 h.hd).1 h1).trans h.hd, f.isB h.is (fun _ => h2), h.cp, h.sz, h.ln, h.ne⟩
/-- the token stored in the box of the result -/
theorem Rd.boxed {w w2 : World} {rd b off' cap' : Nat} {l : List Nat} (f2 : Frm (fun k => k = rd) w w2) (h : Rd w2 rd b off' cap' l) (h1 : rd < w.heap.size) (h2 : b < w.heap.size) (v0 v1 v2 v3 : Value) :
    Rd ((((w2.setCell ⟨w.heap.size, 0, none⟩ v0).setCell ⟨w.heap.size, 1, none⟩ v1).setCell ⟨w.heap.size, 2, none⟩ v2).setCell ⟨w.heap.size, 3, none⟩ v3) rd b off' cap' l ∧
      Frm (fun k => k = rd) w ((((w2.setCell ⟨w.heap.size, 0, none⟩ v0).setCell ⟨w.heap.size, 1, none⟩ v1).setCell ⟨w.heap.size, 2, none⟩ v2).setCell ⟨w.heap.size, 3, none⟩ v3) := by
  refine ⟨h.frm (F := fun k => k = w.heap.size) (((((Frm.refl (fun k => k = w.heap.size) w2).setCell (.inl rfl) 0 v0).setCell (.inl rfl) 1 v1).setCell (.inl rfl) 2 v2).setCell (.inl rfl) 3 v3) (by show ¬ rd = w.heap.size; omega) (by show ¬ b = w.heap.size; omega), ?_⟩
  exact (((f2.setCell (.inr (Nat.le_refl _)) 0 v0).setCell (.inr (Nat.le_refl _)) 1 v1).setCell (.inr (Nat.le_refl _)) 2 v2).setCell (.inr (Nat.le_refl _)) 3 v3
theorem box_set {w : World} {g : Nat} {cs : Array Value} {ty : TypeId} {fz : Nat × Nat} (hb : w.heap[g]? = some (.cells cs ty fz)) (o : Nat) (u : Value) : (w.setCell ⟨g, o, none⟩ u).heap[g]? = some (.cells (cs.setIfInBounds o u) ty fz) := by
  rw [setCell_eq_setRow w g o _ _ _ _ hb, setRow_heap w g _ _ _ _ hb]
theorem box_four {w2 : World} {g : Nat} {u0 u1 u2 u3 : Value} {ty : TypeId} {fz : Nat × Nat} (hb : w2.heap[g]? = some (.cells #[u0, u1, u2, u3] ty fz)) (v0 v1 v2 v3 : Value) :
    ((((w2.setCell ⟨g, 0, none⟩ v0).setCell ⟨g, 1, none⟩ v1).setCell ⟨g, 2, none⟩ v2).setCell ⟨g, 3, none⟩ v3).heap[g]? = some (.cells #[v0, v1, v2, v3] ty fz) :=
  box_set (box_set (box_set (box_set hb 0 v0) 1 v1) 2 v2) 3 v3
/-- a result in its box -/
theorem tok_ret {R : Ending → World → Prop} {fn : Func} (hr : fn.results = #[.cell 2 47, .tmp 3]) {a : Act} {w : World} {g : Nat} {k n sc er : Int} {s : ByteArray} (hb : w.heap[g]? = some (.cells #[.int .i64 k, .string s, .int .i64 n, .int .i64 sc] 47 (0, 0)))
    (h2 : a.tmps[2]?.getD undef = .pointer (some ⟨g, 0, none⟩)) (h3 : a.tmps[3]?.getD undef = .int .i64 er) (hd : a.defers = []) (hR : R (.returned (.tuple #[Tkv k s n sc, .int .i64 er])) w) : bodyPost Tryz.prog fn R .ret a w := by
  have z0 : w.cell? ⟨g, 0, none⟩ = some (.int .i64 k) := by rw [cell_of_block hb]; rfl
  have z1 : w.cell? ⟨g, 1, none⟩ = some (.string s) := by rw [cell_of_block hb]; rfl
  have z2 : w.cell? ⟨g, 2, none⟩ = some (.int .i64 n) := by rw [cell_of_block hb]; rfl
  have z3 : w.cell? ⟨g, 3, none⟩ = some (.int .i64 sc) := by rw [cell_of_block hb]; rfl
  exact bodyPost_ret (v := .tuple #[Tkv k s n sc, .int .i64 er]) (by simp [results, hr, go_sem, z0, z1, z2, z3, h2, h3, Tkv]) hd hR
set_option maxHeartbeats 2000000 in
theorem sign_any {w : World} {rd b off cap : Nat} {l : List Nat} (h : Rd w rd b off cap l) (h0 : l ≠ []) :
    Calls Tryz.prog 117 #[.pointer (some ⟨rd, 0, none⟩)] w (TokP (sgnE l) w rd b l) := by
  have b1 : Below w.heap.size w (w.alloc (.cells #[.int .i64 0, .string ⟨#[]⟩, .int .i64 0, .int .i64 0] 47)) := (Below.refl _ _).alloc (Nat.le_refl _) _
  have h1 := h.below b1
  have hbl : b < w.heap.size := h.is.hb (List.length_pos_iff.2 h0)
  have hrd : rd < w.heap.size := (Array.getElem?_eq_some_iff.1 h.hd).1
  have HS := Lib.hid (signsize_any h1.is h0 h1.cp)
  have HT := Lib.hid (take_any h1 (signL l))
  have c0 : w.cell? ⟨rd, 0, none⟩ = some (.slice (some ⟨b, off, none⟩) l.length cap) := by rw [cell_of_block h.hd]; rfl
  have c1 : (w.alloc (.cells #[.int .i64 0, .string ⟨#[]⟩, .int .i64 0, .int .i64 0] 47)).cell? ⟨rd, 0, none⟩ = some (.slice (some ⟨b, off, none⟩) l.length cap) := by rw [cell_of_block h1.hd]; rfl
  have hle : signL l ≠ 0 → signL l ≤ l.length := fun hq => (signL_app (e := 32) rfl [] l hq).2
  have HI := Lib.hid h1.is
  have HB := Lib.hid (show ¬ b = rd from fun e => h.ne e.symm)
  obtain ⟨n, hn⟩ : ∃ n, l.length = n := ⟨_, rfl⟩
  have HX := Lib.hid (rfl : sgnE l = sgnE l)
  unfold sgnE at HX ⊢
  generalize signL l = q at *
  rw [hn] at HS c0 c1
  have hnew := heap_alloc_new w (.cells #[.int .i64 0, .string ⟨#[]⟩, .int .i64 0, .int .i64 0] 47)
  have HN := Lib.hid hnew
  have HBel := Lib.hid b1
  have hsz : w.heap.size < (w.alloc (.cells #[.int .i64 0, .string ⟨#[]⟩, .int .i64 0, .int .i64 0] 47)).heap.size := by simp
  have HZ := Lib.hid hsz
  clear h h1 b1 hnew hsz HX
  by_cases c : q = 0
  · subst c
    rw [if_pos rfl]
    generalize hP : TokP (.error 120) w rd b l = P
    have HF := Lib.hid (show P (.returned (.tuple #[Tkv 0 ⟨#[]⟩ 0 0, .int .i64 120])) (w.alloc (.cells #[.int .i64 0, .string ⟨#[]⟩, .int .i64 0, .int .i64 0] 47)) by
      rw [← hP]
      exact ⟨rfl, Frm.of_below HBel.out⟩)
    clear hP
    go_enter Tryz.func117, Tryz.ntmps117
    go_wp2_with (first | (go_at_call 171; refine HS.out.mono ?_; rintro e w' ⟨rfl, rfl⟩))
    exact tok_ret Tryz.results117 HN.out rfl rfl rfl HF.out
  · rw [if_neg c]
    generalize hP : TokP (.ok (⟨5, l.take q, 0, 0⟩, q)) w rd b l = P
    have HP := Lib.hid hP
    clear hP
    have cz : ((q : Int) == 0) = false := by simp [c]
    have HT1 := Lib.hid (HT.out (hle c))
    clear HT
    go_enter Tryz.func117, Tryz.ntmps117
    go_wp2_with (first | (go_at_call 171; refine HS.out.mono ?_; rintro e w' ⟨rfl, rfl⟩))
    go_at_call 110
    refine HT1.out.mono ?_
    rintro e w2 ⟨rfl, off', cap', r2, f2⟩
    have hcv := str_b (f2.isB HI.out (fun _ => HB.out)) q cap (by rw [hn]; exact hn ▸ hle c)
    have hbx : w2.heap[w.heap.size]? = some (.cells #[.int .i64 0, .string ⟨#[]⟩, .int .i64 0, .int .i64 0] 47 (0, 0)) := (f2.heap HZ.out (by omega)).trans HN.out
    have HX := Lib.hid (show P (.returned (.tuple #[Tkv 5 (strB (l.take q)) 0 0, .int .i64 0])) ((((w2.setCell ⟨w.heap.size, 0, none⟩ (.int .i64 5)).setCell ⟨w.heap.size, 1, none⟩ (.string (strB (l.take q)))).setCell ⟨w.heap.size, 2, none⟩ (.int .i64 0)).setCell ⟨w.heap.size, 3, none⟩ (.int .i64 0)) by
      rw [← HP.out]
      obtain ⟨x1, x2⟩ := Rd.boxed ((Frm.of_below (F := fun k => k = rd) HBel.out).trans f2 (New.refl _ _)) r2 hrd hbl (.int .i64 5) (.string (strB (l.take q))) (.int .i64 0) (.int .i64 0)
      exact ⟨rfl, off', cap', x1, x2⟩)
    have e0 : w2.cell? ⟨w.heap.size, 0, none⟩ = some (.int .i64 0) := by rw [cell_of_block hbx]; rfl
    have e1 : w2.cell? ⟨w.heap.size, 1, none⟩ = some (.string ⟨#[]⟩) := by rw [cell_of_block hbx]; rfl
    have e2 : w2.cell? ⟨w.heap.size, 2, none⟩ = some (.int .i64 0) := by rw [cell_of_block hbx]; rfl
    have e3 : w2.cell? ⟨w.heap.size, 3, none⟩ = some (.int .i64 0) := by rw [cell_of_block hbx]; rfl
    have f0 := unfrozen_of_block hbx 0
    have f1 := unfrozen_of_block hbx 1
    have f4 := unfrozen_of_block hbx 2
    have f3 := unfrozen_of_block hbx 3
    clear r2 f2
    go_wp2_with fail
    exact tok_ret Tryz.results117 (box_four hbx _ _ _ _) rfl rfl rfl HX.out

end Go.Proofs.YtkffomfbnbcgaaaGreatDoor

namespace Go.Proofs.YtkffomfbnbcgaaaGreatDoor
set_option maxRecDepth 100000
open Go.RowKit Go.Joins Go.ChangeShapes Go.WideShapes
set_option linter.unusedVariables false
set_option linter.unusedSimpArgs false

/-- the numbers that the library's text has here -/
def tlRen : Go.Shelf.Ren where
  f := fun x => match x with
    | 10 => 165
    | 15 => 189
    | 16 => 190
    | 18 => 191
    | n => n
  t := fun x => match x with
    | 0 => 0
    | 3 => 3
    | 4 => 4
    | 5 => 5
    | 22 => 45
    | 30 => 188
    | 21 => 21
    | n => n
  g := fun x => x
theorem tlLays : Go.Proofs.SlLaysU.n10 Tryz.prog tlRen :=
  { mixed := by kernel_rfl, f10 := Eq.trans Tryz.func165 (congrArg some rfl), f15 := Eq.trans Tryz.func189 (congrArg some rfl),
    t0 := Tryz.underlying0, a0 := Tryz.isAgg0, z0 := Tryz.sizeOf0, v0 := Tryz.zeroValue0,
    t3 := Tryz.underlying3, a3 := Tryz.isAgg3, z3 := Tryz.sizeOf3, v3 := Tryz.zeroValue3,
    t4 := Tryz.underlying4, a4 := Tryz.isAgg4, z4 := Tryz.sizeOf4, v4 := Tryz.zeroValue4,
    t5 := Tryz.underlying5, a5 := Tryz.isAgg5, z5 := Tryz.sizeOf5, v5 := Tryz.zeroValue5,
    t22 := Tryz.underlying45, a22 := Tryz.isAgg45, z22 := Tryz.sizeOf45, v22 := Tryz.zeroValue45,
    t30 := Tryz.underlying188, a30 := Tryz.isAgg188, z30 := Tryz.sizeOf188, v30 := Tryz.zeroValue188,
    i5 := by kernel_rfl }
theorem tl_any (a : Addr) (n c : Nat) (xs : List Int) (w : World) (hx : xs.length = n) (hasc : ∀ x ∈ xs, 0 ≤ x ∧ x < 128) (hc : ∀ i, i < n → w.cell? (a.add i) = some (.int .u8 (xs.getD i 0))) (h0 : 0 < n) (hs : n ≤ 140737488355328) :
    Calls Tryz.prog 165 #[.slice (some a) n c] w fun e w' => ∃ v', e = .returned v' ∧ Lib.FreshBytes w.heap.size w' v' (Lib.toLowerA (Lib.bytesOf xs)) ∧ Below w.heap.size w w' :=
  Go.Proofs.Any.bytes_ToLower_at tlLays a n c xs w hx hasc hc h0 hs

end Go.Proofs.YtkffomfbnbcgaaaGreatDoor

namespace Go.Proofs.YtkffomfbnbcgaaaGreatDoor
set_option maxRecDepth 100000
open Go.RowKit Go.Joins Go.ChangeShapes Go.WideShapes
set_option linter.unusedVariables false
set_option linter.unusedSimpArgs false

theorem low_b : ∀ x, x < 256 → Lib.lowerB (UInt8.ofNat x) = UInt8.ofNat (lowL x) := by
  decide
theorem iw_lt : ∀ x, x < 256 → iwL x = true → x < 128 := by
  decide
theorem runL_all (f : Nat → Bool) : ∀ (l : List Nat) (x : Nat), x ∈ l.take (runL f l) → f x = true
  | [], x, h => by simp at h
  | c :: r, x, h => by
    rw [runL_cons] at h
    cases hc : f c with
    | false => rw [hc] at h; simp at h
    | true =>
      rw [hc, if_pos rfl, List.take_succ_cons] at h
      rcases List.mem_cons.1 h with e | e
      · rw [e]; exact hc
      · exact runL_all f r x e
/-- a fresh row of bytes as a text -/
theorem fresh_str {B : Nat} {w : World} {v : Value} {lw : List UInt8} (h : Lib.FreshBytes B w v lw) : ∃ s, (convert 45 9 v).run Tryz.prog w = .ok (.string s) w ∧ s.data.toList = lw := by
  obtain ⟨g, cap, zs, rfl, hB, hl, hm, hz, hr, hb, hc, hf⟩ := h
  refine ⟨strOfNums (zs.take lw.length), run_convert_bytes_arg w 45 5 Tryz.underlying45 Tryz.underlying5 g 0 lw.length cap (zs.take lw.length) (by rw [List.length_take]; omega) (fun i hi => ?_) 9 Tryz.underlying9, ?_⟩
  · rw [Nat.zero_add, hc i (by omega)]
    rw [List.getD_eq_getElem?_getD, List.getD_eq_getElem?_getD, List.getElem?_take, if_pos hi]
  · rw [strOfNums_data]
    exact hb
def wrdE (l : List Nat) : Except Nat (Tk × Nat) := if runL iwL l > 32 then .error 122 else .ok (⟨1, (l.take (runL iwL l)).map lowL, 0, 0⟩, runL iwL l)
theorem low_str {l : List Nat} (hl : ∀ x ∈ l, x < 256) {s : ByteArray} (h : s.data.toList = Lib.toLowerA (Lib.bytesOf (l.map fun n : Nat => (n : Int)))) : s = strB (l.map lowL) := by
  have h2 : s.data.toList = (strB (l.map lowL)).data.toList := by
    rw [h, strB_data]
    unfold Lib.toLowerA Lib.bytesOf
    rw [List.map_map, List.map_map, List.map_map]
    refine List.map_congr_left fun x hx => ?_
    exact low_b x (hl x hx)
  cases s with
  | mk d =>
    cases hb : strB (l.map lowL) with
    | mk e =>
      rw [hb] at h2
      have e2 : d = e := Array.toList_inj.1 h2
      rw [e2]
set_option maxHeartbeats 2000000 in
theorem word_any {w : World} {rd b off cap : Nat} {c : Nat} {r : List Nat} (h : Rd w rd b off cap (c :: r)) (hbw : bwL c = true) :
    Calls Tryz.prog 113 #[.pointer (some ⟨rd, 0, none⟩)] w (TokP (wrdE (c :: r)) w rd b (c :: r)) := by
  have hk0 : 0 < runL iwL (c :: r) := by rw [runL_cons, if_pos (by unfold iwL; rw [hbw]; rfl)]; omega
  have hasc := fun x hx => iw_lt x (h.is.lt x (List.mem_of_mem_take hx)) (runL_all iwL (c :: r) x hx)
  have hlt : ∀ x ∈ (c :: r).take (runL iwL (c :: r)), x < 256 := fun x hx => h.is.lt x (List.mem_of_mem_take hx)
  have hkl := runL_le iwL (c :: r)
  have hne : (c :: r) ≠ [] := by simp
  generalize (c :: r) = l at *
  have b1 : Below w.heap.size w (w.alloc (.cells #[.int .i64 0, .string ⟨#[]⟩, .int .i64 0, .int .i64 0] 47)) := (Below.refl _ _).alloc (Nat.le_refl _) _
  have h1 := h.below b1
  have hbl : b < w.heap.size := h.is.hb (List.length_pos_iff.2 hne)
  have hrd : rd < w.heap.size := (Array.getElem?_eq_some_iff.1 h.hd).1
  have HT := Lib.hid (pass_any inword_any (enters_of Tryz.func164 (by kernel_rfl) rfl) h1)
  have HI := Lib.hid h1.is
  have hcap : runL iwL l ≤ 4294967296 := by have := h.ln; omega
  have HB := Lib.hid (show ¬ b = rd from fun e => h.ne e.symm)
  unfold wrdE
  generalize runL iwL l = q at *
  have hnew := heap_alloc_new w (.cells #[.int .i64 0, .string ⟨#[]⟩, .int .i64 0, .int .i64 0] 47)
  have HN := Lib.hid hnew
  have HBel := Lib.hid b1
  have hsz : w.heap.size < (w.alloc (.cells #[.int .i64 0, .string ⟨#[]⟩, .int .i64 0, .int .i64 0] 47)).heap.size := by simp
  have HZ := Lib.hid hsz
  have HA := Lib.hid hasc
  have HL := Lib.hid hlt
  have HK := Lib.hid hkl
  clear h h1 b1 hnew hsz hasc hlt hkl
  by_cases c1 : q > 32
  · rw [if_pos c1]
    generalize hP : TokP (.error 122) w rd b l = P
    have HP := Lib.hid hP
    clear hP
    go_enter Tryz.func113, Tryz.ntmps113
    go_wp2_with fail
    go_at_call 47
    refine HT.out.mono ?_
    rintro e w2 ⟨rfl, off', cap', r2, f2⟩
    have hbx : w2.heap[w.heap.size]? = some (.cells #[.int .i64 0, .string ⟨#[]⟩, .int .i64 0, .int .i64 0] 47 (0, 0)) := (f2.heap HZ.out (by omega)).trans HN.out
    have HX := Lib.hid (show P (.returned (.tuple #[Tkv 0 ⟨#[]⟩ 0 0, .int .i64 122])) ((((w2.setCell ⟨w.heap.size, 0, none⟩ (.int .i64 0)).setCell ⟨w.heap.size, 1, none⟩ (.string ⟨#[]⟩)).setCell ⟨w.heap.size, 2, none⟩ (.int .i64 0)).setCell ⟨w.heap.size, 3, none⟩ (.int .i64 0)) by
      rw [← HP.out]
      obtain ⟨x1, x2⟩ := Rd.boxed ((Frm.of_below (F := fun k => k = rd) HBel.out).trans f2 (New.refl _ _)) r2 hrd hbl (.int .i64 0) (.string ⟨#[]⟩) (.int .i64 0) (.int .i64 0)
      exact ⟨rfl, x2⟩)
    have e0 : w2.cell? ⟨w.heap.size, 0, none⟩ = some (.int .i64 0) := by rw [cell_of_block hbx]; rfl
    have e1 : w2.cell? ⟨w.heap.size, 1, none⟩ = some (.string ⟨#[]⟩) := by rw [cell_of_block hbx]; rfl
    have e2 : w2.cell? ⟨w.heap.size, 2, none⟩ = some (.int .i64 0) := by rw [cell_of_block hbx]; rfl
    have e3 : w2.cell? ⟨w.heap.size, 3, none⟩ = some (.int .i64 0) := by rw [cell_of_block hbx]; rfl
    have f0 := unfrozen_of_block hbx 0
    have f1 := unfrozen_of_block hbx 1
    have f4 := unfrozen_of_block hbx 2
    have f3 := unfrozen_of_block hbx 3
    clear r2 f2
    go_wp2_with fail
    exact tok_ret Tryz.results113 (box_four hbx _ _ _ _) rfl rfl rfl HX.out
  · rw [if_neg c1]
    generalize hP : TokP (.ok (⟨1, (l.take q).map lowL, 0, 0⟩, q)) w rd b l = P
    have HP := Lib.hid hP
    clear hP
    have k1 : (q : Int) ≤ 32 := by omega
    go_enter Tryz.func113, Tryz.ntmps113
    go_wp2_with fail
    go_at_call 47
    refine HT.out.mono ?_
    rintro e w2 ⟨rfl, off', cap', r2, f2⟩
    have hlen : (l.take q).length = q := by rw [List.length_take]; have := HK.out; omega
    have is2 := (f2.isB HI.out (fun _ => HB.out)).take q
    have HTL := Lib.hid (tl_any ⟨b, off, none⟩ q cap ((l.take q).map fun n : Nat => (n : Int)) w2 (by rw [List.length_map, hlen]) (fun x hx => by
      obtain ⟨y, hy, rfl⟩ := List.mem_map.1 hx
      have := HA.out y hy
      omega) (fun i hi => by
      have hi2 : i < (l.take q).length := by omega
      have hg := List.getElem?_eq_getElem hi2
      rw [show (⟨b, off, none⟩ : Addr).add i = ⟨b, off + i, none⟩ by unfold Addr.add; split <;> simp_all, is2.c i _ hg, List.getD_eq_getElem?_getD, List.getElem?_map, hg]
      rfl) hk0 (by omega))
    have hbx2 : w2.heap[w.heap.size]? = some (.cells #[.int .i64 0, .string ⟨#[]⟩, .int .i64 0, .int .i64 0] 47 (0, 0)) := (f2.heap HZ.out (by omega)).trans HN.out
    have R2 := Lib.hid r2
    have F2 := Lib.hid f2
    have HX2 := Lib.hid hbx2
    clear r2 f2 is2 hbx2
    go_wp2_with fail
    go_at_call 165
    refine HTL.out.mono ?_
    rintro e w3 ⟨v, rfl, fr, b3⟩
    obtain ⟨s, hcv, hs⟩ := fresh_str fr
    have es := low_str HL.out hs
    subst es
    obtain ⟨g3, cap3, _, ev, _⟩ := fr
    generalize (Lib.toLowerA (Lib.bytesOf (List.map (fun n : Nat => (n : Int)) (List.take q l)))).length = n3 at ev
    subst ev
    have hbx : w3.heap[w.heap.size]? = some (.cells #[.int .i64 0, .string ⟨#[]⟩, .int .i64 0, .int .i64 0] 47 (0, 0)) := (b3.block _ (Array.getElem?_eq_some_iff.1 HX2.out).1).trans HX2.out
    have HX := Lib.hid (show P (.returned (.tuple #[Tkv 1 (strB ((l.take q).map lowL)) 0 0, .int .i64 0])) ((((w3.setCell ⟨w.heap.size, 0, none⟩ (.int .i64 1)).setCell ⟨w.heap.size, 1, none⟩ (.string (strB ((l.take q).map lowL)))).setCell ⟨w.heap.size, 2, none⟩ (.int .i64 0)).setCell ⟨w.heap.size, 3, none⟩ (.int .i64 0)) by
      rw [← HP.out]
      obtain ⟨x1, x2⟩ := Rd.boxed (((Frm.of_below (F := fun k => k = rd) HBel.out).trans F2.out (New.refl _ _)).step b3) (R2.out.below b3) hrd hbl (.int .i64 1) (.string (strB ((l.take q).map lowL))) (.int .i64 0) (.int .i64 0)
      exact ⟨rfl, off', cap', x1, x2⟩)
    have e0 : w3.cell? ⟨w.heap.size, 0, none⟩ = some (.int .i64 0) := by rw [cell_of_block hbx]; rfl
    have e1 : w3.cell? ⟨w.heap.size, 1, none⟩ = some (.string ⟨#[]⟩) := by rw [cell_of_block hbx]; rfl
    have e2 : w3.cell? ⟨w.heap.size, 2, none⟩ = some (.int .i64 0) := by rw [cell_of_block hbx]; rfl
    have e3 : w3.cell? ⟨w.heap.size, 3, none⟩ = some (.int .i64 0) := by rw [cell_of_block hbx]; rfl
    have f0 := unfrozen_of_block hbx 0
    have f1 := unfrozen_of_block hbx 1
    have f4 := unfrozen_of_block hbx 2
    have f3 := unfrozen_of_block hbx 3
    clear b3 hs
    generalize strB (List.map lowL (List.take q l)) = S at hcv HX
    go_wp2_with fail
    exact tok_ret Tryz.results113 (box_four hbx _ _ _ _) rfl rfl rfl HX.out

end Go.Proofs.YtkffomfbnbcgaaaGreatDoor

namespace Go.Proofs.YtkffomfbnbcgaaaGreatDoor
set_option maxRecDepth 100000
open Go.RowKit Go.Joins Go.ChangeShapes Go.WideShapes
set_option linter.unusedVariables false
set_option linter.unusedSimpArgs false

set_option maxHeartbeats 2000000 in
theorem frac_any {w : World} {rd b off cap : Nat} {l : List Nat} (h : Rd w rd b off cap l) :
    Calls Tryz.prog 166 #[.pointer (some ⟨rd, 0, none⟩)] w fun e w' => e = .returned (.bool (fracL l)) ∧ w = w' := by
  have c0 : w.cell? ⟨rd, 0, none⟩ = some (.slice (some ⟨b, off, none⟩) l.length cap) := by rw [cell_of_block h.hd]; rfl
  rcases l with _ | ⟨p, _ | ⟨d, r⟩⟩
  · have c0 : w.cell? ⟨rd, 0, none⟩ = some (.slice (some ⟨b, off, none⟩) 0 cap) := c0
    clear h
    go_enter Tryz.func166, Tryz.ntmps166
    go_wp2_with fail
    go_ret
    exact ⟨rfl, rfl⟩
  · have c0 : w.cell? ⟨rd, 0, none⟩ = some (.slice (some ⟨b, off, none⟩) 1 cap) := c0
    clear h
    go_enter Tryz.func166, Tryz.ntmps166
    go_wp2_with fail
    go_ret
    exact ⟨rfl, rfl⟩
  · have d0 : w.cell? ⟨b, off, none⟩ = some (.int .u8 (p : Int)) := h.is.c 0 p rfl
    have d1 : w.cell? ⟨b, off + 1, none⟩ = some (.int .u8 (d : Int)) := h.is.c 1 d rfl
    have HD := Lib.hid (digit_any d w (h.is.lt d (by simp)))
    have e1 : ((p : Int) == (46 : Int)) = (p == 46) := eqi p 46
    obtain ⟨n, hn⟩ : ∃ n, (p :: d :: r).length = n := ⟨_, rfl⟩
    have h2 : (1 : Int) < (n : Int) := by rw [← hn]; simp; omega
    rw [hn] at c0
    show Calls _ _ _ _ fun e w' => e = .returned (.bool (p == 46 && dgL d)) ∧ w = w'
    clear h hn
    generalize dgL d = v at *
    cases h1 : (p == 46) <;> rw [h1] at e1 <;> clear h1 <;> cases v
    all_goals
      go_enter Tryz.func166, Tryz.ntmps166
      go_wp2_with (first | (go_at_call 114; refine HD.out.mono ?_; rintro e w' ⟨rfl, rfl⟩))
      go_ret
      exact ⟨rfl, rfl⟩

end Go.Proofs.YtkffomfbnbcgaaaGreatDoor

namespace Go.Proofs.YtkffomfbnbcgaaaGreatDoor
set_option maxRecDepth 100000
open Go.RowKit Go.Joins Go.ChangeShapes Go.WideShapes
set_option linter.unusedVariables false
set_option linter.unusedSimpArgs false

/-- the numbers that the library's text has here -/
def piRen : Go.Shelf.Ren where
  f := fun x => match x with
    | 174 => 168
    | 247 => 193
    | 245 => 194
    | 287 => 207
    | 279 => 208
    | 280 => 209
    | 281 => 210
    | 282 => 211
    | 321 => 222
    | 322 => 223
    | 316 => 224
    | 171 => 226
    | 205 => 225
    | 243 => 242
    | 246 => 216
    | 283 => 229
    | 284 => 230
    | 285 => 231
    | 286 => 232
    | 129 => 245
    | 317 => 244
    | 318 => 246
    | 319 => 247
    | 320 => 248
    | 337 => 258
    | 338 => 259
    | n => n
  t := fun x => match x with
    | 9 => 9
    | 3 => 3
    | 2 => 2
    | 75 => 166
    | 85 => 179
    | 4 => 4
    | 167 => 206
    | 5 => 5
    | 53 => 158
    | 175 => 207
    | 46 => 209
    | 168 => 210
    | 37 => 45
    | 0 => 0
    | 210 => 223
    | 21 => 21
    | 127 => 185
    | 145 => 244
    | 143 => 242
    | 171 => 225
    | 173 => 228
    | 212 => 246
    | 51 => 218
    | 20 => 20
    | 213 => 247
    | 232 => 260
    | 233 => 261
    | 80 => 98
    | n => n
  g := fun x => match x with
    | 15 => 2
    | 16 => 3
    | 17 => 6
    | 18 => 7
    | 19 => 8
    | n => n
theorem piLays : Go.Proofs.LaysC.n174 Tryz.prog piRen :=
  { mixed := by kernel_rfl,
    f129 := Eq.trans Tryz.func245 (congrArg some rfl),
    f171 := Eq.trans Tryz.func226 (congrArg some rfl),
    f174 := Eq.trans Tryz.func168 (congrArg some rfl),
    f205 := Eq.trans Tryz.func225 (congrArg some rfl),
    f243 := Eq.trans Tryz.func242 (congrArg some rfl),
    f245 := Eq.trans Tryz.func194 (congrArg some rfl),
    f246 := Eq.trans Tryz.func216 (congrArg some rfl),
    f247 := Eq.trans Tryz.func193 (congrArg some rfl),
    f279 := Eq.trans Tryz.func208 (congrArg some rfl),
    f280 := Eq.trans Tryz.func209 (congrArg some rfl),
    f281 := Eq.trans Tryz.func210 (congrArg some rfl),
    f282 := Eq.trans Tryz.func211 (congrArg some rfl),
    f283 := Eq.trans Tryz.func229 (congrArg some rfl),
    f284 := Eq.trans Tryz.func230 (congrArg some rfl),
    f285 := Eq.trans Tryz.func231 (congrArg some rfl),
    f286 := Eq.trans Tryz.func232 (congrArg some rfl),
    f287 := Eq.trans Tryz.func207 (congrArg some rfl),
    f316 := Eq.trans Tryz.func224 (congrArg some rfl),
    f317 := Eq.trans Tryz.func244 (congrArg some rfl),
    f318 := Eq.trans Tryz.func246 (congrArg some rfl),
    f319 := Eq.trans Tryz.func247 (congrArg some rfl),
    f320 := Eq.trans Tryz.func248 (congrArg some rfl),
    f321 := Eq.trans Tryz.func222 (congrArg some rfl),
    f322 := Eq.trans Tryz.func223 (congrArg some rfl),
    f337 := Eq.trans Tryz.func258 (congrArg some rfl),
    f338 := Eq.trans Tryz.func259 (congrArg some rfl),
    t0 := Tryz.underlying0,
    a0 := Tryz.isAgg0,
    z0 := Tryz.sizeOf0,
    v0 := Tryz.zeroValue0,
    t2 := Tryz.underlying2,
    a2 := Tryz.isAgg2,
    z2 := Tryz.sizeOf2,
    v2 := Tryz.zeroValue2,
    t3 := Tryz.underlying3,
    a3 := Tryz.isAgg3,
    z3 := Tryz.sizeOf3,
    v3 := Tryz.zeroValue3,
    t4 := Tryz.underlying4,
    a4 := Tryz.isAgg4,
    z4 := Tryz.sizeOf4,
    v4 := Tryz.zeroValue4,
    t5 := Tryz.underlying5,
    a5 := Tryz.isAgg5,
    z5 := Tryz.sizeOf5,
    v5 := Tryz.zeroValue5,
    t9 := Tryz.underlying9,
    a9 := Tryz.isAgg9,
    z9 := Tryz.sizeOf9,
    v9 := Tryz.zeroValue9,
    t20 := Tryz.underlying20,
    a20 := Tryz.isAgg20,
    z20 := Tryz.sizeOf20,
    v20 := Tryz.zeroValue20,
    t21 := Tryz.underlying21,
    a21 := Tryz.isAgg21,
    z21 := Tryz.sizeOf21,
    v21 := Tryz.zeroValue21,
    t37 := Tryz.underlying45,
    a37 := Tryz.isAgg45,
    z37 := Tryz.sizeOf45,
    v37 := Tryz.zeroValue45,
    t46 := Tryz.underlying209,
    a46 := Tryz.isAgg209,
    z46 := Tryz.sizeOf209,
    v46 := Tryz.zeroValue209,
    t51 := Tryz.underlying218,
    a51 := Tryz.isAgg218,
    z51 := Tryz.sizeOf218,
    v51 := Tryz.zeroValue218,
    t53 := Tryz.underlying158,
    a53 := Tryz.isAgg158,
    z53 := Tryz.sizeOf158,
    v53 := Tryz.zeroValue158,
    t75 := Tryz.underlying166,
    a75 := Tryz.isAgg166,
    z75 := Tryz.sizeOf166,
    v75 := Tryz.zeroValue166,
    t85 := Tryz.underlying179,
    a85 := Tryz.isAgg179,
    z85 := Tryz.sizeOf179,
    v85 := Tryz.zeroValue179,
    t127 := Tryz.underlying185,
    a127 := Tryz.isAgg185,
    z127 := Tryz.sizeOf185,
    v127 := Tryz.zeroValue185,
    t143 := Tryz.underlying242,
    a143 := Tryz.isAgg242,
    z143 := Tryz.sizeOf242,
    v143 := Tryz.zeroValue242,
    t145 := Tryz.underlying244,
    a145 := Tryz.isAgg244,
    z145 := Tryz.sizeOf244,
    v145 := Tryz.zeroValue244,
    t167 := Tryz.underlying206,
    a167 := Tryz.isAgg206,
    z167 := Tryz.sizeOf206,
    v167 := Tryz.zeroValue206,
    t168 := Tryz.underlying210,
    a168 := Tryz.isAgg210,
    z168 := Tryz.sizeOf210,
    v168 := Tryz.zeroValue210,
    t171 := Tryz.underlying225,
    a171 := Tryz.isAgg225,
    z171 := Tryz.sizeOf225,
    v171 := Tryz.zeroValue225,
    t173 := Tryz.underlying228,
    a173 := Tryz.isAgg228,
    z173 := Tryz.sizeOf228,
    v173 := Tryz.zeroValue228,
    t175 := Tryz.underlying207,
    a175 := Tryz.isAgg207,
    z175 := Tryz.sizeOf207,
    v175 := Tryz.zeroValue207,
    t210 := Tryz.underlying223,
    a210 := Tryz.isAgg223,
    z210 := Tryz.sizeOf223,
    v210 := Tryz.zeroValue223,
    t212 := Tryz.underlying246,
    a212 := Tryz.isAgg246,
    z212 := Tryz.sizeOf246,
    v212 := Tryz.zeroValue246,
    t213 := Tryz.underlying247,
    a213 := Tryz.isAgg247,
    z213 := Tryz.sizeOf247,
    t232 := Tryz.underlying260,
    a232 := Tryz.isAgg260,
    z232 := Tryz.sizeOf260,
    v232 := Tryz.zeroValue260,
    t233 := Tryz.underlying261,
    a233 := Tryz.isAgg261,
    z233 := Tryz.sizeOf261,
    v233 := Tryz.zeroValue261,
    g15 := by kernel_rfl,
    g16 := by kernel_rfl,
    g17 := by kernel_rfl,
    g18 := by kernel_rfl,
    g19 := by kernel_rfl,
    t80 := Tryz.underlying98,
    a80 := Tryz.isAgg98,
    z80 := Tryz.sizeOf98,
    v80 := Tryz.zeroValue98,
    i0 := by kernel_rfl,
    i2 := by kernel_rfl,
    i3 := by kernel_rfl,
    i4 := by kernel_rfl,
    i5 := by kernel_rfl,
    i9 := by kernel_rfl,
    i20 := by kernel_rfl,
    i21 := by kernel_rfl,
    i37 := by kernel_rfl,
    i46 := by kernel_rfl,
    i51 := by kernel_rfl,
    i53 := by kernel_rfl,
    i75 := by kernel_rfl,
    i80 := by kernel_rfl,
    i85 := by kernel_rfl,
    i127 := by kernel_rfl,
    i143 := by kernel_rfl,
    i145 := by kernel_rfl,
    i167 := by kernel_rfl,
    i168 := by kernel_rfl,
    i171 := by kernel_rfl,
    i173 := by kernel_rfl,
    i175 := by kernel_rfl,
    i210 := by kernel_rfl,
    i212 := by kernel_rfl,
    i232 := by kernel_rfl,
    i233 := by kernel_rfl,
    m15 := by kernel_rfl,
    m16 := by kernel_rfl,
    m17 := by kernel_rfl,
    m18 := by kernel_rfl,
    m19 := by kernel_rfl,
    c0 := by kernel_rfl,
    c2 := by kernel_rfl,
    c3 := by kernel_rfl,
    c4 := by kernel_rfl,
    c5 := by kernel_rfl,
    c9 := by kernel_rfl,
    c20 := by kernel_rfl,
    c21 := by kernel_rfl,
    c37 := by kernel_rfl,
    c46 := by kernel_rfl,
    c51 := by kernel_rfl,
    c53 := by kernel_rfl,
    c75 := by kernel_rfl,
    c80 := by kernel_rfl,
    c85 := by kernel_rfl,
    c127 := by kernel_rfl,
    c143 := by kernel_rfl,
    c145 := by kernel_rfl,
    c167 := by kernel_rfl,
    c168 := by kernel_rfl,
    c171 := by kernel_rfl,
    c173 := by kernel_rfl,
    c175 := by kernel_rfl,
    c210 := by kernel_rfl,
    c212 := by kernel_rfl,
    c213 := by kernel_rfl,
    c232 := by kernel_rfl,
    c233 := by kernel_rfl }

end Go.Proofs.YtkffomfbnbcgaaaGreatDoor
