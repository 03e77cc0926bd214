/-
  A text's tokens as a function of its bytes (layer 12), and that a blank between two texts parts them.
  Conditions: none.
-/
import Derived.Test.YtlhipnklljjahaaDoorLx1
namespace Go.Proofs.YtlhipnklljjahaaDoor
set_option maxRecDepth 100000
open Go.RowKit Go.Joins Go.ChangeShapes Go.WideShapes
set_option linter.unusedVariables false
set_option linter.unusedSimpArgs false

/-- a token: its kind, its text, its number, its scale -/
structure Tk where
  kind : Nat
  text : List Nat
  num : Nat
  scale : Nat
deriving DecidableEq
def lowL (c : Nat) : Nat := if cpL c then c + 32 else c
def decL (l : List Nat) : Nat := l.foldl (fun n c => n * 10 + (c - 48)) 0
/-- the text between quotes, and how many bytes it takes with its closing quote -/
def textL : List Nat → Option (List Nat × Nat)
  | [] => none
  | c :: r => if c = 39 then (match r with
      | [] => some ([], 1)
      | d :: r' => if d = 39 then (textL r').map (fun x => (39 :: x.1, x.2 + 2)) else some ([], 1))
    else (textL r).map (fun x => (c :: x.1, x.2 + 1))
def signL (l : List Nat) : Nat := match l with
  | [] => 0
  | c :: r =>
    if (match r with
      | [] => false
      | d :: _ => (c == 60 && d == 62) || (c == 60 && d == 61) || (c == 62 && d == 61) || (c == 124 && d == 124)) then 2
    else if [40, 41, 44, 46, 42, 43, 45, 47, 37, 61, 60, 62].contains c then 1 else 0
/-- the token with which bytes begin, and how many it takes; or the error -/
def tokC (c : Nat) (r l : List Nat) : Except Nat (Tk × Nat) :=
    if bwL c then (if runL iwL l > 32 then .error 122 else .ok (⟨1, (l.take (runL iwL l)).map lowL, 0, 0⟩, runL iwL l))
    else if dgL c then
      (if (match l.drop (runL dgL l) with
          | p :: d :: _ => p == 46 && dgL d
          | _ => false) then
        (if runL dgL l + runL dgL (l.drop (runL dgL l + 1)) > 15 then .error 11
         else .ok (⟨3, [], decL (l.take (runL dgL l) ++ (l.drop (runL dgL l + 1)).take (runL dgL (l.drop (runL dgL l + 1)))), runL dgL (l.drop (runL dgL l + 1))⟩, runL dgL l + 1 + runL dgL (l.drop (runL dgL l + 1))))
       else (if runL dgL l > 19 ∨ 9223372036854775807 < decL (l.take (runL dgL l)) then .error 11 else .ok (⟨2, [], decL (l.take (runL dgL l)), 0⟩, runL dgL l)))
    else if c = 39 then (match textL r with
      | none => .error 121
      | some x => if x.1.length > 200 then .error 1 else .ok (⟨4, x.1, 0, 0⟩, x.2 + 1))
    else if signL l = 0 then .error 120 else .ok (⟨5, l.take (signL l), 0, 0⟩, signL l)
/-- a point with a digit behind it stands ahead -/
def fracL (l : List Nat) : Bool := match l with
  | p :: d :: _ => p == 46 && dgL d
  | _ => false
theorem tokC_eq (c : Nat) (r l : List Nat) : tokC c r l =
    if bwL c then (if runL iwL l > 32 then .error 122 else .ok (⟨1, (l.take (runL iwL l)).map lowL, 0, 0⟩, runL iwL l))
    else if dgL c then
      (if fracL (l.drop (runL dgL l)) then
        (if runL dgL l + runL dgL (l.drop (runL dgL l + 1)) > 15 then .error 11
         else .ok (⟨3, [], decL (l.take (runL dgL l) ++ (l.drop (runL dgL l + 1)).take (runL dgL (l.drop (runL dgL l + 1)))), runL dgL (l.drop (runL dgL l + 1))⟩, runL dgL l + 1 + runL dgL (l.drop (runL dgL l + 1))))
       else (if runL dgL l > 19 ∨ 9223372036854775807 < decL (l.take (runL dgL l)) then .error 11 else .ok (⟨2, [], decL (l.take (runL dgL l)), 0⟩, runL dgL l)))
    else if c = 39 then (match textL r with
      | none => .error 121
      | some x => if x.1.length > 200 then .error 1 else .ok (⟨4, x.1, 0, 0⟩, x.2 + 1))
    else if signL l = 0 then .error 120 else .ok (⟨5, l.take (signL l), 0, 0⟩, signL l) := rfl
def tokL : List Nat → Except Nat (Tk × Nat)
  | [] => .error 120
  | c :: r => tokC c r (c :: r)
theorem tokL_cons (c : Nat) (r : List Nat) : tokL (c :: r) = tokC c r (c :: r) := rfl
def lexGo : Nat → List Nat → Except Nat (List Tk)
  | 0, _ => .ok []
  | n + 1, l => match l.drop (runL blL l) with
    | [] => .ok []
    | c :: r => match tokL (c :: r) with
      | .error e => .error e
      | .ok (t, k) => match lexGo n ((c :: r).drop k) with
        | .error e => .error e
        | .ok ts => .ok (t :: ts)
/-- the tokens of a text that isn't too long -/
def lexL (l : List Nat) : Except Nat (List Tk) := lexGo (l.length + 1) l

/-! a blank behind -/
theorem blk_cases {e : Nat} (h : blL e = true) : e = 32 ∨ e = 9 ∨ e = 10 ∨ e = 13 := by
  unfold blL at h
  simp only [Bool.or_eq_true, beq_iff_eq] at h
  omega
theorem runL_app {f : Nat → Bool} {e : Nat} (hf : f e = false) (b : List Nat) : ∀ l, runL f (l ++ e :: b) = runL f l
  | [] => by show runL f (e :: b) = 0; rw [runL_cons, hf]; rfl
  | c :: r => by
    show runL f (c :: (r ++ e :: b)) = _
    rw [runL_cons, runL_cons, runL_app hf b r]
theorem drop_app {α : Type} (l b : List α) (k : Nat) (hk : k ≤ l.length) : (l ++ b).drop k = l.drop k ++ b := by
  rw [List.drop_append]
  rw [show k - l.length = 0 by omega]; rfl
theorem take_app {α : Type} (l b : List α) (k : Nat) (hk : k ≤ l.length) : (l ++ b).take k = l.take k := by
  rw [List.take_append]
  rw [show k - l.length = 0 by omega]; simp
theorem textL_app {e : Nat} (he : e ≠ 39) (b : List Nat) : ∀ (l : List Nat) (x : List Nat × Nat), textL l = some x → textL (l ++ e :: b) = some x ∧ x.2 ≤ l.length
  | [], x, h => by simp [textL] at h
  | [c], x, h => by
    unfold textL at h
    by_cases c1 : c = 39
    · rw [if_pos c1] at h
      injection h with h
      subst h c1
      exact ⟨by simp [textL, he], by simp⟩
    · rw [if_neg c1] at h
      simp [textL] at h
  | c :: d :: r, x, h => by
    unfold textL at h
    by_cases c1 : c = 39
    · rw [if_pos c1] at h
      by_cases d1 : d = 39
      · simp only [d1, if_true] at h
        cases hr : textL r with
        | none => rw [hr] at h; simp at h
        | some y =>
          rw [hr] at h
          simp only [Option.map_some, Option.some.injEq] at h
          obtain ⟨h1, h2⟩ := textL_app he b r y hr
          subst h c1 d1
          refine ⟨?_, by simp; omega⟩
          show textL (39 :: 39 :: (r ++ e :: b)) = _
          unfold textL
          simp [h1]
      · simp only [d1, if_false, Option.some.injEq] at h
        subst h c1
        refine ⟨?_, by simp⟩
        show textL (39 :: d :: (r ++ e :: b)) = _
        unfold textL
        simp [d1]
    · rw [if_neg c1] at h
      cases hr : textL (d :: r) with
      | none => rw [hr] at h; simp at h
      | some y =>
        rw [hr] at h
        simp only [Option.map_some, Option.some.injEq] at h
        obtain ⟨h1, h2⟩ := textL_app he b (d :: r) y hr
        subst h
        refine ⟨?_, by simp at h2 ⊢; omega⟩
        have h1' : textL (d :: (r ++ e :: b)) = some y := h1
        show textL (c :: d :: (r ++ e :: b)) = _
        rw [textL.eq_def]
        simp only [c1, if_false]
        rw [h1']
        rfl
theorem signL_app {e : Nat} (he : blL e = true) (b l : List Nat) (h : signL l ≠ 0) : signL (l ++ e :: b) = signL l ∧ signL l ≤ l.length := by
  have he4 := blk_cases he
  match l with
  | [] => exact absurd rfl h
  | [c] =>
    unfold signL at h ⊢
    simp only [List.cons_append, List.nil_append] at h ⊢
    simp only [show ((c == 60 && e == 62) || (c == 60 && e == 61) || (c == 62 && e == 61) || (c == 124 && e == 124)) = false by rcases he4 with rfl | rfl | rfl | rfl <;> simp, Bool.false_eq_true, if_false] at h ⊢
    refine ⟨trivial, ?_⟩
    split <;> simp
  | c :: d :: r =>
    unfold signL
    simp only [List.cons_append]
    refine ⟨trivial, ?_⟩
    split
    · simp
    · split <;> simp

theorem runL_take {f : Nat → Bool} {e : Nat} (l b : List Nat) (hf : f e = false) : (l ++ e :: b).take (runL f l) = l.take (runL f l) ∧ (l ++ e :: b).drop (runL f l) = l.drop (runL f l) ++ e :: b :=
  ⟨take_app _ _ _ (runL_le f l), drop_app _ _ _ (runL_le f l)⟩
theorem cond_app {e : Nat} (he : blL e = true) (b l : List Nat) : (match l ++ e :: b with
    | p :: d :: _ => p == 46 && dgL d
    | _ => false) = (match l with
    | p :: d :: _ => p == 46 && dgL d
    | _ => false) := by
  match l with
  | [] =>
    cases b with
    | nil => rfl
    | cons d q =>
      show (e == 46 && dgL d) = false
      rcases blk_cases he with rfl | rfl | rfl | rfl <;> rfl
  | [p] =>
    show (p == 46 && dgL e) = false
    rw [show dgL e = false by rcases blk_cases he with rfl | rfl | rfl | rfl <;> rfl, Bool.and_false]
  | p :: d :: r => rfl
/-- a token stays, whatever stands behind a blank behind it -/
theorem tokL_app {e : Nat} (he : blL e = true) (b l : List Nat) (t : Tk) (k : Nat) (h : tokL l = .ok (t, k)) : tokL (l ++ e :: b) = .ok (t, k) ∧ k ≤ l.length ∧ 0 < k := by
  match l with
  | [] => simp [tokL] at h
  | c :: r =>
    have i32 : iwL e = false := by rcases blk_cases he with rfl | rfl | rfl | rfl <;> rfl
    have d32 : dgL e = false := by rcases blk_cases he with rfl | rfl | rfl | rfl <;> rfl
    have q32 : e ≠ 39 := by rcases blk_cases he with rfl | rfl | rfl | rfl <;> decide
    have happ : (c :: r) ++ e :: b = c :: (r ++ e :: b) := rfl
    have hrw := runL_app (f := iwL) i32 b (c :: r)
    have hrd := runL_app (f := dgL) d32 b (c :: r)
    obtain ⟨w1, w2⟩ := runL_take (f := iwL) (c :: r) b i32
    obtain ⟨g1, g2⟩ := runL_take (f := dgL) (c :: r) b d32
    have hle := runL_le iwL (c :: r)
    have hld := runL_le dgL (c :: r)
    rw [happ] at hrw hrd w1 w2 g1 g2 ⊢
    rw [tokL_cons] at h ⊢
    unfold tokC at h ⊢
    by_cases c1 : bwL c = true
    · rw [if_pos c1] at h ⊢
      rw [hrw, w1]
      have hp : 0 < runL iwL (c :: r) := by rw [runL_cons, if_pos (by unfold iwL; rw [c1]; rfl)]; omega
      split at h
      · cases h
      · next q =>
        rw [if_neg q]
        injection h with h
        injection h with h1 h2
        subst h1 h2
        exact ⟨rfl, hle, hp⟩
    · rw [if_neg c1] at h ⊢
      by_cases c2 : dgL c = true
      · rw [if_pos c2] at h ⊢
        have hp : 0 < runL dgL (c :: r) := by rw [runL_cons, if_pos c2]; omega
        rw [hrd, g1, g2, cond_app he]
        have hk2 : (match (c :: r).drop (runL dgL (c :: r)) with
            | p :: d :: _ => p == 46 && dgL d
            | _ => false) = true → (c :: (r ++ e :: b)).drop (runL dgL (c :: r) + 1) = (c :: r).drop (runL dgL (c :: r) + 1) ++ e :: b ∧ runL dgL (c :: r) + 1 ≤ (c :: r).length := by
          intro hq
          have hl : runL dgL (c :: r) + 1 ≤ (c :: r).length := by
            cases ee : (c :: r).drop (runL dgL (c :: r)) with
            | nil => rw [ee] at hq; cases hq
            | cons p q =>
              have := congrArg List.length ee
              rw [List.length_drop] at this
              simp only [List.length_cons] at this ⊢
              omega
          exact ⟨drop_app (c :: r) (e :: b) _ hl, hl⟩
        generalize (match (c :: r).drop (runL dgL (c :: r)) with
            | p :: d :: _ => p == 46 && dgL d
            | _ => false) = cnd at h hk2 ⊢
        cases cnd with
        | true =>
          obtain ⟨e1, e2⟩ := hk2 rfl
          rw [if_pos rfl] at h ⊢
          rw [e1]
          have hr2 := runL_app (f := dgL) d32 b ((c :: r).drop (runL dgL (c :: r) + 1))
          have hl2 := runL_le dgL ((c :: r).drop (runL dgL (c :: r) + 1))
          rw [hr2, take_app _ _ _ hl2]
          split at h
          · cases h
          · next q =>
            rw [if_neg q]
            injection h with h
            injection h with h1 h2
            subst h1 h2
            refine ⟨rfl, ?_, by omega⟩
            rw [List.length_drop] at hl2
            omega
        | false =>
          rw [if_neg (by decide)] at h ⊢
          split at h
          · cases h
          · next q =>
            rw [if_neg q]
            injection h with h
            injection h with h1 h2
            subst h1 h2
            exact ⟨rfl, hld, hp⟩
      · rw [if_neg c2] at h ⊢
        by_cases c3 : c = 39
        · rw [if_pos c3] at h ⊢
          cases hx : textL r with
          | none => rw [hx] at h; cases h
          | some x =>
            obtain ⟨t1, t2⟩ := textL_app q32 b r x hx
            rw [hx] at h
            rw [t1]
            simp only at h ⊢
            split at h
            · cases h
            · next q =>
              rw [if_neg q]
              injection h with h
              injection h with h1 h2
              subst h1 h2
              exact ⟨rfl, by simp; omega, by omega⟩
        · rw [if_neg c3] at h ⊢
          by_cases c4 : signL (c :: r) = 0
          · rw [if_pos c4] at h; cases h
          · rw [if_neg c4] at h
            obtain ⟨s1, s2⟩ := signL_app he b (c :: r) c4
            rw [happ] at s1
            rw [s1, if_neg c4, ← happ, take_app _ _ _ s2]
            injection h with h
            injection h with h1 h2
            subst h1 h2
            exact ⟨rfl, s2, by omega⟩

end Go.Proofs.YtlhipnklljjahaaDoor
