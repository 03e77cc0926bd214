/-
  Edges, those for which one waits, and the search for a cycle (layer 11), as lists.
  Conditions: none.
-/
import Derived.Test.YtlhipnklljjahaaRows
namespace Go.Proofs.Ytlhipnklljjahaa
set_option linter.unusedVariables false
set_option linter.unnecessarySimpa false
set_option linter.unusedSimpArgs false

abbrev Eg := Int × Int
/-- a number put where it belongs, once -/
def insS (x : Int) : List Int → List Int
  | [] => [x]
  | y :: r => if x < y then x :: y :: r else if x = y then y :: r else y :: insS x r
theorem mem_insS (x z : Int) : ∀ l, z ∈ insS x l ↔ z = x ∨ z ∈ l
  | [] => by simp [insS]
  | y :: r => by
    unfold insS
    by_cases h1 : x < y
    · rw [if_pos h1]; simp
    · rw [if_neg h1]
      by_cases h2 : x = y
      · rw [if_pos h2, h2]; simp
      · rw [if_neg h2, List.mem_cons, mem_insS x z r, List.mem_cons]
        constructor
        · rintro (h | h | h)
          · exact .inr (.inl h)
          · exact .inl h
          · exact .inr (.inr h)
        · rintro (h | h | h)
          · exact .inr (.inl h)
          · exact .inl h
          · exact .inr (.inr h)
theorem insS_sorted (x : Int) : ∀ l, l.Pairwise (· < ·) → (insS x l).Pairwise (· < ·)
  | [], _ => by simp [insS]
  | y :: r, h => by
    unfold insS
    have h1 := List.pairwise_cons.1 h
    by_cases c1 : x < y
    · rw [if_pos c1]
      refine List.pairwise_cons.2 ⟨fun z hz => ?_, h⟩
      rcases List.mem_cons.1 hz with e | e
      · omega
      · have := h1.1 z e; omega
    · rw [if_neg c1]
      by_cases c2 : x = y
      · rw [if_pos c2]; exact h
      · rw [if_neg c2]
        refine List.pairwise_cons.2 ⟨fun z hz => ?_, insS_sorted x r h1.2⟩
        rcases (mem_insS x z r).1 hz with e | e
        · omega
        · exact h1.1 z e
/-- those for which one waits, by rising numbers -/
def Sx (E : List Eg) (x : Int) : List Int := (E.filter (fun e => e.1 == x)).foldr (fun e l => insS e.2 l) []
theorem mem_Sx (x y : Int) : ∀ E : List Eg, y ∈ Sx E x ↔ (x, y) ∈ E
  | [] => by simp [Sx]
  | e :: E => by
    have ih := mem_Sx x y E
    unfold Sx at ih ⊢
    by_cases h : e.1 = x
    · rw [List.filter_cons_of_pos (by simpa using h), List.foldr_cons, mem_insS, ih, List.mem_cons]
      constructor
      · rintro (g | g)
        · exact .inl (by rw [g, ← h])
        · exact .inr g
      · rintro (g | g)
        · exact .inl (by rw [← g])
        · exact .inr g
    · rw [List.filter_cons_of_neg (by simpa using h), ih, List.mem_cons]
      constructor
      · exact .inr
      · rintro (g | g)
        · exact absurd (by rw [← g]) h
        · exact g
theorem Sx_sorted (x : Int) : ∀ E : List Eg, (Sx E x).Pairwise (· < ·)
  | [] => by simp [Sx]
  | e :: E => by
    have ih := Sx_sorted x E
    unfold Sx at ih ⊢
    by_cases h : e.1 = x
    · rw [List.filter_cons_of_pos (by simpa using h), List.foldr_cons]
      exact insS_sorted _ _ ih
    · rw [List.filter_cons_of_neg (by simpa using h)]
      exact ih
/-- two rising lists of the same numbers are one -/
theorem sorted_eq : ∀ (l r : List Int), l.Pairwise (· < ·) → r.Pairwise (· < ·) → (∀ x, x ∈ l ↔ x ∈ r) → l = r
  | [], [], _, _, _ => rfl
  | [], y :: r, _, _, h => absurd ((h y).2 (List.mem_cons_self ..)) (by simp)
  | x :: l, [], _, _, h => absurd ((h x).1 (List.mem_cons_self ..)) (by simp)
  | x :: l, y :: r, hl, hr, h => by
    have h1 := List.pairwise_cons.1 hl
    have h2 := List.pairwise_cons.1 hr
    have e : x = y := by
      rcases List.mem_cons.1 ((h x).1 (List.mem_cons_self ..)) with g | g
      · exact g
      · rcases List.mem_cons.1 ((h y).2 (List.mem_cons_self ..)) with k | k
        · exact k.symm
        · have a := h2.1 x g
          have b := h1.1 y k
          omega
    subst e
    congr 1
    refine sorted_eq l r h1.2 h2.2 fun z => ?_
    constructor
    · intro hz
      rcases List.mem_cons.1 ((h z).1 (List.mem_cons_of_mem _ hz)) with g | g
      · have := h1.1 z hz; omega
      · exact g
    · intro hz
      rcases List.mem_cons.1 ((h z).2 (List.mem_cons_of_mem _ hz)) with g | g
      · have := h2.1 z hz; omega
      · exact g
theorem Sx_same (E F : List Eg) (h : ∀ e, e ∈ E ↔ e ∈ F) : Sx E = Sx F := by
  funext x
  exact sorted_eq _ _ (Sx_sorted x E) (Sx_sorted x F) fun y => by rw [mem_Sx, mem_Sx, h]
theorem Sx_len (x : Int) : ∀ E : List Eg, (Sx E x).length ≤ E.length
  | [] => by simp [Sx]
  | e :: E => by
    have ih := Sx_len x E
    unfold Sx at ih ⊢
    by_cases h : e.1 = x
    · rw [List.filter_cons_of_pos (by simpa using h), List.foldr_cons]
      have : ∀ (a : Int) (l : List Int), (insS a l).length ≤ l.length + 1 := by
        intro a l
        induction l with
        | nil => simp [insS]
        | cons y r ih => unfold insS; split; simp; split; simp; simp; omega
      have := this e.2 ((E.filter (fun e => e.1 == x)).foldr (fun e l => insS e.2 l) [])
      simp
      omega
    · rw [List.filter_cons_of_neg (by simpa using h)]
      simp
      omega

/-- the way of a search: who is on it, the last one first, with what is left to look at -/
abbrev Way := List (Int × List Int)
def nodes (w : Way) : List Int := (w.map (·.1)).reverse
/-- what the search finds -/
inductive Res (S : Int → List Int) (a : Int) : Way → List Int → List Int → Prop
  | none (met) : Res S a [] met []
  | found (x rem rest met) : a ∈ S x → Res S a ((x, rem) :: rest) met (nodes ((x, rem) :: rest))
  | pop (x rest met out) : a ∉ S x → Res S a rest met out → Res S a ((x, []) :: rest) met out
  | skip (x y r rest met out) : a ∉ S x → y ∈ met → Res S a ((x, r) :: rest) met out → Res S a ((x, y :: r) :: rest) met out
  | enter (x y r rest met out) : a ∉ S x → y ∉ met → Res S a ((y, S y) :: (x, r) :: rest) (y :: met) out → Res S a ((x, y :: r) :: rest) met out
theorem Res.one {S : Int → List Int} {a : Int} {w : Way} {m o : List Int} (h : Res S a w m o) : ∀ o', Res S a w m o' → o = o' := by
  induction h with
  | none => intro o' h; cases h; rfl
  | found x rem rest met h0 =>
    intro o' h
    cases h with
    | found => rfl
    | pop _ _ _ _ h1 => exact absurd h0 h1
    | skip _ _ _ _ _ _ h1 => exact absurd h0 h1
    | enter _ _ _ _ _ _ h1 => exact absurd h0 h1
  | pop x rest met out h0 _ ih =>
    intro o' h
    cases h with
    | found _ _ _ _ h1 => exact absurd h1 h0
    | pop _ _ _ _ h1 h2 => exact ih _ h2
  | skip x y r rest met out h0 hy _ ih =>
    intro o' h
    cases h with
    | found _ _ _ _ h1 => exact absurd h1 h0
    | skip _ _ _ _ _ _ h1 h2 h3 => exact ih _ h3
    | enter _ _ _ _ _ _ h1 h2 h3 => exact absurd hy h2
  | enter x y r rest met out h0 hy _ ih =>
    intro o' h
    cases h with
    | found _ _ _ _ h1 => exact absurd h1 h0
    | skip _ _ _ _ _ _ h1 h2 h3 => exact absurd h2 hy
    | enter _ _ _ _ _ _ h1 h2 h3 => exact ih _ h3
/-- one can come from one to another along the edges, by one at least -/
inductive Rch (S : Int → List Int) : Int → Int → Prop
  | one (x y) : y ∈ S x → Rch S x y
  | step (x y z) : y ∈ S x → Rch S y z → Rch S x z
theorem Rch.snoc {S : Int → List Int} {x y z : Int} (h : Rch S x y) (hz : z ∈ S y) : Rch S x z := by
  induction h with
  | one x y h0 => exact .step x y z h0 (.one y z hz)
  | step x y u h0 _ ih => exact .step x y z h0 (ih hz)
theorem Rch.trans {S : Int → List Int} {x y z : Int} (h : Rch S x y) (hz : Rch S y z) : Rch S x z := by
  induction h with
  | one x y h0 => exact .step x y z h0 hz
  | step x y u h0 _ ih => exact .step x y z h0 (ih hz)
/-- each of a way waits for the next; the last one first -/
def Chn (S : Int → List Int) : List Int → Prop
  | [] => True
  | [_] => True
  | y :: x :: r => y ∈ S x ∧ Chn S (x :: r)
structure SInv (S : Int → List Int) (a : Int) (w : Way) (met : List Int) : Prop where
  nd : (w.map (·.1)).Nodup
  inm : ∀ p ∈ w, p.1 ∈ met
  ch : Chn S (w.map (·.1))
  bot : w = [] ∨ ∃ r, (w.map (·.1)).reverse = a :: r
  am : a ∈ met
  fin : ∀ u ∈ met, (∀ p ∈ w, p.1 ≠ u) → a ∉ S u ∧ ∀ y ∈ S u, y ∈ met
  use : ∀ p ∈ w, ∀ y ∈ S p.1, y ∈ p.2 ∨ y ∈ met
  sub : ∀ p ∈ w, ∀ y ∈ p.2, y ∈ S p.1
/-- what a search finds is a cycle, and if it finds none there is none -/
def Real (S : Int → List Int) (a : Int) (out : List Int) : Prop :=
  (out = [] ∧ ¬ Rch S a a) ∨ (∃ r x l, out = a :: r ∧ out.reverse = x :: l ∧ a ∈ S x ∧ out.Nodup ∧ Chn S out.reverse)
theorem nodup_reverse' {l : List Int} (h : l.Nodup) : l.reverse.Nodup := by
  unfold List.Nodup at h ⊢
  rw [List.pairwise_reverse]
  exact h.imp fun h e => h e.symm
theorem Res.real {S : Int → List Int} {a : Int} {w : Way} {m o : List Int} (h : Res S a w m o) : SInv S a w m → Real S a o := by
  induction h with
  | none met =>
    intro hi
    refine .inl ⟨rfl, fun hr => ?_⟩
    have key : ∀ x y, Rch S x y → x ∈ met → y = a → False := by
      intro x y hr
      induction hr with
      | one x y h0 =>
        intro hx hy
        subst hy
        exact (hi.fin x hx (fun p hp => by simp at hp)).1 h0
      | step x y z h0 _ ih =>
        intro hx hy
        exact ih ((hi.fin x hx (fun p hp => by simp at hp)).2 y h0) hy
    exact key a a hr hi.am rfl
  | found x rem rest met h0 =>
    intro hi
    rcases hi.bot with e | ⟨r, e⟩
    · simp at e
    · refine .inr ⟨r, x, rest.map (·.1), e, ?_, h0, ?_, ?_⟩
      · unfold nodes; rw [List.reverse_reverse]; rfl
      · exact nodup_reverse' hi.nd
      · unfold nodes; rw [List.reverse_reverse]; exact hi.ch
  | pop x rest met out h0 _ ih =>
    intro hi
    refine ih ⟨?_, fun p hp => hi.inm p (List.mem_cons_of_mem _ hp), ?_, ?_, hi.am, ?_, fun p hp => hi.use p (List.mem_cons_of_mem _ hp), fun p hp => hi.sub p (List.mem_cons_of_mem _ hp)⟩
    · exact (List.nodup_cons.1 hi.nd).2
    · have := hi.ch
      cases rest with
      | nil => trivial
      | cons p r => exact this.2
    · rcases hi.bot with e | ⟨r, e⟩
      · simp at e
      · cases rest with
        | nil => exact .inl rfl
        | cons p r' =>
          right
          have e2 : ((p :: r').map (·.1)).reverse ++ [x] = a :: r := by simpa using e
          cases hq : ((p :: r').map (·.1)).reverse with
          | nil => simp at hq
          | cons q s =>
            rw [hq] at e2
            injection e2 with e3 e4
            exact ⟨s, by rw [e3]⟩
    · intro u hu hne
      by_cases c : u = x
      · subst c
        refine ⟨h0, fun y hy => ?_⟩
        rcases hi.use (u, []) (List.mem_cons_self ..) y hy with g | g
        · simp at g
        · exact g
      · refine hi.fin u hu fun p hp => ?_
        rcases List.mem_cons.1 hp with g | g
        · rw [g]; exact fun e => c e.symm
        · exact hne p g
  | skip x y r rest met out h0 hy _ ih =>
    intro hi
    refine ih ⟨hi.nd, fun p hp => ?_, hi.ch, ?_, hi.am, fun u hu hne => hi.fin u hu fun p hp => ?_, fun p hp z hz => ?_, fun p hp z hz => ?_⟩
    · rcases List.mem_cons.1 hp with g | g
      · rw [g]; exact hi.inm (x, y :: r) (List.mem_cons_self ..)
      · exact hi.inm p (List.mem_cons_of_mem _ g)
    · rcases hi.bot with e | e
      · simp at e
      · exact .inr e
    · rcases List.mem_cons.1 hp with g | g
      · rw [g]; exact hne (x, r) (List.mem_cons_self ..)
      · exact hne p (List.mem_cons_of_mem _ g)
    · rcases List.mem_cons.1 hp with g | g
      · subst g
        rcases hi.use (x, y :: r) (List.mem_cons_self ..) z hz with k | k
        · rcases List.mem_cons.1 k with q | q
          · exact .inr (q ▸ hy)
          · exact .inl q
        · exact .inr k
      · exact hi.use p (List.mem_cons_of_mem _ g) z hz
    · rcases List.mem_cons.1 hp with g | g
      · subst g; exact hi.sub (x, y :: r) (List.mem_cons_self ..) z (List.mem_cons_of_mem _ hz)
      · exact hi.sub p (List.mem_cons_of_mem _ g) z hz
  | enter x y r rest met out h0 hy _ ih =>
    intro hi
    have hyS : y ∈ S x := hi.sub (x, y :: r) (List.mem_cons_self ..) y (List.mem_cons_self ..)
    refine ih ⟨?_, fun p hp => ?_, ?_, ?_, List.mem_cons_of_mem _ hi.am, fun u hu hne => ?_, fun p hp z hz => ?_, fun p hp z hz => ?_⟩
    · refine List.nodup_cons.2 ⟨fun hc => ?_, hi.nd⟩
      obtain ⟨p, hp, e⟩ := List.mem_map.1 hc
      have hp' : p = (x, r) ∨ p ∈ rest := List.mem_cons.1 hp
      rcases hp' with g | g
      · rw [g] at e
        have e : x = y := e
        exact hy (e ▸ hi.inm (x, y :: r) (List.mem_cons_self ..))
      · have e : p.1 = y := e
        exact hy (e ▸ hi.inm p (List.mem_cons_of_mem _ g))
    · rcases List.mem_cons.1 hp with g | g
      · rw [g]; exact List.mem_cons_self ..
      · rcases List.mem_cons.1 g with g | g
        · rw [g]; exact List.mem_cons_of_mem _ (hi.inm (x, y :: r) (List.mem_cons_self ..))
        · exact List.mem_cons_of_mem _ (hi.inm p (List.mem_cons_of_mem _ g))
    · exact ⟨hyS, hi.ch⟩
    · rcases hi.bot with e | ⟨q, e⟩
      · simp at e
      · refine .inr ⟨q ++ [y], ?_⟩
        show (y :: ((x, y :: r) :: rest).map (·.1)).reverse = _
        rw [List.reverse_cons, e]
        rfl
    · rcases List.mem_cons.1 hu with g | g
      · exact absurd g.symm (hne (y, S y) (List.mem_cons_self ..))
      · obtain ⟨h1, h2⟩ := hi.fin u g fun p hp => by
          rcases List.mem_cons.1 hp with k | k
          · rw [k]; exact hne (x, r) (List.mem_cons_of_mem _ (List.mem_cons_self ..))
          · exact hne p (List.mem_cons_of_mem _ (List.mem_cons_of_mem _ k))
        exact ⟨h1, fun z hz => List.mem_cons_of_mem _ (h2 z hz)⟩
    · rcases List.mem_cons.1 hp with g | g
      · subst g; exact .inl hz
      · rcases List.mem_cons.1 g with g | g
        · subst g
          rcases hi.use (x, y :: r) (List.mem_cons_self ..) z hz with k | k
          · rcases List.mem_cons.1 k with q | q
            · exact .inr (q ▸ List.mem_cons_self ..)
            · exact .inl q
          · exact .inr (List.mem_cons_of_mem _ k)
        · rcases hi.use p (List.mem_cons_of_mem _ g) z hz with k | k
          · exact .inl k
          · exact .inr (List.mem_cons_of_mem _ k)
    · rcases List.mem_cons.1 hp with g | g
      · subst g; exact hz
      · rcases List.mem_cons.1 g with g | g
        · subst g; exact hi.sub (x, y :: r) (List.mem_cons_self ..) z (List.mem_cons_of_mem _ hz)
        · exact hi.sub p (List.mem_cons_of_mem _ g) z hz
/-- at the start -/
theorem SInv.start (S : Int → List Int) (a : Int) : SInv S a [(a, S a)] [a] :=
  ⟨by simp, fun p hp => by simp at hp; simp [hp], trivial, .inr ⟨[], rfl⟩, by simp, fun u hu hne => absurd (by simp at hu; rw [hu]) (hne (a, S a) (by simp)), fun p hp y hy => by simp at hp; subst hp; exact .inl hy, fun p hp y hy => by simp at hp; subst hp; exact hy⟩

end Go.Proofs.Ytlhipnklljjahaa
