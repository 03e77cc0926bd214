/-
  What a tree's shape is, level by level; plain facts.
  Conditions: none.
-/
import Derived.Test.YtncganfjbalkgaaTr22
namespace Go.Proofs.Ytncganfjbalkgaa
open Go.RowKit Go.Joins Go.ChangeShapes Go.WideShapes
set_option linter.unusedVariables false

theorem isum_app : ∀ (l r : List Int), isum (l ++ r) = isum l + isum r
  | [], r => by simp [isum]
  | x :: l, r => by simp only [List.cons_append, isum, isum_app l r]; omega
/-- a row of a shape -/
def lens (xs : List Kd) : List Int := xs.map fun x => (x.ps.length : Int)
theorem lens_length (xs : List Kd) : (lens xs).length = xs.length := by simp [lens]
/-- a level -/
def Lvl (B d : Nat) (W : World) (base : Nat) (xs : List Kd) : Prop := ∀ x ∈ xs, Sub B d W x.F x.g x.k x.ps x.es ∧ ∀ k, x.F k → k < base
theorem kof_kids (ks : List Kd) : kof (ks.map Kd.pv) = ks.map (·.g) := by
  unfold kof
  rw [List.filterMap_map]
  induction ks with
  | nil => rfl
  | cons c r ih => rw [List.filterMap_cons, ih]; rfl
theorem lvl_next {B e : Nat} {W : World} {base : Nat} : ∀ (xs : List Kd), Lvl B (e + 1) W base xs → ∃ ys, Lvl B e W base ys ∧ Sz ys ∧ ys.flatMap Kd.es = xs.flatMap Kd.es ∧ (xs.flatMap fun x => kof x.ps) = ys.map (·.g) ∧ (ys.length : Int) = isum (lens xs)
  | [], _ => ⟨[], (fun _ h => by cases h), (fun _ h => by cases h), rfl, rfl, rfl⟩
  | x :: xs, h => by
    obtain ⟨ys, h1, h2, h3, h4, h5⟩ := lvl_next xs (fun y hy => h y (List.mem_cons_of_mem _ hy))
    obtain ⟨hs, hb⟩ := h x (List.mem_cons_self ..)
    obtain ⟨v, G, ks, nod, hz, hp, he, hl, hF⟩ := hs.nod
    refine ⟨ks ++ ys, ?_, ?_, ?_, ?_, ?_⟩
    · intro y hy
      rcases List.mem_append.1 hy with hy | hy
      · exact ⟨nod.kids.sub y hy, fun k hk => hb k (by rw [hF]; exact .inr (.inr (by rw [nod.kids.foot]; exact ⟨y, hy, hk⟩)))⟩
      · exact h1 y hy
    · intro y hy
      rcases List.mem_append.1 hy with hy | hy
      · exact hz y hy
      · exact h2 y hy
    · rw [List.flatMap_append, h3, List.flatMap_cons, he]
    · rw [List.flatMap_cons, h4, hp, kof_kids, List.map_append]
    · show ((ks ++ ys).length : Int) = (x.ps.length : Int) + isum (lens xs)
      rw [← h5, hp, List.length_map, List.length_append]
      omega
theorem lvl_leaf {B : Nat} {W : World} {base : Nat} : ∀ (xs : List Kd), Lvl B 0 W base xs → (xs.flatMap fun x => kof x.ps) = [] ∧ isum (lens xs) = ((xs.flatMap Kd.es).length : Nat)
  | [], _ => ⟨rfl, rfl⟩
  | x :: xs, h => by
    obtain ⟨h1, h2⟩ := lvl_leaf xs (fun y hy => h y (List.mem_cons_of_mem _ hy))
    obtain ⟨⟨v, G, ss⟩, hb⟩ := h x (List.mem_cons_self ..)
    have hn := ss.con.2.1
    have he := ss.con.2.2.1
    constructor
    · rw [List.flatMap_cons, h1, List.append_nil]
      unfold kof
      rw [List.filterMap_eq_nil_iff]
      exact hn
    · show (x.ps.length : Int) + isum (lens xs) = _
      rw [h2, List.flatMap_cons, List.length_append, he]
      unfold ents
      rw [List.length_map]
      omega
/-- the beginning of a shape of D levels; the next level has nx nodes -/
structure ShPre (D : Nat) (sh : List (List Int)) (nx : Int) : Prop where
  top : ∀ r, sh[0]? = some r → r.length = 1
  el : ∀ (i : Nat) (r : List Int) (x : Int), sh[i]? = some r → x ∈ r → shLow i D ≤ x ∧ x ≤ 8
  mid : ∀ (i : Nat) (r r' : List Int), sh[i]? = some r → sh[i + 1]? = some r' → isum r = (r'.length : Int)
  last : ∀ (i : Nat) (r : List Int), sh[i]? = some r → i + 1 = sh.length → isum r = nx
  big : ∀ r ∈ sh, r.length ≤ 4294967296
theorem ShPre.push {D : Nat} {sh : List (List Int)} {nx : Int} (h : ShPre D sh nx) (row : List Int) (h1 : sh ≠ [] → nx = (row.length : Int)) (h0 : sh = [] → row.length = 1) (hel : ∀ x ∈ row, shLow sh.length D ≤ x ∧ x ≤ 8) (hb : row.length ≤ 4294967296) : ShPre D (sh ++ [row]) (isum row) := by
  have at' : ∀ (i : Nat) (r : List Int), (sh ++ [row])[i]? = some r → (i < sh.length ∧ sh[i]? = some r) ∨ (i = sh.length ∧ r = row) := by
    intro i r hr
    by_cases c : i < sh.length
    · rw [List.getElem?_append_left c] at hr
      exact .inl ⟨c, hr⟩
    · rw [List.getElem?_append_right (by omega)] at hr
      have : i - sh.length = 0 := by have := (List.getElem?_eq_some_iff.1 hr).1; simpa using this
      rw [this] at hr
      simp at hr
      exact .inr ⟨by omega, hr.symm⟩
  refine ⟨fun r hr => ?_, fun i r x hr hx => ?_, fun i r r' hr hr' => ?_, fun i r hr hi => ?_, fun r hr => ?_⟩
  · rcases at' 0 r hr with ⟨_, q⟩ | ⟨q, rfl⟩
    · exact h.top r q
    · exact h0 (List.eq_nil_of_length_eq_zero q.symm)
  · rcases at' i r hr with ⟨_, q⟩ | ⟨rfl, rfl⟩
    · exact h.el i r x q hx
    · exact hel x hx
  · rcases at' i r hr with ⟨c, q⟩ | ⟨rfl, rfl⟩
    · rcases at' (i + 1) r' hr' with ⟨_, q'⟩ | ⟨c', rfl⟩
      · exact h.mid i r r' q q'
      · rw [h.last i r q c', h1 (by intro e; rw [e] at c; simp at c)]
    · rcases at' (sh.length + 1) r' hr' with ⟨c', _⟩ | ⟨c', _⟩ <;> omega
  · rcases at' i r hr with ⟨c, q⟩ | ⟨rfl, rfl⟩
    · simp at hi; omega
    · rfl
  · rcases List.mem_append.1 hr with hr | hr
    · exact h.big r hr
    · simp at hr; rw [hr]; exact hb
/-- how deep a tree can be -/
theorem deep {B : Nat} {W : World} : ∀ (d : Nat) (F : Bl) (g : Nat) (lo : List Nat) (ps : List Pv) (es : List Ent), Sub B d W F g lo ps es → ps.length * 4 ^ d ≤ es.length
  | 0, F, g, lo, ps, es, ⟨v, G, ss⟩ => by rw [ss.con.2.2.1]; unfold ents; simp
  | d + 1, F, g, lo, ps, es, h => by
    obtain ⟨v, G, ks, nod, hz, rfl, rfl, hl, hF⟩ := h.nod
    rw [List.length_map]
    have key : ∀ (ks : List Kd), Sz ks → (∀ c ∈ ks, Sub B d W c.F c.g c.k c.ps c.es) → ks.length * 4 ^ (d + 1) ≤ (ks.flatMap Kd.es).length := by
      intro ks
      induction ks with
      | nil => intro _ _; simp
      | cons c r ih =>
        intro h1 h2
        have q1 := ih (fun x hx => h1 x (List.mem_cons_of_mem _ hx)) (fun x hx => h2 x (List.mem_cons_of_mem _ hx))
        have q2 := deep d c.F c.g c.k c.ps c.es (h2 c (List.mem_cons_self ..))
        have q3 := (h1 c (List.mem_cons_self ..)).1
        have q4 : 4 * 4 ^ d ≤ c.ps.length * 4 ^ d := Nat.mul_le_mul_right _ q3
        rw [List.flatMap_cons, List.length_append, List.length_cons, Nat.add_mul, Nat.pow_succ]
        rw [Nat.pow_succ] at q1
        omega
    exact key ks hz (fun c hc => nod.kids.sub c hc)
theorem deep_le {B d : Nat} {W : World} {F : Bl} {g : Nat} {lo : List Nat} {ps : List Pv} {es : List Ent} (h : Sub B d W F g lo ps es) (h2 : d = 0 ∨ 2 ≤ ps.length) (hn : es.length ≤ 4294967296) : d ≤ 60 := by
  rcases h2 with rfl | h2
  · omega
  · have h1 := deep d F g lo ps es h
    rcases Nat.lt_or_ge 60 d with c | c
    · exfalso
      have h3 : 4 ^ 60 ≤ 4 ^ d := Nat.pow_le_pow_right (by decide) (by omega)
      have h4 : 1 * 4 ^ d ≤ ps.length * 4 ^ d := Nat.mul_le_mul_right _ (by omega)
      have h5 : (4294967296 : Nat) < 4 ^ 60 := by decide
      omega
    · exact c

end Go.Proofs.Ytncganfjbalkgaa
