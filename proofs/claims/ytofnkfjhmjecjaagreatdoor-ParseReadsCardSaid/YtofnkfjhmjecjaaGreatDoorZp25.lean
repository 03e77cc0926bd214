/-
  Texts of mine put together, in build order.
  Conditions: as each declaration says.
-/
import Derived.Test.YtofnkfjhmjecjaaGreatDoorZp6
import Derived.Test.YtofnkfjhmjecjaaGreatDoorZp22
import Derived.Test.YtofnkfjhmjecjaaGreatDoorZp24
namespace Go.Proofs.YtofnkfjhmjecjaaGreatDoor
set_option maxRecDepth 100000
set_option linter.unusedVariables false
set_option linter.unusedSimpArgs false
abbrev LtB (b : Nat) : Prop := (97 ≤ b ∧ b ≤ 122) ∨ b = 95
def Wd1 (w : List Nat) : Prop := ∃ b r, w = b :: r ∧ LtB b
def Sg1 (w : List Nat) : Prop := ∃ b r, w = b :: r ∧ ¬ LtB b
structure TG (t : Tk) : Prop where
 k : 1 ≤ t.kind ∧ t.kind ≤ 5
 k1 : t.kind = 1 → Wd1 t.text
 k2 : t.kind = 2 → t.scale = 0 ∧ t.text = []
 k3 : t.kind = 3 → t.text = []
 k4 : t.kind = 4 → t.num = 0 ∧ t.scale = 0
 k5 : t.kind = 5 → Sg1 t.text
 nm : t.kind = 1 → isN t.text = !resB (strB t.text)
structure SR (ts : List Tk) (s : PS) (d : DS) : Prop where
 rest : s.rest = ts.drop d.i
 opn : s.opn = d.opn
 e : d.e = 0
 deep : s.deep = d.most
 le : s.opn ≤ 40
def KW (k : Nat) (w : List Nat) : Prop := (k = 1 ∧ Wd1 w) ∨ (k = 5 ∧ Sg1 w)
theorem SR.cut {ts : List Tk} {s : PS} {d : DS} (h : SR ts s d) : (ts[d.i]? = none ∧ s.rest = []) ∨ ∃ t, ts[d.i]? = some t ∧ s.rest = t :: ts.drop (d.i + 1) := by
 rw [h.rest]
 cases e : ts[d.i]? with
 | none => exact .inl ⟨rfl, List.drop_eq_nil_of_le (List.getElem?_eq_none_iff.1 e)⟩
 | some t =>
  obtain ⟨hlt, he⟩ := List.getElem?_eq_some_iff.1 e
  exact .inr ⟨t, rfl, by rw [← he]; exact List.drop_eq_getElem_cons hlt⟩
theorem at_is {ts : List Tk} (hT : ∀ t ∈ ts, TG t) {s : PS} {d : DS} (h : SR ts s d) {k : Nat} {w : List Nat} (hk : KW k w) : dIs ts k w d = atP w s := by
 unfold dIs atP
 rcases h.cut with ⟨e, e2⟩ | ⟨t, e, e2⟩
 ·rw [e, e2]; simp
 ·rw [e, e2, h.e]
  have g := hT t (List.mem_of_getElem? e)
  dsimp only
  by_cases c : t.text = w
  ·have h1 : (t.text == w) = true := by simpa using c
   rw [h1]
   by_cases c4 : t.kind = 4
   ·rw [c4]; rcases hk with ⟨rfl, -⟩ | ⟨rfl, -⟩ <;> rfl
   have hkk : t.kind = k := by
    have hr := g.k
    have hc : t.kind = 1 ∨ t.kind = 2 ∨ t.kind = 3 ∨ t.kind = 5 := by omega
    rcases hc with hc | hc | hc | hc
    ·obtain ⟨b, r, hw, hl⟩ := g.k1 hc
     rcases hk with ⟨rfl, -⟩ | ⟨rfl, b', r', hw', hl'⟩
     ·exact hc
     ·rw [← c, hw] at hw'; injection hw' with h1 h2; subst h1; exact absurd hl hl'
    ·have hw := (g.k2 hc).2
     rcases hk with ⟨rfl, b', r', hw', hl'⟩ | ⟨rfl, b', r', hw', hl'⟩ <;> (rw [← c, hw] at hw'; cases hw')
    ·have hw := g.k3 hc
     rcases hk with ⟨rfl, b', r', hw', hl'⟩ | ⟨rfl, b', r', hw', hl'⟩ <;> (rw [← c, hw] at hw'; cases hw')
    ·obtain ⟨b, r, hw, hl⟩ := g.k5 hc
     rcases hk with ⟨rfl, b', r', hw', hl'⟩ | ⟨rfl, -⟩
     ·rw [← c, hw] at hw'; injection hw' with h1 h2; subst h1; exact absurd hl' hl
     ·exact hc
   rw [hkk]
   have : (k == 4) = false := by rcases hk with ⟨rfl, -⟩ | ⟨rfl, -⟩ <;> rfl
   rw [this]
   simp
  ·have h1 : (t.text == w) = false := by simpa using c
   rw [h1]
   simp
theorem SR.next {ts : List Tk} {s : PS} {d : DS} (h : SR ts s d) : SR ts s.next d.next :=
 ⟨by show s.rest.tail = ts.drop (d.i + 1); rw [h.rest, List.tail_drop], h.opn, h.e, h.deep, h.le⟩
theorem SR.tail {ts : List Tk} {s : PS} {d : DS} (h : SR ts s d) {t : Tk} {r : List Tk} (hr : s.rest = t :: r) : SR ts { s with rest := r } d.next := by
 have := h.next
 unfold PS.next at this
 rw [hr] at this
 exact this
-- nothing is done once an error has been found
theorem dIs_idle {ts : List Tk} {k : Nat} {w : List Nat} {d : DS} (h : d.e ≠ 0) : dIs ts k w d = false := by
 unfold dIs
 have : (d.e == 0) = false := by simpa using h
 rw [this]; rfl
theorem dFail_idle {c : Nat} {d : DS} (h : d.e ≠ 0) : dFail c d = d := by unfold dFail; rw [if_neg h]
theorem dMust_idle {ts : List Tk} {k : Nat} {w : List Nat} {d : DS} (h : d.e ≠ 0) : dMust ts k w d = d := by
 unfold dMust; rw [if_neg (by rw [dIs_idle h]; decide), dFail_idle h]
theorem dWhich_idle {ts : List Tk} {d : DS} (h : d.e ≠ 0) : ∀ l, dWhich ts l d = (0, d)
 | [] => rfl
 | (k, w, op) :: r => by unfold dWhich; rw [if_neg (by rw [dIs_idle h]; decide)]; exact dWhich_idle h r
theorem dX_idle {ts : List Tk} {d : DS} (h : d.e ≠ 0) (m lvl : Nat) : dX ts (m + 1) lvl d = some (zE, d) := by rw [dX, if_pos h]
theorem dC_idle {ts : List Tk} {d : DS} (h : d.e ≠ 0) (m lvl : Nat) (e : Ex) : dC ts (m + 1) lvl e d = some (e, d) := by
 rw [dC]
 have : dLevel ts lvl d = (0, d) := dWhich_idle h _
 rw [this]
 rfl
theorem dMust_yes {ts : List Tk} {k : Nat} {w : List Nat} {d : DS} (h : dIs ts k w d = true) : dMust ts k w d = d.next := by unfold dMust; rw [if_pos h]
theorem dMust_no {ts : List Tk} {k : Nat} {w : List Nat} {d : DS} (h : dIs ts k w d = false) (he : d.e = 0) : (dMust ts k w d).e = 130 := by
 unfold dMust dFail; rw [if_neg (by rw [h]; decide), if_pos he]
def Agree (ts : List Tk) {α : Type} (r : Except Nat (α × PS)) (q : α × DS) : Prop := match r with
 | .ok (a, s) => q.1 = a ∧ SR ts s q.2
 | .error c => q.2.e = c ∧ c ≠ 0
def Ev (ts : List Tk) {α : Type} (f : Nat → Option (α × DS)) (r : Except Nat (α × PS)) : Prop := ∃ N q, Agree ts r q ∧ ∀ m, N ≤ m → f m = some q
theorem bindR_cases {α β : Type} {x : RX α} {f : α → PS → RX β} {r : Except Nat (β × PS)} (h : bindR x f = some r) : (∃ c, x = some (.error c) ∧ r = .error c) ∨ ∃ a s, x = some (.ok (a, s)) ∧ f a s = some r := by
 unfold bindR at h
 match x, h with
 | some (.error c), h => injection h with h; exact .inl ⟨c, rfl, h.symm⟩
 | some (.ok (a, s)), h => exact .inr ⟨a, s, rfl, h⟩
theorem dWhich_which {ts : List Tk} {s : PS} {d : DS} : ∀ (l : List (Nat × List Nat × Nat)), (∀ x ∈ l, dIs ts x.1 x.2.1 d = atP x.2.1 s) →
  dWhich ts l d = match whichP (l.map fun x => (x.2.1, x.2.2)) s with
   | none => (0, d)
   | some op => (op, d.next)
 | [], _ => rfl
 | (k, w, op) :: r, h => by
  have h0 := h (k, w, op) (List.mem_cons_self ..)
  have h0 : dIs ts k w d = atP w s := h0
  rw [List.map_cons]
  unfold dWhich whichP
  dsimp only
  rw [h0]
  by_cases c : atP w s = true
  ·rw [if_pos c, if_pos c]
  ·rw [if_neg c, if_neg c]
   exact dWhich_which r fun x hx => h x (List.mem_cons_of_mem _ hx)
theorem kw_lvl : ∀ lvl, ∀ x ∈ lvlD lvl, KW x.1 x.2.1
 | 0 | 1 => by
  intro x hx
  simp only [lvlD, List.mem_cons, List.not_mem_nil, or_false] at hx
  rw [hx]
  exact .inl ⟨rfl, _, _, rfl, by decide⟩
 | 4 | 5 => by
  intro x hx
  simp only [lvlD, List.mem_cons, List.not_mem_nil, or_false] at hx
  rcases hx with hx | hx | hx <;> (rw [hx]; exact .inr ⟨rfl, _, _, rfl, by decide⟩)
 | 2 | 3 => by intro x hx; simp [lvlD] at hx
 | n + 6 => by intro x hx; simp [lvlD] at hx
theorem kw_cmp : ∀ x ∈ cmpD, KW x.1 x.2.1 := by
 intro x hx
 simp only [cmpD, List.mem_cons, List.not_mem_nil, or_false] at hx
 rcases hx with hx | hx | hx | hx | hx | hx <;> (rw [hx]; exact .inr ⟨rfl, _, _, rfl, by decide⟩)
theorem wrap_up (op : Nat) : ∀ (c : Nat) (e : Ex), wrapN op (c + 1) e = mk1 op (wrapN op c e)
 | 0, e => rfl
 | c + 1, e => wrap_up op c (mk1 op e)
theorem dCount_all {ts : List Tk} (k : Nat) (w : List Nat) : ∀ (m m' : Nat) (d : DS), ts.length ≤ m + d.i → ts.length ≤ m' + d.i → dCount ts k w m d = dCount ts k w m' d
 | 0, 0, d, _, _ => rfl
 | 0, m' + 1, d, h, _ => by
  have c : ¬ dIs ts k w d = true := fun c => by have := dIs_lt c; omega
  show (0, d) = dCount ts k w (m' + 1) d
  unfold dCount; rw [if_neg c]
 | m + 1, 0, d, _, h => by
  have c : ¬ dIs ts k w d = true := fun c => by have := dIs_lt c; omega
  show dCount ts k w (m + 1) d = (0, d)
  unfold dCount; rw [if_neg c]
 | m + 1, m' + 1, d, h, h' => by
  unfold dCount
  by_cases c : dIs ts k w d = true
  ·rw [if_pos c, if_pos c, dCount_all k w m m' d.next (by show _ ≤ m + (d.i + 1); omega) (by show _ ≤ m' + (d.i + 1); omega)]
  ·rw [if_neg c, if_neg c]
end Go.Proofs.YtofnkfjhmjecjaaGreatDoor

namespace Go.Proofs.YtofnkfjhmjecjaaGreatDoor
set_option maxRecDepth 100000
set_option linter.unusedVariables false
set_option linter.unusedSimpArgs false
theorem Ev.up {ts : List Tk} {α : Type} {f g : Nat → Option (α × DS)} {r : Except Nat (α × PS)} (h : Ev ts f r) (hfg : ∀ m q, f m = some q → g (m + 1) = some q) : Ev ts g r := by
 obtain ⟨N, q, h1, hN⟩ := h
 refine ⟨N + 1, q, h1, fun m hm => ?_⟩
 have := hfg _ _ (hN (m - 1) (by omega))
 rwa [show m - 1 + 1 = m by omega] at this
theorem Ev.of {ts : List Tk} {α : Type} {f : Nat → Option (α × DS)} {r : Except Nat (α × PS)} (q : α × DS) (N : Nat) (h : ∀ m, N ≤ m → f m = some q) (ha : Agree ts r q) : Ev ts f r := ⟨N, q, ha, h⟩
theorem Ev.bind {ts : List Tk} {x : RX Ex} {f : Ex → PS → RX Ex} {r : Except Nat (Ex × PS)} {X : Nat → Option (Ex × DS)} {F : Nat → Ex → DS → Option (Ex × DS)} (h : bindR x f = some r)
  (hx : ∀ r1, x = some r1 → Ev ts X r1) (hf : ∀ a s d, f a s = some r → SR ts s d → Ev ts (fun m => F m a d) r) (he : ∀ a d, d.e ≠ 0 → ∃ q, q.2.e = d.e ∧ ∃ K, ∀ m, K ≤ m → F m a d = some q) :
  Ev ts (fun m => bindD (X m) (F m)) r := by
 rcases bindR_cases h with ⟨c, h1, rfl⟩ | ⟨a, s, h1, h2⟩
 ·obtain ⟨N, q, ⟨h3, h4⟩, hN⟩ := hx _ h1
  obtain ⟨q2, h6, K, hK⟩ := he q.1 q.2 (by rw [h3]; exact h4)
  refine ⟨max N K, q2, ⟨by rw [h6, h3], h4⟩, fun m hm => ?_⟩
  show bindD (X m) (F m) = some q2
  rw [hN m (by omega)]
  exact hK m (by omega)
 ·obtain ⟨N, q, ⟨h3, h4⟩, hN⟩ := hx _ h1
  obtain ⟨N2, q2, h5, hN2⟩ := hf a s q.2 h2 h4
  refine ⟨max N N2, q2, h5, fun m hm => ?_⟩
  show bindD (X m) (F m) = some q2
  rw [hN m (by omega)]
  show F m q.1 q.2 = some q2
  rw [h3]
  exact hN2 m (by omega)
theorem px_chain (isName : List Nat → Bool) (n : Nat) (s : PS) {lvl : Nat} (h : lvl = 0 ∨ lvl = 1 ∨ lvl = 4 ∨ lvl = 5) : px isName (n + 1) lvl s = bindR (px isName n (lvl + 1) s) fun e s1 => pc isName n lvl e s1 := by
 rcases h with rfl | rfl | rfl | rfl <;> (rw [px] <;> decide)
theorem ops_lvl {lvl : Nat} (h : lvl = 0 ∨ lvl = 1 ∨ lvl = 4 ∨ lvl = 5) : (lvlD lvl).map (fun x => (x.2.1, x.2.2)) = opsP lvl := by
 rcases h with rfl | rfl | rfl | rfl <;> rfl
theorem ops_cmp : cmpD.map (fun x => (x.2.1, x.2.2)) = opsP 3 := rfl
theorem opsP_ne : ∀ {l : List (List Nat × Nat)} {s : PS} {op : Nat}, (∀ x ∈ l, x.2 ≠ 0) → whichP l s = some op → op ≠ 0
 | [], _, _, _, h => by cases h
 | (w, o) :: r, s, op, h0, h => by
  unfold whichP at h
  by_cases c : atP w s = true
  ·rw [if_pos c] at h; injection h with h; rw [← h]; exact h0 _ (List.mem_cons_self ..)
  ·rw [if_neg c] at h; exact opsP_ne (fun x hx => h0 x (List.mem_cons_of_mem _ hx)) h
theorem ops_pos : ∀ {lvl : Nat}, lvl ≤ 5 → ∀ x ∈ opsP lvl, x.2 ≠ 0 := by
 intro lvl hl
 have : lvl = 0 ∨ lvl = 1 ∨ lvl = 2 ∨ lvl = 3 ∨ lvl = 4 ∨ lvl = 5 := by omega
 rcases this with rfl | rfl | rfl | rfl | rfl | rfl <;> decide
section
variable {ts : List Tk} (hT : ∀ t ∈ ts, TG t)
def BX (ts : List Tk) (n lvl : Nat) : Prop := ∀ s d r, SR ts s d → px isN n lvl s = some r → Ev ts (fun m => dX ts m lvl d) r
def BP (ts : List Tk) (n : Nat) : Prop := ∀ s d r, dIs ts 5 [40] d = true → SR ts s d.next → px isN n 8 s = some r → Ev ts (fun m => dP ts m d) r
def BC (ts : List Tk) (n lvl : Nat) : Prop := ∀ e s d r, SR ts s d → pc isN n lvl e s = some r → Ev ts (fun m => dC ts m lvl e d) r
include hT in
theorem bc_step {n lvl : Nat} (hl : lvl = 0 ∨ lvl = 1 ∨ lvl = 4 ∨ lvl = 5) (hX : BX ts n (lvl + 1)) (hC : BC ts n lvl) : BC ts (n + 1) lvl := by
 intro e s d r h hr
 rw [pc_eq] at hr
 have hw := dWhich_which (ts := ts) (s := s) (d := d) (lvlD lvl) (fun x hx => at_is hT h (kw_lvl lvl x hx))
 rw [ops_lvl hl] at hw
 have hw : dLevel ts lvl d = _ := hw
 have hS : ∀ m, dC ts (m + 1) lvl e d = if (dLevel ts lvl d).1 = 0 then some (e, (dLevel ts lvl d).2) else bindD (dX ts m (lvl + 1) (dLevel ts lvl d).2) fun f s1 => dC ts m lvl (mk2 (dLevel ts lvl d).1 e f) s1 := fun m => by rw [dC]
 refine Ev.up (f := fun m => if (dLevel ts lvl d).1 = 0 then some (e, (dLevel ts lvl d).2) else bindD (dX ts m (lvl + 1) (dLevel ts lvl d).2) fun f s1 => dC ts m lvl (mk2 (dLevel ts lvl d).1 e f) s1) ?_ (fun m q hq => by rw [hS]; exact hq)
 cases hp : whichP (opsP lvl) s with
 | none =>
  rw [hp] at hr hw
  rw [hw]
  injection hr with hr
  subst hr
  exact Ev.of (e, d) 0 (fun m _ => rfl) ⟨rfl, h⟩
 | some op =>
  rw [hp] at hr hw
  rw [hw]
  have hop : op ≠ 0 := opsP_ne (ops_pos (by omega)) hp
  dsimp only at hr ⊢
  simp only [if_neg hop]
  exact Ev.bind hr (fun r1 h1 => hX _ _ _ (h.next) h1) (fun a s1 d1 h1 g => hC _ _ _ _ g h1) (fun a d1 g => ⟨(mk2 op e a, d1), rfl, 1, fun m hm => by rw [show m = m - 1 + 1 by omega]; exact dC_idle g _ _ _⟩)
theorem bx_chain {n lvl : Nat} (hl : lvl = 0 ∨ lvl = 1 ∨ lvl = 4 ∨ lvl = 5) (hX : BX ts n (lvl + 1)) (hC : BC ts n lvl) : BX ts (n + 1) lvl := by
 intro s d r h hr
 rw [px_chain isN n s hl] at hr
 refine Ev.up (f := fun m => bindD (dX ts m (lvl + 1) d) fun e s1 => dC ts m lvl e s1) ?_ (fun m q hq => by
  rw [dX, if_neg (fun g => g h.e), if_neg (by omega), if_neg (by omega), if_neg (by omega)]; exact hq)
 exact Ev.bind hr (fun r1 h1 => hX _ _ _ h h1) (fun a s1 d1 h1 g => hC _ _ _ _ g h1) (fun a d1 g => ⟨(a, d1), rfl, 1, fun m hm => by rw [show m = m - 1 + 1 by omega]; exact dC_idle g _ _ _⟩)
theorem un_step {ts : List Tk} {lvl : Nat} (hl : lvl = 2 ∨ lvl = 6) {d : DS} (he : d.e = 0) (hc : dIs ts (if lvl = 2 then 1 else 5) (if lvl = 2 then wNot else [45]) d = true) (m : Nat) (q : Ex × DS) (hq : dX ts (m + 1) lvl d.next = some q) :
  dX ts (m + 1) lvl d = some (mk1 (if lvl = 6 then 13 else 16) q.1, q.2) := by
 have he' : ¬ d.next.e ≠ 0 := fun g => g he
 rw [dX, if_neg he', if_pos hl] at hq
 rw [dX, if_neg (fun g => g he), if_pos hl]
 generalize (if lvl = 2 then 1 else 5) = k at *
 generalize (if lvl = 2 then wNot else [45]) = w at *
 generalize (if lvl = 6 then 13 else 16) = op at *
 have hD : dCount ts k w (ts.length + 1) d = ((dCount ts k w (ts.length + 1) d.next).1 + 1, (dCount ts k w (ts.length + 1) d.next).2) := by
  rw [dCount_all k w (ts.length + 1) ts.length d.next (by omega) (by omega)]
  show (if dIs ts k w d = true then _ else _) = _
  rw [if_pos hc]
 rw [hD]
 obtain ⟨e, s1, h1, h2⟩ := bindD_some hq
 have h2 : some (wrapN op (dCount ts k w (ts.length + 1) d.next).1 e, s1) = some q := h2
 injection h2 with h2
 rw [← h2]
 show bindD (dX ts m (lvl + 1) (dCount ts k w (ts.length + 1) d.next).2) _ = _
 rw [h1]
 show some (wrapN op ((dCount ts k w (ts.length + 1) d.next).1 + 1) e, s1) = _
 rw [wrap_up]
theorem un_base {ts : List Tk} {lvl : Nat} (hl : lvl = 2 ∨ lvl = 6) {d : DS} (he : d.e = 0) (hc : dIs ts (if lvl = 2 then 1 else 5) (if lvl = 2 then wNot else [45]) d = false) (m : Nat) (q : Ex × DS) (hq : dX ts m (lvl + 1) d = some q) :
  dX ts (m + 1) lvl d = some q := by
 rw [dX, if_neg (fun g => g he), if_pos hl]
 generalize (if lvl = 2 then 1 else 5) = k at *
 generalize (if lvl = 2 then wNot else [45]) = w at *
 have hD : dCount ts k w (ts.length + 1) d = (0, d) := by
  show (if dIs ts k w d = true then _ else _) = _
  rw [if_neg (by rw [hc]; decide)]
 rw [hD]
 show bindD (dX ts m (lvl + 1) d) _ = _
 rw [hq]
 rfl
theorem bx_un {ts : List Tk} (hT : ∀ t ∈ ts, TG t) {n lvl : Nat} (hl : lvl = 2 ∨ lvl = 6) (h0 : BX ts n lvl) (h1 : BX ts n (lvl + 1)) : BX ts (n + 1) lvl := by
 intro s d r h hr
 have hk : KW (if lvl = 2 then 1 else 5) (if lvl = 2 then wNot else [45]) := by
  rcases hl with rfl | rfl
  ·exact .inl ⟨rfl, _, _, rfl, by decide⟩
  ·exact .inr ⟨rfl, _, _, rfl, by decide⟩
 have hat := at_is hT h hk
 have hpx : px isN (n + 1) lvl s = if atP (if lvl = 2 then wNot else [45]) s = true then bindR (px isN n lvl s.next) fun e s1 => retR (mk1 (if lvl = 6 then 13 else 16) e) s1 else px isN n (lvl + 1) s := by
  rcases hl with rfl | rfl <;> rw [px] <;> rfl
 rw [hpx] at hr
 by_cases c : atP (if lvl = 2 then wNot else [45]) s = true
 ·rw [if_pos c] at hr
  rw [c] at hat
  rcases bindR_cases hr with ⟨c1, h2, rfl⟩ | ⟨a, s1, h2, h3⟩
  ·obtain ⟨N, q, ha, hN⟩ := h0 _ _ _ h.next h2
   refine ⟨N + 1, (mk1 (if lvl = 6 then 13 else 16) q.1, q.2), ha, fun m hm => ?_⟩
   have hq : dX ts (m - 1 + 1) lvl d.next = some q := hN (m - 1 + 1) (by omega)
   have := un_step hl h.e hat (m - 1) q hq
   rwa [show m - 1 + 1 = m by omega] at this
  ·obtain ⟨N, q, ⟨ha, hs⟩, hN⟩ := h0 _ _ _ h.next h2
   injection h3 with h3
   subst h3
   refine ⟨N + 1, (mk1 (if lvl = 6 then 13 else 16) q.1, q.2), ⟨by rw [ha], hs⟩, fun m hm => ?_⟩
   have hq : dX ts (m - 1 + 1) lvl d.next = some q := hN (m - 1 + 1) (by omega)
   have := un_step hl h.e hat (m - 1) q hq
   rwa [show m - 1 + 1 = m by omega] at this
 ·rw [if_neg c] at hr
  have hf : dIs ts (if lvl = 2 then 1 else 5) (if lvl = 2 then wNot else [45]) d = false := by rw [hat]; simpa using c
  exact Ev.up (h1 _ _ _ h hr) (fun m q hq => un_base hl h.e hf m q hq)
theorem at_other {w w' : List Nat} {s : PS} (h : atP w s = true) (hw : w ≠ w') : atP w' s = false := by
 unfold atP at h ⊢
 cases hr : s.rest with
 | nil => rfl
 | cons t r =>
  rw [hr] at h
  dsimp only at h ⊢
  rw [Bool.and_eq_true] at h
  have h1 : t.text = w := by simpa using h.1
  have : (t.text == w') = false := by rw [h1]; simpa using hw
  rw [this]; rfl
end
end Go.Proofs.YtofnkfjhmjecjaaGreatDoor

namespace Go.Proofs.YtofnkfjhmjecjaaGreatDoor
set_option maxRecDepth 100000
set_option linter.unusedVariables false
set_option linter.unusedSimpArgs false
theorem kw_null : KW 1 wNull := .inl ⟨rfl, _, _, rfl, by decide⟩
theorem kw_not : KW 1 wNot := .inl ⟨rfl, _, _, rfl, by decide⟩
theorem kw_is : KW 1 wIs := .inl ⟨rfl, _, _, rfl, by decide⟩
theorem kw_open : KW 5 [40] := .inr ⟨rfl, _, _, rfl, by decide⟩
theorem kw_shut : KW 5 [41] := .inr ⟨rfl, _, _, rfl, by decide⟩
theorem kw_dot : KW 5 [46] := .inr ⟨rfl, _, _, rfl, by decide⟩
theorem need_agree {ts : List Tk} (hT : ∀ t ∈ ts, TG t) {α : Type} {s : PS} {d : DS} (h : SR ts s d) {k : Nat} {w : List Nat} (hk : KW k w) {f : Unit → PS → RX α} {r : Except Nat (α × PS)} (hr : bindR (needP w s) f = some r) :
  (SR ts s.next (dMust ts k w d) ∧ f () s.next = some r) ∨ (r = .error 130 ∧ (dMust ts k w d).e = 130) := by
 have hat := at_is hT h hk
 unfold needP at hr
 by_cases c : atP w s = true
 ·rw [if_pos c] at hr
  rw [c] at hat
  exact .inl ⟨by rw [dMust_yes hat]; exact h.next, hr⟩
 ·rw [if_neg c] at hr
  injection hr with hr
  exact .inr ⟨hr.symm, dMust_no (by rw [hat]; simpa using c) h.e⟩
theorem null_agree {ts : List Tk} (hT : ∀ t ∈ ts, TG t) {s : PS} {d : DS} (h : SR ts s d) {op : Nat} {e : Ex} {r : Except Nat (Ex × PS)} (hr : bindR (needP wNull s) (fun _ s3 => retR (mk1 op e) s3) = some r) : Agree ts r (dNull ts op e d) := by
 rcases need_agree hT h kw_null hr with ⟨h1, h2⟩ | ⟨rfl, h2⟩
 ·injection h2 with h2
  subst h2
  exact ⟨rfl, h1⟩
 ·exact ⟨h2, by decide⟩
def tF (ts : List Tk) (m : Nat) (e : Ex) (s1 : DS) : Option (Ex × DS) :=
 if (dWhich ts cmpD s1).1 ≠ 0 then bindD (dX ts m 4 (dWhich ts cmpD s1).2) fun f s2 => some (mk2 (dWhich ts cmpD s1).1 e f, s2)
 else if (dGot ts 1 wIs s1).1 = true then some (dNull ts (if (dGot ts 1 wNot (dGot ts 1 wIs s1).2).1 = true then 20 else 19) e (dGot ts 1 wNot (dGot ts 1 wIs s1).2).2) else some (e, (dGot ts 1 wIs s1).2)
theorem dT_eq (ts : List Tk) (m : Nat) (d : DS) : dT ts (m + 1) d = bindD (dX ts m 4 d) (tF ts m) := by rw [dT]; rfl
theorem bx_test {ts : List Tk} (hT : ∀ t ∈ ts, TG t) {n : Nat} (h4 : BX ts n 4) : BX ts (n + 1) 3 := by
 intro s d r h hr
 rw [px] at hr
 refine Ev.up (f := fun m => dT ts m d) ?_ (fun m q hq => by
  rw [dX, if_neg (fun g => g h.e), if_neg (by omega), if_pos rfl]; exact hq)
 refine Ev.up (f := fun m => bindD (dX ts m 4 d) (tF ts m)) ?_ (fun m q hq => by rw [dT_eq]; exact hq)
 refine Ev.bind hr (fun r1 h1 => h4 _ _ _ h h1) ?_ (fun a d1 g => ⟨(a, d1), rfl, 0, fun m _ => ?_⟩)
 ·intro e s1 d1 h1 g
  have hat := at_is hT g kw_is
  by_cases c : atP wIs s1 = true
  ·rw [if_pos c] at h1
   rw [c] at hat
   have hno : dWhich ts cmpD d1 = (0, d1) := by
    have hw := dWhich_which (ts := ts) (s := s1) (d := d1) cmpD (fun x hx => at_is hT g (kw_cmp x hx))
    have hn : whichP (cmpD.map fun x => (x.2.1, x.2.2)) s1 = none := by
     have o1 := at_other c (w' := [61]) (by decide)
     have o2 := at_other c (w' := [60, 62]) (by decide)
     have o3 := at_other c (w' := [60]) (by decide)
     have o4 := at_other c (w' := [60, 61]) (by decide)
     have o5 := at_other c (w' := [62]) (by decide)
     have o6 := at_other c (w' := [62, 61]) (by decide)
     simp [cmpD, whichP, o1, o2, o3, o4, o5, o6]
    rw [hn] at hw
    exact hw
   have g2 := g.next
   have hat2 := at_is hT g2 kw_not
   dsimp only at h1
   have hF : ∀ m, tF ts m e d1 = some (dNull ts (if (dGot ts 1 wNot d1.next).1 = true then 20 else 19) e (dGot ts 1 wNot d1.next).2) := fun m => by
    unfold tF
    rw [hno, dGot_yes hat]
    rfl
   by_cases c2 : atP wNot s1.next = true
   ·rw [if_pos c2] at h1
    rw [c2] at hat2
    refine Ev.of _ 0 (fun m _ => hF m) ?_
    rw [dGot_yes hat2]
    exact null_agree hT g2.next h1
   ·rw [if_neg c2] at h1
    refine Ev.of _ 0 (fun m _ => hF m) ?_
    rw [dGot_no (show dIs ts 1 wNot d1.next = false by rw [hat2]; simpa using c2)]
    exact null_agree hT g2 h1
  ·rw [if_neg c] at h1
   have hat' : dIs ts 1 wIs d1 = false := by rw [hat]; simpa using c
   have hw := dWhich_which (ts := ts) (s := s1) (d := d1) cmpD (fun x hx => at_is hT g (kw_cmp x hx))
   rw [ops_cmp] at hw
   cases hp : whichP (opsP 3) s1 with
   | none =>
    rw [hp] at hw h1
    injection h1 with h1
    subst h1
    refine Ev.of (e, d1) 0 (fun m _ => ?_) ⟨rfl, g⟩
    show tF ts m e d1 = _
    unfold tF
    rw [hw, dGot_no hat']
    rfl
   | some op =>
    rw [hp] at hw h1
    have hop : op ≠ 0 := opsP_ne (ops_pos (by omega)) hp
    have hF : ∀ m, tF ts m e d1 = bindD (dX ts m 4 d1.next) fun f s2 => some (mk2 op e f, s2) := fun m => by
     unfold tF
     rw [hw]
     exact if_pos hop
    simp only [hF]
    exact Ev.bind h1 (fun r1 h2 => h4 _ _ _ g.next h2) (fun a s2 d2 h2 g2 => by
     injection h2 with h2
     subst h2
     exact Ev.of (mk2 op e a, d2) 0 (fun m _ => rfl) ⟨rfl, g2⟩) (fun a d2 g2 => ⟨(mk2 op e a, d2), rfl, 0, fun m _ => rfl⟩)
 ·unfold tF
  rw [dWhich_idle g, dGot_no (dIs_idle g)]
  rfl
theorem dP_miss {ts : List Tk} {d : DS} (he : d.e = 0) (h : dIs ts 5 [40] d = false) : ∃ q : Ex × DS, q.2.e = 130 ∧ ∀ m, 2 ≤ m → dP ts m d = some q := by
 have h1 := dMust_no h he
 refine ⟨(zE, { ({ dMust ts 5 [40] d with opn := (dMust ts 5 [40] d).opn + 1 } : DS) with opn := (dMust ts 5 [40] d).opn + 1 - 1 }), h1, fun m hm => ?_⟩
 obtain ⟨k, rfl⟩ : ∃ k, m = k + 1 + 1 := ⟨m - 2, by omega⟩
 rw [dP, if_neg (fun g => by rw [h] at g; cases g.1)]
 dsimp only
 rw [dX_idle (by show (dMust ts 5 [40] d).e ≠ 0; rw [h1]; decide)]
 show some (zE, dMust ts 5 [41] _) = _
 rw [dMust_idle (by show (dMust ts 5 [40] d).e ≠ 0; rw [h1]; decide)]
theorem dP_deep {ts : List Tk} {d : DS} (he : d.e = 0) (h : dIs ts 5 [40] d = true) (ho : d.opn = 40) : ∃ q : Ex × DS, q.2.e = 5 ∧ ∀ m, 2 ≤ m → dP ts m d = some q := by
 have h1 : (dFail 5 d).e = 5 := by unfold dFail; rw [if_pos he]
 have h2 : dMust ts 5 [40] (dFail 5 d) = dFail 5 d := dMust_idle (by rw [h1]; decide)
 refine ⟨(zE, { ({ dFail 5 d with opn := (dFail 5 d).opn + 1 } : DS) with opn := (dFail 5 d).opn + 1 - 1 }), h1, fun m hm => ?_⟩
 obtain ⟨k, rfl⟩ : ∃ k, m = k + 1 + 1 := ⟨m - 2, by omega⟩
 rw [dP, if_pos ⟨h, ho⟩]
 dsimp only
 rw [h2]
 rw [dX_idle (by show (dFail 5 d).e ≠ 0; rw [h1]; decide)]
 show some (zE, dMust ts 5 [41] _) = _
 rw [dMust_idle (by show (dFail 5 d).e ≠ 0; rw [h1]; decide)]
theorem bp_step {ts : List Tk} (hT : ∀ t ∈ ts, TG t) {n : Nat} (h0 : BX ts n 0) : BP ts (n + 1) := by
 intro s d r hc h hr
 rw [px] at hr
 have hop : s.opn = d.opn := h.opn
 have hde : d.e = 0 := h.e
 by_cases c : s.opn < 40
 ·rw [if_pos c] at hr
  have hS : ∀ m, dP ts (m + 1) d = bindD (dX ts m 0 { d.next with opn := d.next.opn + 1 }) fun e s2 => some (e, dMust ts 5 [41] { s2 with opn := s2.opn - 1 }) := fun m => by
   rw [dP, if_neg (fun g => by have := g.2; omega)]
   dsimp only
   rw [dMust_yes hc]
  refine Ev.up (f := fun m => bindD (dX ts m 0 { d.next with opn := d.next.opn + 1 }) fun e s2 => some (e, dMust ts 5 [41] { s2 with opn := s2.opn - 1 })) ?_ (fun m q hq => by rw [hS]; exact hq)
  have hs1 : SR ts { s with opn := s.opn + 1 } { d.next with opn := d.next.opn + 1 } := ⟨h.rest, by show s.opn + 1 = d.opn + 1; omega, h.e, h.deep, by show s.opn + 1 ≤ 40; omega⟩
  refine Ev.bind hr (fun r1 h1 => h0 _ _ _ hs1 h1) ?_ (fun a d1 g => ⟨(a, { d1 with opn := d1.opn - 1 }), rfl, 0, fun m _ => by rw [dMust_idle (by exact g)]⟩)
  intro a s1 d1 h1 g
  -- the sign that shuts is looked for at the same place
  have hm : (dMust ts 5 [41] { d1 with opn := d1.opn - 1 }) = { dMust ts 5 [41] d1 with opn := (dMust ts 5 [41] d1).opn - 1 } := by
   unfold dMust dFail
   have : dIs ts 5 [41] { d1 with opn := d1.opn - 1 } = dIs ts 5 [41] d1 := rfl
   rw [this]
   by_cases c1 : dIs ts 5 [41] d1 = true
   ·rw [if_pos c1, if_pos c1]; rfl
   ·rw [if_neg c1, if_neg c1]
    by_cases c2 : d1.e = 0
    ·rw [if_pos c2, if_pos c2]
    ·rw [if_neg c2, if_neg c2]
  refine Ev.of (a, dMust ts 5 [41] { d1 with opn := d1.opn - 1 }) 0 (fun m _ => rfl) ?_
  rw [hm]
  rcases need_agree hT g kw_shut h1 with ⟨g1, h2⟩ | ⟨rfl, h2⟩
  ·injection h2 with h2
   subst h2
   exact ⟨rfl, g1.rest, by show s1.next.opn - 1 = _ - 1; rw [g1.opn], g1.e, g1.deep, by have := g1.le; show s1.next.opn - 1 ≤ 40; omega⟩
  ·exact ⟨h2, by decide⟩
 ·rw [if_neg c] at hr
  injection hr with hr
  subst hr
  obtain ⟨q, h1, h2⟩ := dP_deep hde hc (by have := h.le; omega)
  exact Ev.of q 2 h2 ⟨h1, by decide⟩
theorem bx_call {ts : List Tk} (hT : ∀ t ∈ ts, TG t) {n op : Nat} (hP : BP ts n) {s1 : PS} {d1 : DS} {r : Except Nat (Ex × PS)} (h : SR ts s1 d1)
  (hr : bindR (needP [40] s1) (fun _ s2 => bindR (px isN n 8 s2) fun e s3 => retR (mk1 op e) s3) = some r) : Ev ts (fun m => bindD (dP ts m d1) fun e s => some (mk1 op e, s)) r := by
 have hat := at_is hT h kw_open
 unfold needP at hr
 by_cases c : atP [40] s1 = true
 ·rw [if_pos c] at hr
  rw [c] at hat
  have hr : bindR (px isN n 8 s1.next) (fun e s3 => retR (mk1 op e) s3) = some r := hr
  exact Ev.bind hr (fun r1 h1 => hP _ _ _ hat h.next h1) (fun a s d h1 g => by
   injection h1 with h1
   subst h1
   exact Ev.of (mk1 op a, d) 0 (fun m _ => rfl) ⟨rfl, g⟩) (fun a d g => ⟨(mk1 op a, d), rfl, 0, fun m _ => rfl⟩)
 ·rw [if_neg c] at hr
  injection hr with hr
  subst hr
  obtain ⟨q, h1, h2⟩ := dP_miss h.e (show dIs ts 5 [40] d1 = false by rw [hat]; simpa using c)
  exact Ev.of (mk1 op q.1, q.2) 2 (fun m hm => by show bindD (dP ts m d1) _ = _; rw [h2 m hm]; rfl) ⟨h1, by decide⟩
end Go.Proofs.YtofnkfjhmjecjaaGreatDoor

namespace Go.Proofs.YtofnkfjhmjecjaaGreatDoor
set_option maxRecDepth 100000
set_option linter.unusedVariables false
set_option linter.unusedSimpArgs false
theorem dIs_word {ts : List Tk} {d : DS} {t : Tk} (he : d.e = 0) (ht : ts[d.i]? = some t) (k : Nat) (w : List Nat) : dIs ts k w d = (t.kind == k && t.text == w) := by
 unfold dIs
 rw [he, ht]
 simp
theorem dName_yes {ts : List Tk} {d : DS} {t : Tk} (he : d.e = 0) (ht : ts[d.i]? = some t) (hk : t.kind = 1) (hn : resB (strB t.text) = false) : dName ts d = (t.text, d.next) := by
 unfold dName dNm
 rw [if_pos he, ht]
 dsimp only
 rw [if_pos ⟨hk, hn⟩]
theorem dName_no {ts : List Tk} {d : DS} (he : d.e = 0) (h : ∀ t, ts[d.i]? = some t → ¬ (t.kind = 1 ∧ resB (strB t.text) = false)) : dName ts d = ([], dFail 130 d) := by
 unfold dName dNm
 rw [if_pos he]
 cases ht : ts[d.i]? with
 | none => rfl
 | some t => dsimp only; rw [if_neg (h t ht)]
theorem dFail_e {c : Nat} {d : DS} (he : d.e = 0) : (dFail c d).e = c := by unfold dFail; rw [if_pos he]
theorem name_agree {ts : List Tk} (hT : ∀ t ∈ ts, TG t) {s : PS} {d : DS} (h : SR ts s d) {α : Type} {f : List Nat → PS → RX α} {r : Except Nat (α × PS)} (hr : bindR (nameP isN s) f = some r) :
  (∃ w, SR ts s.next (dName ts d).2 ∧ (dName ts d).1 = w ∧ f w s.next = some r) ∨ (r = .error 130 ∧ dName ts d = ([], dFail 130 d) ∧ (dFail 130 d).e = 130) := by
 unfold nameP at hr
 rcases h.cut with ⟨e, e2⟩ | ⟨t, e, e2⟩
 ·rw [e2] at hr
  injection hr with hr
  exact .inr ⟨hr.symm, dName_no h.e (fun t ht => by rw [e] at ht; cases ht), dFail_e h.e⟩
 ·rw [e2] at hr
  dsimp only at hr
  have g := hT t (List.mem_of_getElem? e)
  by_cases c : t.kind = 1 ∧ isN t.text = true
  ·rw [if_pos c] at hr
   have hres : resB (strB t.text) = false := by have := g.nm c.1; rw [c.2] at this; simpa using this.symm
   have hn := dName_yes h.e e c.1 hres
   refine .inl ⟨t.text, by rw [hn]; exact h.next, by rw [hn], ?_⟩
   have hx : ({ s with rest := ts.drop (d.i + 1) } : PS) = s.next := by unfold PS.next; rw [e2]; rfl
   rw [hx] at hr
   exact hr
  ·rw [if_neg c] at hr
   injection hr with hr
   refine .inr ⟨hr.symm, dName_no h.e (fun t' ht' => ?_), dFail_e h.e⟩
   rw [e] at ht'
   injection ht' with ht'
   subst ht'
   intro hc
   refine c ⟨hc.1, ?_⟩
   rw [g.nm hc.1, hc.2]; rfl
theorem bx_one {ts : List Tk} (hT : ∀ t ∈ ts, TG t) {n : Nat} (hP : BP ts n) : BX ts (n + 1) 7 := by
 intro s d r h hr
 rw [px] at hr
 refine Ev.up (f := fun m => dO ts m d) ?_ (fun m q hq => by
  rw [dX, if_neg (fun g => g h.e), if_neg (by omega), if_neg (by omega), if_pos rfl]; exact hq)
 rcases h.cut with ⟨e, e2⟩ | ⟨t, e, e2⟩
 ·rw [e2] at hr
  injection hr with hr
  subst hr
  refine Ev.of (zE, dFail 130 d) 1 (fun m hm => ?_) ⟨dFail_e h.e, by decide⟩
  rw [show m = m - 1 + 1 by omega, dO, e]
 ·rw [e2] at hr
  dsimp only at hr
  have g := hT t (List.mem_of_getElem? e)
  have hs : SR ts { s with rest := ts.drop (d.i + 1) } d.next := h.tail e2
  obtain ⟨s1, hs1⟩ : ∃ s1 : PS, { s with rest := ts.drop (d.i + 1) } = s1 := ⟨_, rfl⟩
  rw [hs1] at hr hs
  have hsn : s.next = s1 := by rw [← hs1]; unfold PS.next; rw [e2]; rfl
  obtain ⟨F, hF⟩ : ∃ F : Nat → Option (Ex × DS), (fun m => if 2 ≤ t.kind ∧ t.kind ≤ 4 then some (cst t.kind t.num t.scale (strB t.text), d.next)
   else if dIs ts 1 wNull d = true then some (cst 0 0 0 ⟨#[]⟩, d.next)
   else if dIs ts 1 wTrue d = true then some (cst 1 1 0 ⟨#[]⟩, d.next)
   else if dIs ts 1 wFalse d = true then some (cst 1 0 0 ⟨#[]⟩, d.next)
   else if dIs ts 1 wNan d = true then some (cst 3 0 (-1) ⟨#[]⟩, d.next)
   else if dIs ts 1 wInf d = true then some (cst 3 0 (-2) ⟨#[]⟩, d.next)
   else if dIs ts 1 wInt d = true then bindD (dP ts m d.next) fun e s1 => some (mk1 14 e, s1)
   else if dIs ts 1 wReal d = true then bindD (dP ts m d.next) fun e s1 => some (mk1 15 e, s1)
   else if t.kind = 5 then dP ts m d
   else if (dGot ts 5 [46] (dName ts d).2).1 = true then some (.mk 22 0 0 0 (strB (dName ts (dGot ts 5 [46] (dName ts d).2).2).1) (strB (dName ts d).1) [], (dName ts (dGot ts 5 [46] (dName ts d).2).2).2)
    else some (.mk 22 0 0 0 (strB (dName ts d).1) ⟨#[]⟩ [], (dGot ts 5 [46] (dName ts d).2).2)) = F := ⟨_, rfl⟩
  have hS : ∀ m, dO ts (m + 1) d = F m := fun m => by rw [← hF, dO, e]
  refine Ev.up (f := F) ?_ (fun m q hq => by rw [hS]; exact hq)
  have hkr := g.k
  by_cases k2 : t.kind = 2
  ·rw [if_pos k2] at hr
   injection hr with hr
   subst hr
   refine Ev.of _ 0 (fun m _ => by rw [← hF]; exact if_pos (by omega)) ⟨?_, hs⟩
   rw [k2, (g.k2 k2).1, (g.k2 k2).2]; rfl
  rw [if_neg k2] at hr
  by_cases k3 : t.kind = 3
  ·rw [if_pos k3] at hr
   injection hr with hr
   subst hr
   refine Ev.of _ 0 (fun m _ => by rw [← hF]; exact if_pos (by omega)) ⟨?_, hs⟩
   rw [k3, g.k3 k3]; rfl
  rw [if_neg k3] at hr
  by_cases k4 : t.kind = 4
  ·rw [if_pos k4] at hr
   injection hr with hr
   subst hr
   refine Ev.of _ 0 (fun m _ => by rw [← hF]; exact if_pos (by omega)) ⟨?_, hs⟩
   rw [k4, (g.k4 k4).1, (g.k4 k4).2]; rfl
  rw [if_neg k4] at hr
  have kn : ¬ (2 ≤ t.kind ∧ t.kind ≤ 4) := by omega
  simp only [if_neg kn] at hF
  have hw := fun w => dIs_word h.e e 1 w
  simp only [hw] at hF
  by_cases k1 : t.kind = 1
  ·rw [if_pos k1] at hr
   have hb : ∀ w, (t.kind == 1 && t.text == w) = (t.text == w) := fun w => by rw [k1]; simp
   simp only [hb] at hF
   by_cases c0 : t.text = wNull
   ·rw [if_pos c0] at hr
    injection hr with hr
    subst hr
    exact Ev.of _ 0 (fun m _ => by rw [← hF]; dsimp only; rw [c0]; rfl) ⟨rfl, hs⟩
   rw [if_neg c0] at hr
   by_cases c1 : t.text = wFalse
   ·rw [if_pos c1] at hr
    injection hr with hr
    subst hr
    exact Ev.of _ 0 (fun m _ => by rw [← hF]; dsimp only; rw [c1]; rfl) ⟨rfl, hs⟩
   rw [if_neg c1] at hr
   by_cases c2 : t.text = wTrue
   ·rw [if_pos c2] at hr
    injection hr with hr
    subst hr
    exact Ev.of _ 0 (fun m _ => by rw [← hF]; dsimp only; rw [c2]; rfl) ⟨rfl, hs⟩
   rw [if_neg c2] at hr
   by_cases c3 : t.text = wNan
   ·rw [if_pos c3] at hr
    injection hr with hr
    subst hr
    exact Ev.of _ 0 (fun m _ => by rw [← hF]; dsimp only; rw [c3]; rfl) ⟨rfl, hs⟩
   rw [if_neg c3] at hr
   by_cases c4 : t.text = wInf
   ·rw [if_pos c4] at hr
    injection hr with hr
    subst hr
    exact Ev.of _ 0 (fun m _ => by rw [← hF]; dsimp only; rw [c4]; rfl) ⟨rfl, hs⟩
   rw [if_neg c4] at hr
   by_cases c5 : t.text = wInt
   ·rw [if_pos c5] at hr
    have hFF : ∀ m, F m = bindD (dP ts m d.next) fun e s1 => some (mk1 14 e, s1) := fun m => by rw [← hF]; dsimp only; rw [c5]; rfl
    obtain ⟨N, q, ha, hN⟩ := bx_call hT hP hs hr
    exact ⟨N, q, ha, fun m hm => by rw [hFF]; exact hN m hm⟩
   rw [if_neg c5] at hr
   by_cases c6 : t.text = wReal
   ·rw [if_pos c6] at hr
    have hFF : ∀ m, F m = bindD (dP ts m d.next) fun e s1 => some (mk1 15 e, s1) := fun m => by rw [← hF]; dsimp only; rw [c6]; rfl
    obtain ⟨N, q, ha, hN⟩ := bx_call hT hP hs hr
    exact ⟨N, q, ha, fun m hm => by rw [hFF]; exact hN m hm⟩
   rw [if_neg c6] at hr
   have n0 : (t.text == wNull) = false := by simpa using c0
   have n1 : (t.text == wFalse) = false := by simpa using c1
   have n2 : (t.text == wTrue) = false := by simpa using c2
   have n3 : (t.text == wNan) = false := by simpa using c3
   have n4 : (t.text == wInf) = false := by simpa using c4
   have n5 : (t.text == wInt) = false := by simpa using c5
   have n6 : (t.text == wReal) = false := by simpa using c6
   simp only [n0, n1, n2, n3, n4, n5, n6, Bool.false_eq_true, if_false, if_neg (show ¬ t.kind = 5 by omega)] at hF
   by_cases cn : isN t.text = true
   ·rw [if_pos cn] at hr
    have hres : resB (strB t.text) = false := by have := g.nm k1; rw [cn] at this; simpa using this.symm
    rw [dName_yes h.e e k1 hres] at hF
    dsimp only at hF
    have hat := at_is hT hs kw_dot
    by_cases c : atP [46] s1 = true
    ·rw [if_pos c] at hr
     rw [c] at hat
     rw [dGot_yes hat] at hF
     dsimp only at hF
     rcases name_agree hT hs.next hr with ⟨w, g1, g2, g3⟩ | ⟨rfl, g2, g3⟩
     ·injection g3 with g3
      subst g3
      refine Ev.of _ 0 (fun m _ => by rw [← hF]; exact if_pos rfl) ⟨?_, g1⟩
      rw [g2]
     ·refine Ev.of _ 0 (fun m _ => by rw [← hF]; exact if_pos rfl) ⟨?_, by decide⟩
      rw [g2]
      exact g3
    ·rw [if_neg c] at hr
     injection hr with hr
     subst hr
     rw [dGot_no (show dIs ts 5 [46] d.next = false by rw [hat]; simpa using c)] at hF
     exact Ev.of _ 0 (fun m _ => by rw [← hF]; exact if_neg (fun h => by cases h)) ⟨rfl, hs⟩
   ·rw [if_neg cn] at hr
    injection hr with hr
    subst hr
    have hn := dName_no (ts := ts) h.e (fun t' ht' => by
     rw [e] at ht'
     injection ht' with ht'
     subst ht'
     intro hc
     refine cn ?_
     rw [g.nm k1, hc.2]; rfl)
    have hde : (dFail 130 d).e ≠ 0 := by rw [dFail_e h.e]; decide
    rw [hn] at hF
    dsimp only at hF
    rw [dGot_no (dIs_idle hde)] at hF
    exact Ev.of _ 0 (fun m _ => by rw [← hF]; exact if_neg (fun h => by cases h)) ⟨dFail_e h.e, by decide⟩
  ·rw [if_neg k1] at hr
   have k5 : t.kind = 5 := by omega
   have hb : ∀ w, (t.kind == 1 && t.text == w) = false := fun w => by rw [k5]; rfl
   rw [hb, hb, hb, hb, hb, hb, hb] at hF
   have hFF : ∀ m, F m = dP ts m d := fun m => by rw [← hF]; simp [k5]
   by_cases c : t.text = [40]
   ·rw [if_pos c] at hr
    have hi : dIs ts 5 [40] d = true := by rw [dIs_word h.e e, k5, c]; rfl
    obtain ⟨N, q, ha, hN⟩ := hP s1 d r hi hs hr
    exact ⟨N, q, ha, fun m hm => by rw [hFF]; exact hN m hm⟩
   ·rw [if_neg c] at hr
    injection hr with hr
    subst hr
    obtain ⟨q, h1, h2⟩ := dP_miss h.e (show dIs ts 5 [40] d = false by rw [dIs_word h.e e]; simp [c])
    exact Ev.of q 2 (fun m hm => by rw [hFF]; exact h2 m hm) ⟨h1, by decide⟩
theorem bridge {ts : List Tk} (hT : ∀ t ∈ ts, TG t) : ∀ n, (∀ lvl, lvl ≤ 7 → BX ts n lvl) ∧ BP ts n ∧ ∀ lvl, (lvl = 0 ∨ lvl = 1 ∨ lvl = 4 ∨ lvl = 5) → BC ts n lvl
 | 0 => ⟨fun lvl _ s d r _ h => by (rw [px] at h; cases h), fun s d r _ _ h => by (rw [px] at h; cases h), fun lvl _ e s d r _ h => by (rw [pc] at h; cases h)⟩
 | n + 1 => by
  obtain ⟨h1, h2, h3⟩ := bridge hT n
  refine ⟨fun lvl hl => ?_, bp_step hT (h1 0 (by omega)), fun lvl hl => bc_step hT hl (h1 (lvl + 1) (by omega)) (h3 lvl hl)⟩
  have hc : (lvl = 0 ∨ lvl = 1 ∨ lvl = 4 ∨ lvl = 5) ∨ (lvl = 2 ∨ lvl = 6) ∨ lvl = 3 ∨ lvl = 7 := by omega
  rcases hc with hc | hc | rfl | rfl
  ·exact bx_chain hc (h1 (lvl + 1) (by omega)) (h3 lvl hc)
  ·exact bx_un hT hc (h1 lvl hl) (h1 (lvl + 1) (by omega))
  ·exact bx_test hT (h1 4 (by omega))
  ·exact bx_one hT h2
end Go.Proofs.YtofnkfjhmjecjaaGreatDoor

namespace Go.Proofs.YtofnkfjhmjecjaaGreatDoor
set_option maxRecDepth 100000
set_option linter.unusedVariables false
set_option linter.unusedSimpArgs false
theorem low_lt1 {c : Nat} (h : bwL c = true) : LtB (lowL c) := by
 unfold bwL smL cpL at h
 unfold lowL cpL
 simp only [Bool.or_eq_true, Bool.and_eq_true, decide_eq_true_eq, beq_iff_eq] at h
 by_cases c1 : (decide (65 ≤ c) && decide (c ≤ 90)) = true
 ·rw [if_pos c1]
  simp only [Bool.and_eq_true, decide_eq_true_eq] at c1
  unfold LtB; omega
 ·rw [if_neg c1]
  simp only [Bool.and_eq_true, decide_eq_true_eq] at c1
  unfold LtB; omega
theorem bw_of {b : Nat} (h : LtB b) : bwL b = true := by
 unfold bwL smL
 unfold LtB at h
 simp only [Bool.or_eq_true, Bool.and_eq_true, decide_eq_true_eq, beq_iff_eq]
 omega
theorem low_in {c : Nat} (h : iwL c = true) : inL (lowL c) = true := by
 unfold inL iwL bwL smL lowL
 unfold iwL bwL smL at h
 by_cases c1 : cpL c = true
 ·rw [if_pos c1]
  unfold cpL at c1 ⊢
  simp only [Bool.and_eq_true, decide_eq_true_eq] at c1
  have h1 : decide (97 ≤ c + 32) = true := by simp; omega
  have h2 : decide (c + 32 ≤ 122) = true := by simp; omega
  have h3 : decide (c + 32 ≤ 90) = false := by simp; omega
  rw [h1, h2, h3]
  simp
 ·rw [if_neg c1]
  have c2 : cpL c = false := by simpa using c1
  rw [c2] at h ⊢
  simpa using h
theorem tokL_TG (l : List Nat) (hl : ∀ x ∈ l, x < 256) (t : Tk) (k : Nat) (h : tokL l = .ok (t, k)) : TG t := by
 cases l with
 | nil => simp [tokL] at h
 | cons c r =>
  rw [tokL_cons, tokC_eq] at h
  split at h
  ·next q1 =>
   split at h
   ·cases h
   ·next q2 =>
    injection h with h
    injection h with h1 h2
    have hi : iwL c = true := by unfold iwL; rw [q1]; rfl
    obtain ⟨n, hn⟩ : ∃ n, runL iwL r = n := ⟨_, rfl⟩
    have hrun : runL iwL (c :: r) = n + 1 := by rw [runL_cons, if_pos hi, hn]
    have hall := runL_in (f := iwL) (c :: r)
    obtain ⟨T, hT⟩ : ∃ T, ((c :: r).take (runL iwL (c :: r))).map lowL = T := ⟨_, rfl⟩
    have hT2 : T = lowL c :: (r.take n).map lowL := by rw [← hT, hrun]; rfl
    have hTin : ∀ x ∈ T, inL x = true := fun x hx => by
     rw [← hT] at hx
     obtain ⟨y, hy, rfl⟩ := List.mem_map.1 hx
     exact low_in (hall y hy)
    have hTb : ∀ x ∈ T, x < 256 := fun x hx => by
     rw [← hT] at hx
     obtain ⟨y, hy, rfl⟩ := List.mem_map.1 hx
     exact low_lt (hl y (List.mem_of_mem_take hy))
    have hlen : T.length ≤ 32 := by
     rw [← hT, List.length_map, List.length_take]; omega
    rw [hT] at h1
    subst h1
    refine ⟨(by simp), fun _ => ⟨_, _, hT2, low_lt1 q1⟩, (fun e => by simp at e), (fun e => by simp at e), (fun e => by simp at e), (fun e => by simp at e), fun _ => ?_⟩
    show nameB (strB T) = !resB (strB T)
    unfold nameB
    rw [sl_strB hTb, strB_len, runL_all1 T hTin]
    have h0 : (T.length == 0) = false := by rw [hT2]; simp
    have h3 : bwL (T.headD 0) = true := by rw [hT2]; exact bw_of (low_lt1 q1)
    rw [h0, h3]
    simp [hlen]
  ·next q1 =>
   split at h
   ·next q2 =>
    generalize fracL ((c :: r).drop (runL dgL (c :: r))) = cnd at h
    cases cnd with
    | true =>
     rw [if_pos rfl] at h
     split at h
     ·cases h
     ·injection h with h
      injection h with h1 h2
      subst h1
      exact ⟨(by simp), (fun e => by simp at e), (fun e => by simp at e), fun _ => rfl, (fun e => by simp at e), (fun e => by simp at e), (fun e => by simp at e)⟩
    | false =>
     rw [if_neg (by decide)] at h
     split at h
     ·cases h
     ·injection h with h
      injection h with h1 h2
      subst h1
      exact ⟨(by simp), (fun e => by simp at e), fun _ => ⟨rfl, rfl⟩, (fun e => by simp at e), (fun e => by simp at e), (fun e => by simp at e), (fun e => by simp at e)⟩
   ·next q2 =>
    split at h
    ·next q3 =>
     split at h
     ·cases h
     ·next x hx =>
      split at h
      ·cases h
      ·injection h with h
       injection h with h1 h2
       subst h1
       exact ⟨(by simp), (fun e => by simp at e), (fun e => by simp at e), (fun e => by simp at e), fun _ => ⟨rfl, rfl⟩, (fun e => by simp at e), (fun e => by simp at e)⟩
    ·next q3 =>
     split at h
     ·cases h
     ·next q4 =>
      injection h with h
      injection h with h1 h2
      subst h1
      refine ⟨(by simp), (fun e => by simp at e), (fun e => by simp at e), (fun e => by simp at e), (fun e => by simp at e), fun _ => ?_, (fun e => by simp at e)⟩
      obtain ⟨m, hm⟩ : ∃ m, signL (c :: r) = m + 1 := ⟨signL (c :: r) - 1, by omega⟩
      refine ⟨c, r.take m, by rw [hm]; rfl, fun hc => ?_⟩
      rw [bw_of hc] at q1
      exact q1 rfl
theorem lexGo_TG : ∀ (n : Nat) (l : List Nat) (ts : List Tk), (∀ x ∈ l, x < 256) → lexGo n l = .ok ts → ∀ t ∈ ts, TG t
 | 0, l, ts, hl, h => by
  simp only [lexGo, Except.ok.injEq] at h
  subst h
  exact fun t ht => by simp at ht
 | n + 1, l, ts, hl, h => by
  rw [lexGo_succ] at h
  have hdm : ∀ x ∈ l.drop (runL blL l), x < 256 := fun x hx => hl x (List.mem_of_mem_drop hx)
  generalize l.drop (runL blL l) = d at h hdm
  cases d with
  | nil =>
   injection h with h
   subst h
   exact fun t ht => by simp at ht
  | cons c r =>
   simp only at h
   cases ht : tokL (c :: r) with
   | error e => rw [ht] at h; cases h
   | ok x =>
    obtain ⟨t, k⟩ := x
    rw [ht] at h
    simp only at h
    cases hu : lexGo n ((c :: r).drop k) with
    | error e => rw [hu] at h; cases h
    | ok us =>
     rw [hu] at h
     injection h with h
     subst h
     have g1 := lexGo_TG n _ us (fun x hx => hdm x (List.mem_of_mem_drop hx)) hu
     intro x hx
     rcases List.mem_cons.1 hx with e | e
     ·rw [e]; exact tokL_TG _ hdm t k ht
     ·exact g1 x e
theorem toks_TG {l : List Nat} {ts : List Tk} (hl : ∀ x ∈ l, x < 256) (h : toksE l = .ok ts) : ∀ t ∈ ts, TG t :=
 lexGo_TG _ _ _ hl (toks_right hl h).2.2.2
end Go.Proofs.YtofnkfjhmjecjaaGreatDoor

namespace Go.Proofs.YtofnkfjhmjecjaaGreatDoor
set_option maxRecDepth 100000
open Go.RowKit Go.Joins Go.ChangeShapes Go.WideShapes
set_option linter.unusedVariables false
set_option linter.unusedSimpArgs false
theorem depL_snoc : ∀ (l : List Ex) (e : Ex), depL (l ++ [e]) = max (depL l) (depR e + 1)
 | [], e => by simp [depL]
 | a :: r, e => by rw [List.cons_append, depL, depL, depL_snoc r e]; omega
theorem depL_take {l : List Ex} {k : Nat} {e : Ex} (h : l[k]? = some e) : depL (l.take (k + 1)) = max (depL (l.take k)) (depR e + 1) := by
 rw [List.take_add_one, h]
 exact depL_snoc _ e
theorem depL_le : ∀ (l : List Ex) (k : Nat), depL (l.take k) ≤ depL l
 | [], k => by simp [depL]
 | a :: r, 0 => by simp [depL]
 | a :: r, k + 1 => by rw [List.take_succ_cons, depL, depL]; have := depL_le r k; omega
theorem depL_at {l : List Ex} {k : Nat} {e : Ex} (h : l[k]? = some e) : depR e + 1 ≤ depL l := by
 have h1 := depL_take h
 have h2 := depL_le l (k + 1)
 omega
set_option maxHeartbeats 8000000 in
theorem rdep_any : ∀ (N : Nat) {K : Bl} {w : World} (x : XE), depR x.er < N → depR x.er ≤ 4294967296 → XE.Mem K w x →
  Calls Tryz.prog 34 #[x.val] w fun e w' => e = .returned (.int .i64 (depR x.er : Int)) ∧ Below w.heap.size w w'
 | 0, K, w, x, h, _, _ => absurd h (by omega)
 | N + 1, K, w, .mk op kind num scale text qual a cap args, h, hd, hm => by
  have HI := Lib.hid (fun (w : World) (x : XE) => rdep_any N (K := K) (w := w) x)
  simp only [XE.er] at h hd ⊢
  rw [depR] at h hd ⊢
  obtain ⟨l, hl⟩ : ∃ l, XE.erL args = l := ⟨_, rfl⟩
  rw [hl] at h hd ⊢
  obtain ⟨D, hD⟩ : ∃ D, depL l = D := ⟨_, rfl⟩
  rw [hD] at h hd ⊢
  generalize hP : (fun (e : Ending) (w' : World) => e = .returned (.int .i64 (D : Int)) ∧ Below w.heap.size w w') = P
  have HP := Lib.hid hP
  have b1 : Below w.heap.size w (w.alloc (.cells #[.int .i64 op, .slice a args.length cap, .int .i64 kind, .int .i64 num, .int .i64 scale, .string text, .string qual] 30)) := (Below.refl _ _).alloc (Nat.le_refl _) _
  have hn1 := Bx.new w #[.int .i64 op, .slice a args.length cap, .int .i64 kind, .int .i64 num, .int .i64 scale, .string text, .string qual] 30
  obtain ⟨n, hn⟩ : ∃ n, args.length = n := ⟨_, rfl⟩
  have hnl : l.length = n := by rw [← hl, XE.erL_length]; exact hn
  have hnc : n ≤ cap := by rw [← hn]; unfold XE.Mem at hm; exact hm.1
  have hcm : cap ≤ maxLen := by unfold XE.Mem at hm; exact hm.2.1
  have HM0 := hm.below b1
  rw [hn] at b1 hn1 HM0
  obtain ⟨wa, hwa⟩ : ∃ wa, w.alloc (.cells #[.int .i64 op, .slice a n cap, .int .i64 kind, .int .i64 num, .int .i64 scale, .string text, .string qual] 30) = wa := ⟨_, rfl⟩
  rw [hwa] at b1 hn1 HM0
  have HM := Lib.hid (And.intro HM0 (And.intro hn (And.intro hl (And.intro hD hnl))))
  have HN := Lib.hid hn1
  have HB := Lib.hid b1
  simp only [XE.val]
  rw [hn]
  clear hP b1 hn1 hm HM0 hn hl hD hnl
  go_enter Tryz.func34, Tryz.ntmps34
  go_wp2_with fail
  go_loopw [3, 4] (fun d i wr => ∃ (k : Nat) (m : Nat), k ≤ n ∧ d = .int .i64 (m : Int) ∧ i = .int .i64 (k : Int) ∧ Hid (Below wa.heap.size wa wr ∧ depL (l.take k) = m)) (fun _ i _ => n - (intOf i).toNat)
  case atStart => exact ⟨0, 0, Nat.zero_le _, rfl, rfl, Lib.hid ⟨Below.refl _ _, by rw [List.take_zero, depL]⟩⟩
  case round =>
   obtain ⟨k, m, hk, rfl, rfl, HR⟩ := hrel
   obtain ⟨⟨y0, y1, y2, y3, y4, y5, y6⟩, -⟩ := (HN.out.below HR.out.1).seven
   by_cases c : k < n
   ·have c1 : (k : Int) < (n : Int) := by omega
    have hx : args[k]? = some (args[k]'(by rw [HM.out.2.1]; exact c)) := List.getElem?_eq_getElem _
    generalize args[k]'(by rw [HM.out.2.1]; exact c) = x at *
    obtain ⟨b, off, rfl, -, hb, hcell, hmx⟩ := XE.Mem.at (HM.out.1.below HR.out.1) hx
    have hle : l[k]? = some x.er := by rw [← HM.out.2.2.1, XE.erL_map, List.getElem?_map, hx]; rfl
    have hat := depL_at hle
    rw [HM.out.2.2.2.1] at hat
    have htk := depL_take hle
    rw [HR.out.2] at htk
    obtain ⟨q, hq⟩ : ∃ q, depR x.er = q := ⟨_, rfl⟩
    have HCA := Lib.hid (HI.out wr x (by omega) (by omega) hmx)
    rw [hq] at HCA htk hat
    have HT := Lib.hid htk
    have hmD : m ≤ D := by rw [← HR.out.2, ← HM.out.2.2.2.1]; exact depL_le _ _
    obtain ⟨op1, kind1, num1, scale1, text1, qual1, a1, cap1, args1⟩ := x
    have q0 := hcell 0 _ rfl
    have q1 := hcell 1 _ rfl
    have q2 := hcell 2 _ rfl
    have q3 := hcell 3 _ rfl
    have q4 := hcell 4 _ rfl
    have q5 := hcell 5 _ rfl
    have q6 := hcell 6 _ rfl
    rw [Nat.add_zero] at q0
    simp only [XE.val] at HCA
    have hwk : wrap64 ((k : Int) + 1) = ((k + 1 : Nat) : Int) := by unfold wrap64 maxLen at *; omega
    obtain ⟨q1, hq1⟩ : ∃ q1, q + 1 = q1 := ⟨_, rfl⟩
    have hwq : wrap64 ((q : Int) + 1) = (q1 : Int) := by unfold wrap64; omega
    rw [hq1] at htk
    have HT2 := Lib.hid htk
    clear hx hcell hmx hle htk hq hat hmD HT hq1
    go_wp2_with fail
    try go_at_call 34
    refine HCA.out.mono ?_
    rintro e w3 ⟨rfl, b3⟩
    have HB3 := Lib.hid (HR.out.1.trans (b3.mono HR.out.1.size))
    clear b3
    by_cases cm : m < q1
    ·have cm1 : (m : Int) < (q1 : Int) := by omega
     go_wp2_with fail
     refine ⟨⟨k + 1, q1, Nat.succ_le_of_lt c, by rw [hwq], by rw [hwk], Lib.hid ⟨HB3.out, by rw [HT2.out]; omega⟩⟩, ?_⟩
     rw [hwk]
     simp [intOf]
     omega
    ·have cm1 : decide ((m : Int) < (q1 : Int)) = false := by simp; omega
     go_wp2_with fail
     refine ⟨⟨k + 1, m, Nat.succ_le_of_lt c, rfl, by rw [hwk], Lib.hid ⟨HB3.out, by rw [HT2.out]; omega⟩⟩, ?_⟩
     rw [hwk]
     simp [intOf]
     omega
   ·have c2 : decide ((k : Int) < (n : Int)) = false := by simp; omega
    obtain rfl : k = n := by omega
    have hmD : m = D := by rw [← HR.out.2, ← HM.out.2.2.2.1, List.take_of_length_le (by rw [HM.out.2.2.2.2]; exact Nat.le_refl _)]
    subst hmD
    have HF := Lib.hid (show P (.returned (.int .i64 (m : Int))) wr by rw [← HP.out]; exact ⟨rfl, HB.out.trans (HR.out.1.mono HB.out.size)⟩)
    clear HP
    go_wp2_with fail
    exact HF.out
end Go.Proofs.YtofnkfjhmjecjaaGreatDoor
