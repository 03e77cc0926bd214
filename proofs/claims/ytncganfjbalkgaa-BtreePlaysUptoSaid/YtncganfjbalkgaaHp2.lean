/-
  The document's heap (haspref08): contracts over the translation of what changes it: Drop, lay, Add, Back.
  Conditions: the heap lies in memory.
-/
import Derived.Test.YtncganfjbalkgaaHp1
import Derived.Deep.RegionLaw
import Derived.Deep.AppendLies
namespace Go.Proofs.Ytncganfjbalkgaa
open Go.RowKit Go.Joins Go.ChangeShapes Go.WideShapes
set_option linter.unusedVariables false

theorem own_block {w : World} {base : Nat} {e : TypeId} {size : Nat} {v : Value} {n : Nat} {xs : List Value} (h : w.ownsRow base e size v n xs) {g : Nat} (hg : v.ownBlock = some g) : ∃ cur, w.heap[g]? = some (.cells cur e (0, 0)) := by
  rcases h.2 with ⟨rfl, _⟩ | ⟨g', cap, cur, rfl, hb, hg', _⟩
  · simp [Value.ownBlock] at hg
  · simp only [Value.ownBlock, Option.some.injEq] at hg
    subst hg
    exact ⟨cur, hg'⟩
theorem own_own {w : World} {base base' : Nat} {e e' : TypeId} {size size' : Nat} {v v' : Value} {n n' : Nat} {xs xs' : List Value} (h : w.ownsRow base e size v n xs) (h' : w.ownsRow base' e' size' v' n' xs') (hne : e ≠ e') {g : Nat} (hg : v.ownBlock = some g) : v'.ownBlock ≠ some g := fun hg' => by
  obtain ⟨c, e1⟩ := own_block h hg
  obtain ⟨c', e2⟩ := own_block h' hg'
  rw [e1] at e2
  injection e2 with e2
  injection e2 with _ e2 _
  exact hne e2

theorem grown_setCell' (w : World) (g o : Nat) (u : Value) : w.grownBy (w.setCell ⟨g, o, none⟩ u) (some g) :=
  ⟨rfl, rfl, rfl, by simp [World.setCell], fun k _ hk => heap_setCell_other w ⟨g, o, none⟩ k u (fun e => hk (by simp [e]))⟩
def hDrop (id : Int) (s : List Sl) : List Sl := if hFind id s < 0 then s else s.set (hFind id s).toNat (0, [])
theorem hFindN_at (id : Int) : ∀ (s : List Sl) (i : Nat), hFindN id s i = -1 ∨ ∃ k x, s[k]? = some x ∧ hFindN id s i = ((i + k : Nat) : Int) ∧ 0 < id ∧ x.1 = id
  | [], i => .inl rfl
  | x :: r, i => by
    unfold hFindN
    by_cases c : 0 < id ∧ x.1 = id
    · rw [if_pos c]
      exact .inr ⟨0, x, rfl, rfl, c.1, c.2⟩
    · rw [if_neg c]
      rcases hFindN_at id r (i + 1) with h | ⟨k, y, h1, h2, h3⟩
      · exact .inl h
      · exact .inr ⟨k + 1, y, h1, by rw [h2]; congr 1; omega, h3⟩
theorem hFind_at (id : Int) (s : List Sl) : hFind id s = -1 ∨ ∃ (k : Nat) (x : Sl), s[k]? = some x ∧ hFind id s = (k : Int) ∧ 0 < id ∧ x.1 = id := by
  rcases hFindN_at id s 0 with h | ⟨k, x, h1, h2, h3⟩
  · exact .inl h
  · exact .inr ⟨k, x, h1, by unfold hFind; rw [h2, Nat.zero_add], h3⟩

end Go.Proofs.Ytncganfjbalkgaa
