/-
  Package keys over the translation: a number's and a text's bytes behind a key (appendNumber, appendText).
  Conditions: the key is the call's own; it and the text are not too long.
-/
import Derived.Test.YtpknoclnmhomiabKs1
import Derived.Test.YtpknoclnmhomiabKp
namespace Go.Proofs.Ytpknoclnmhomiab
open Go.RowKit Go.Joins Go.ChangeShapes Go.WideShapes
set_option linter.unusedVariables false

/-- append onto a slice of bytes of the call's own, nil perhaps -/
theorem wp_pushN {ops : Array Oper} {rest : List Oper} {o : Oper} {a : Act} {w : World} {Q : Exit → Act → World → Prop} (hgd : o.guard = none) (s x : Operand)
    (ho : o.op = .call { callee := .builtin .append, args := #[s, x], argTypes := #[27, 27] })
    (base : Nat) (v : Value) (l : List Nat) (hs : a.eval s = v) (hown : w.ownsRow base 5 1 v l.length (bcells l)) (ad : Addr) (m c : Nat) (r : List Nat) (hx : a.eval x = .slice (some ad) m c) (hm : r.length = m) (hm0 : m ≠ 0)
    (hnews : ∀ j u, (bcells r)[j]? = some u → w.cell? (ad.add j) = some u) (hsz : l.length + m ≤ 70368744177664) (hbase : base ≤ w.heap.size)
    (h : ∀ v' w', OwB w' base v' (l ++ r) → w.grownBy w' v.ownBlock → wpList Try.prog ops Q rest (a.put o.dst v') w') : wpList Try.prog ops Q (o :: rest) a w := by
  obtain ⟨i0, hi, hz0, hz1, hz2⟩ := info_parts infoB
  refine wpList_append_own w hgd s x _ ho base 5 i0 _ 1 1 Try.underlying27 hi hz0 hz1 hz2 rfl (by decide) v l.length (bcells l) hs hown ad m c (bcells r) hx (by rw [bcells_length, hm, Nat.mul_one]) hnews (bcells_one r) (by unfold maxLen; omega) (by omega) hbase ?_
  intro v' w' h1 h2 h3
  refine h v' w' ⟨?_, fun e => hm0 (h3.1 e).2⟩ h2
  rw [bcells_app, List.length_append, hm]
  exact h1

/-- the state of a loop that writes bytes, as En; nil perhaps -/
structure Eo (W w : World) (B : Nat) (v : Value) (l : List Nat) : Prop where
  own : w.ownsRow B 5 1 v l.length (bcells l)
  bel : Below B W w
  sz : B ≤ w.heap.size
theorem En.eo {W w : World} {B : Nat} {v : Value} {l : List Nat} (h : En W w B v l) : Eo W w B v l := ⟨h.own.1, h.bel, h.sz⟩
theorem Eo.alloc {W w : World} {B : Nat} {v : Value} {l : List Nat} (h : Eo W w B v l) (o : Obj) : Eo W (w.alloc o) B v l := ⟨h.own.alloc o, h.bel.alloc h.sz o, by simp; exact Nat.le_succ_of_le h.sz⟩
theorem Eo.step {W w w' : World} {B : Nat} {v : Value} {l : List Nat} (h : Eo W w B v l) (hb : Below w.heap.size w w') : Eo W w' B v l := ⟨rowBelow h.own hb, h.bel.trans (hb.mono h.sz), Nat.le_trans h.sz hb.size⟩
theorem Eo.drew {W w : World} {B : Nat} {v : Value} {l : List Nat} (h : Eo W w B v l) : Eo W w.drew B v l := h.step (Below.refl _ _).drew
theorem Eo.push {W w w' : World} {B : Nat} {v v' : Value} {l l' : List Nat} (h : Eo W w B v l) (ho : OwB w' B v' l') (hg : w.grownBy w' v.ownBlock) : En W w' B v' l' :=
  ⟨ho, h.bel.grown hg h.sz (fun k hk => (h.own.lt k hk).1), Nat.le_trans h.sz hg.size⟩
theorem Eo.nil (w : World) : Eo w w w.heap.size (.slice none 0 0) [] := ⟨World.ownsRow_nil w _ _ 1, Below.refl _ _, Nat.le_refl _⟩
theorem Eo.outB {W w : World} {B : Nat} {v : Value} {l : List Nat} (h : Eo W w B v l) : OutB w B v l := by
  by_cases c : v = .slice none 0 0
  · left
    refine ⟨c, ?_⟩
    subst c
    rcases h.own.2 with ⟨_, e⟩ | ⟨g, cap, cur, e, _⟩
    · exact List.length_eq_zero_iff.1 e
    · cases e
  · exact .inr ⟨h.own, c⟩
theorem BoxV.grownO {w w' : World} {base g : Nat} {k n : Int} {s : ByteArray} {v : Value} {l : List Nat} (h : BoxV w g k n s) (ho : w.ownsRow base 5 1 v l.length (bcells l)) (hg : w.grownBy w' v.ownBlock) : BoxV w' g k n s :=
  (hg.block g h.lt (fun e => own_ne ho h ty_ne e.symm)).trans h

end Go.Proofs.Ytpknoclnmhomiab
