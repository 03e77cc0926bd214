/-
  Package keys over the translation: Encode, of any list, right or wrong.
  Conditions: the list lies in memory; its texts are not too long.
-/
import Derived.Test.YtpknoclnmhomiabKs2
import Derived.Deep.RegionLaw
namespace Go.Proofs.Ytpknoclnmhomiab
open Go.RowKit Go.Joins Go.ChangeShapes Go.WideShapes
set_option linter.unusedVariables false

theorem step_pushN {ops : Array Oper} {o : Oper} {a : Act} {w : World} {K : Act → World → Prop} {Q : Exit → Act → World → Prop} {E : Prop} (hgd : o.guard = none) (s x : Operand)
    (ho : o.op = .call { callee := .builtin .append, args := #[s, x], argTypes := #[27, 27] })
    (base : Nat) (v : Value) (l : List Nat) (hs : a.eval s = v) (hown : w.ownsRow base 5 1 v l.length (bcells l)) (ad : Addr) (m c : Nat) (r : List Nat) (hx : a.eval x = .slice (some ad) m c) (hm : r.length = m) (hm0 : m ≠ 0)
    (hnews : ∀ j u, (bcells r)[j]? = some u → w.cell? (ad.add j) = some u) (hsz : l.length + m ≤ 70368744177664) (hbase : base ≤ w.heap.size)
    (h : ∀ v' w', OwB w' base v' (l ++ r) → w.grownBy w' v.ownBlock → K (a.put o.dst v') w') : if Region.wanted o (yielded ops a.tmps) = true then Oper.wp Try.prog o a w K Q else E := by
  obtain ⟨i0, hi, hz0, hz1, hz2⟩ := info_parts infoB
  have hw : Region.wanted o (yielded ops a.tmps) = true := by simp [Region.wanted, hgd]
  rw [if_pos hw]
  refine wp_append_own w s x _ ho base 5 i0 _ 1 1 Try.underlying27 hi hz0 hz1 hz2 rfl (by decide) v l.length (bcells l) hs hown ad m c (bcells r) hx (by rw [bcells_length, hm, Nat.mul_one]) hnews (bcells_one r) (by unfold maxLen; omega) (by omega) hbase ?_
  intro v' w' h1 h2 h3
  refine h v' w' ⟨?_, fun e => hm0 (h3.1 e).2⟩ h2
  rw [bcells_app, List.length_append, hm]
  exact h1

/-- a value's bytes behind its kind, whatever the value -/
def vx (k n : Int) (s : ByteArray) : List Nat :=
  if k = 1 then [(n % 256).toNat] else if k = 2 then be8 (n + 9223372036854775808).toNat else if k = 3 then be8 (turnV (plV n)).toNat else if k = 4 then esc (sl s) ++ [0, 1] else []
def keyX (kf nf : Nat → Int) (sf : Nat → ByteArray) : Nat → List Nat
  | 0 => []
  | m + 1 => keyX kf nf sf m ++ ([((kf m + 1) % 256).toNat] ++ vx (kf m) (nf m) (sf m))
theorem vx_right {k n : Int} {s : ByteArray} (h : VCheck k n s = 0) (hi : InI n) : [((k + 1) % 256).toNat] ++ vx k n s = vb k n s := by
  obtain ⟨h0, h4, hr, hs, h2⟩ := vck h
  have e : (k + 1) % 256 = k + 1 := by omega
  unfold vx vb
  rw [e]
  by_cases c : k = 3
  · subst c
    have := turn_plV hi (rgt3 hi hr)
    rw [if_neg (by decide), if_neg (by decide), if_pos rfl, if_neg (by decide), if_neg (by decide), if_pos rfl, this]
    rfl
  · rw [if_neg c, if_neg c]
    rfl
theorem keyX_right (kf nf : Nat → Int) (sf : Nat → ByteArray) : ∀ m, (∀ i, i < m → VCheck (kf i) (nf i) (sf i) = 0 ∧ InI (nf i)) → keyX kf nf sf m = keyB kf nf sf m
  | 0, _ => rfl
  | m + 1, h => by
    unfold keyX keyB
    rw [keyX_right kf nf sf m (fun i hi => h i (by omega)), vx_right (h m (by omega)).1 (h m (by omega)).2]
theorem vx_le (k n : Int) (s : ByteArray) : (vx k n s).length ≤ 2 * s.size + 8 := by
  have h := esc_le (sl s)
  rw [sl_length] at h
  unfold vx
  repeat' split
  all_goals first | (simp [be8]; done) | (simp; omega)
theorem keyX_le (kf nf : Nat → Int) (sf : Nat → ByteArray) : ∀ m, (∀ i, i < m → (sf i).size ≤ 1048576) → (keyX kf nf sf m).length ≤ m * 2097161
  | 0, _ => by simp [keyX]
  | m + 1, h => by
    have h1 := keyX_le kf nf sf m (fun i hi => h i (by omega))
    have h2 := vx_le (kf m) (nf m) (sf m)
    have h3 := h m (by omega)
    unfold keyX
    rw [List.length_append, List.length_append, List.length_singleton]
    omega

end Go.Proofs.Ytpknoclnmhomiab
