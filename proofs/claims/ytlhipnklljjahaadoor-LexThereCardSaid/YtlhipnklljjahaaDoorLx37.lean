/-
  Tokens written one behind the other (layer 12): for the law LexThere.
  Conditions: none.
-/
import Derived.Test.YtlhipnklljjahaaDoorLx36
namespace Go.Proofs.YtlhipnklljjahaaDoor
set_option maxRecDepth 100000
open Go.RowKit Go.Joins Go.ChangeShapes Go.WideShapes
set_option linter.unusedVariables false
set_option linter.unusedSimpArgs false

theorem open_u8 {W : World} {r : Reach} {b0 : Nat} {v : Value} (o : Value.okWide Tryd.prog W r b0 5 v) : ∃ n : Nat, v = .int .u8 (n : Int) ∧ n < 256 := by
  have o2 : Cell.okWide Tryd.prog W r b0 5 v := by
    unfold Value.okWide at o
    rw [Tryd.underlying5] at o
    exact o
  cases v <;> simp [Cell.okWide, Cell.ok, Tryd.underlying5] at o2
  rename_i k n
  obtain ⟨rfl, h⟩ := o2
  simp [IntKind.has, IntKind.min, IntKind.max, IntKind.signed, IntKind.bits] at h
  refine ⟨n.toNat, ?_, by omega⟩
  congr 1
  omega
theorem escL_le : ∀ l : List Nat, (escL l).length ≤ 2 * l.length
  | [] => by simp [escL]
  | c :: r => by
    have := escL_le r
    show (if c = 39 then 39 :: 39 :: escL r else c :: escL r).length ≤ _
    split <;> simp <;> omega
theorem escL_lt : ∀ l : List Nat, (∀ x ∈ l, x < 256) → ∀ x ∈ escL l, x < 256
  | [], _, x, hx => by simp [escL] at hx
  | c :: r, h, x, hx => by
    have ih := escL_lt r (fun y hy => h y (List.mem_cons_of_mem _ hy)) x
    have hx : x ∈ (if c = 39 then 39 :: 39 :: escL r else c :: escL r) := hx
    split at hx
    · simp only [List.mem_cons] at hx
      rcases hx with e | e | e
      · omega
      · omega
      · exact ih e
    · rcases List.mem_cons.1 hx with e | e
      · rw [e]; exact h c (List.mem_cons_self ..)
      · exact ih e
theorem pad_dg (n sc : Nat) : ∀ x ∈ padL n sc, dgL x = true := by
  intro x hx
  unfold padL at hx
  rcases List.mem_append.1 hx with g | g
  · rw [List.eq_of_mem_replicate g]; rfl
  · exact digL_dg n x g
theorem word_ok (t : Tk) (h : TkR t) : (wordT t).length ≤ 402 ∧ ∀ x ∈ wordT t, x < 256 := by
  obtain ⟨h5, hnum, hsc, htl, htb⟩ := h
  have hd := digL_len 18 t.num (by omega)
  unfold wordT
  split
  · exact ⟨by omega, fun x hx => by have := (dg_iff x).1 (digL_dg _ x hx); omega⟩
  · split
    · have hp : (padL t.num t.scale).length ≤ 40 := by
        unfold padL
        rw [List.length_append, List.length_replicate]
        omega
      have hpd := pad_dg t.num t.scale
      refine ⟨by simp only [List.length_append, List.length_take, List.length_cons, List.length_drop]; omega, fun x hx => ?_⟩
      rcases List.mem_append.1 hx with g | g
      · have := (dg_iff x).1 (hpd x (List.mem_of_mem_take g)); omega
      · rcases List.mem_cons.1 g with g | g
        · omega
        · have := (dg_iff x).1 (hpd x (List.mem_of_mem_drop g)); omega
    · split
      · have := escL_le t.text
        refine ⟨by simp; omega, fun x hx => ?_⟩
        rcases List.mem_cons.1 hx with g | g
        · omega
        · rcases List.mem_append.1 g with g | g
          · exact escL_lt _ htb x g
          · simp at g; omega
      · exact ⟨by omega, htb⟩
/-- tokens written, a blank ahead of each -/
def wrt (e : Nat) (ts : List Tk) : List Nat := ts.flatMap fun t => e :: wordT t
theorem wrt_snoc (e : Nat) (ts : List Tk) (t : Tk) : wrt e (ts ++ [t]) = wrt e ts ++ [e] ++ wordT t := by
  unfold wrt
  rw [List.flatMap_append]
  simp
theorem wrt_ok (e : Nat) (he : e < 256) : ∀ ts : List Tk, (∀ t ∈ ts, TkR t) → (wrt e ts).length ≤ ts.length * 403 ∧ ∀ x ∈ wrt e ts, x < 256
  | [], _ => ⟨by simp [wrt], fun x hx => by simp [wrt] at hx⟩
  | t :: r, h => by
    obtain ⟨h1, h2⟩ := wrt_ok e he r (fun x hx => h x (List.mem_cons_of_mem _ hx))
    obtain ⟨g1, g2⟩ := word_ok t (h t (List.mem_cons_self ..))
    have e1 : wrt e (t :: r) = (e :: wordT t) ++ wrt e r := by unfold wrt; rw [List.flatMap_cons]
    rw [e1]
    refine ⟨by simp only [List.length_append, List.length_cons]; omega, fun x hx => ?_⟩
    rcases List.mem_append.1 hx with k | k
    · rcases List.mem_cons.1 k with k | k
      · omega
      · exact g2 x k
    · exact h2 x k
theorem toks_wrt {e : Nat} (he : blL e = true) {l : List Nat} {ts : List Tk} (h : lexL l = .ok ts) (hl : (wrt e ts).length ≤ 4000) : toksE (wrt e ts) = .ok ts := by
  unfold toksE
  rw [if_neg (by omega)]
  exact lexL_words he ts (lexL_good l ts h)
/-- how the loop that writes the tokens stands -/
structure LtS (W wr : World) (v : Value) (acc : List Nat) (k n : Nat) : Prop where
  own : OwB wr W.heap.size v acc
  kl : k ≤ n
  bel : Below W.heap.size W wr
  sz : W.heap.size ≤ wr.heap.size
theorem and3 : ∀ b : Nat, b < 256 → bits .and .u8 (b : Int) 3 = ((b % 4 : Nat) : Int) := by decide
theorem bl_at : ∀ m : Nat, ∀ h : m < 4, ∃ e, (((⟨#[32, 9, 10, 13]⟩ : ByteArray)[m]'h).toNat = e) ∧ blL e = true ∧ e < 256
  | 0, _ => ⟨32, rfl, rfl, by decide⟩
  | 1, _ => ⟨9, rfl, rfl, by decide⟩
  | 2, _ => ⟨10, rfl, rfl, by decide⟩
  | 3, _ => ⟨13, rfl, rfl, by decide⟩

end Go.Proofs.YtlhipnklljjahaaDoor
