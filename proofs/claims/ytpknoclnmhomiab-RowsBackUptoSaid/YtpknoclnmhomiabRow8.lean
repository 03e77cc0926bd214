/-
  Rows, plainly: what is read as a row makes these bytes again.
  Conditions: none.
-/
import Derived.Test.YtpknoclnmhomiabRow7
namespace Go.Proofs.Ytpknoclnmhomiab
open Go.RowKit Go.Joins Go.ChangeShapes Go.WideShapes
set_option linter.unusedVariables false

/-! bits, backwards -/
theorem bits_sum (x : Nat) (hx : x < 256) : x % 2 + x / 2 % 2 * 2 + x / 4 % 2 * 4 + x / 8 % 2 * 8 + x / 16 % 2 * 16 + x / 32 % 2 * 32 + x / 64 % 2 * 64 + x / 128 % 2 * 128 = x := by omega
/-- the bits so far, out of the number -/
theorem bitsAt_mod (kf : Nat → Int) (n i x : Nat) : ∀ q, (∀ r, r < q → x / 2 ^ r % 2 = if i + r < n ∧ kf (i + r) = 0 then 1 else 0) → bitsAt kf n i q = x % 2 ^ q
  | 0, _ => by rw [Nat.pow_zero, Nat.mod_one]; rfl
  | q + 1, h => by
    have ih := bitsAt_mod kf n i x q (fun r hr => h r (by omega))
    have hq := h q (by omega)
    unfold bitsAt
    rw [ih, Nat.mod_pow_succ, hq]
    split <;> simp
theorem bitsAt_8 (kf : Nat → Int) (n i x : Nat) (hx : x < 256) (h : ∀ r, r < 8 → x / 2 ^ r % 2 = if i + r < n ∧ kf (i + r) = 0 then 1 else 0) : bitsAt kf n i 8 = x := by
  rw [bitsAt_mod kf n i x 8 h]
  exact Nat.mod_eq_of_lt hx
theorem rbits_back (kf : Nat → Int) (n : Nat) (l : List Nat) (hl : ∀ x ∈ l, x < 256) : ∀ j, j ≤ l.length → (∀ i, i < 8 * j → bitN l i = decide (i < n ∧ kf i = 0)) → rbits kf n j = l.take j
  | 0, _, _ => rfl
  | j + 1, hj, h => by
    have hz : l[j]? = some (l[j]'(by omega)) := List.getElem?_eq_getElem _
    unfold rbits
    rw [rbits_back kf n l hl j (by omega) (fun i hi => h i (by omega)), List.take_add_one, hz]
    refine congrArg (fun y => l.take j ++ [y]) ?_
    refine bitsAt_8 kf n (8 * j) _ (hl _ (List.getElem_mem _)) (fun r hr => ?_)
    have hb := h (8 * j + r) (by omega)
    unfold bitN at hb
    rw [show (8 * j + r) / 8 = j by omega, show (8 * j + r) % 8 = r by omega, List.getD_eq_getElem?_getD, hz] at hb
    have hb2 : decide (l[j]'(by omega) / 2 ^ r % 2 = 1) = decide (8 * j + r < n ∧ kf (8 * j + r) = 0) := hb
    have hb3 := decide_eq_decide.1 hb2
    have hm : l[j]'(by omega) / 2 ^ r % 2 < 2 := Nat.mod_lt _ (by decide)
    by_cases c : 8 * j + r < n ∧ kf (8 * j + r) = 0
    · rw [if_pos c]; exact hb3.2 c
    · rw [if_neg c]
      have : ¬ l[j]'(by omega) / 2 ^ r % 2 = 1 := fun e => c (hb3.1 e)
      omega

/-! values, backwards -/
theorem le8_numL (l : List Nat) (hl : l.length = 8) (h8 : ∀ x ∈ l, x < 256) : le8 (numL l) = l := by
  match l, hl with
  | [a, b, c, d, e, f, g, i], _ =>
    have ha := h8 a (by simp)
    have hb := h8 b (by simp)
    have hc := h8 c (by simp)
    have hd := h8 d (by simp)
    have he := h8 e (by simp)
    have hf := h8 f (by simp)
    have hg := h8 g (by simp)
    have hi := h8 i (by simp)
    unfold le8
    simp only [numL]
    refine List.cons_eq_cons.2 ⟨by omega, List.cons_eq_cons.2 ⟨by omega, List.cons_eq_cons.2 ⟨by omega, List.cons_eq_cons.2 ⟨by omega, List.cons_eq_cons.2 ⟨by omega, List.cons_eq_cons.2 ⟨by omega, List.cons_eq_cons.2 ⟨by omega, List.cons_eq_cons.2 ⟨by omega, rfl⟩⟩⟩⟩⟩⟩⟩⟩
theorem sgn_in {u : Nat} (h : u < 18446744073709551616) : InI (sgn u) ∧ (sgn u % 18446744073709551616).toNat = u := by
  unfold sgn InI
  split <;> constructor <;> omega

theorem chunk1 (l : List Nat) (p : Nat) (h : ¬ l.length < p + 1) : ∃ x, l.drop p = [x] ++ l.drop (p + 1) ∧ (l.drop p).take 1 = [x] ∧ x ∈ l := by
  have hp : p < l.length := by omega
  refine ⟨l[p]'hp, ?_, ?_, List.getElem_mem _⟩
  · exact List.drop_eq_getElem_cons hp
  · rw [List.drop_eq_getElem_cons hp]; rfl
theorem chunk8 (l : List Nat) (p : Nat) (h : ¬ l.length < p + 8) : l.drop p = (l.drop p).take 8 ++ l.drop (p + 8) ∧ ((l.drop p).take 8).length = 8 := by
  refine ⟨?_, by rw [List.length_take, List.length_drop]; omega⟩
  rw [← List.drop_drop]
  exact (List.take_append_drop 8 _).symm
theorem rone_back (t : Int) (l : List Nat) (p q : Nat) (v : Vt) (hl : ∀ x ∈ l, x < 256) (h : rone t l p = (0, v, q)) :
    q ≤ l.length ∧ v.1 = t ∧ t ≠ 0 ∧ VCheck v.1 v.2.1 v.2.2 = 0 ∧ InI v.2.1 ∧ l.drop p = rv v.1 v.2.1 v.2.2 ++ l.drop q := by
  have hle := rone_le t l p (by rw [h])
  rw [h] at hle
  refine ⟨hle, ?_⟩
  by_cases ht : t < 1 ∨ 4 < t
  · have := rone_bad t l p ht; rw [h] at this; exact absurd this (by simp)
  by_cases hs : l.length < p + nby t
  · have := rone_short t l p ht hs; rw [h] at this; exact absurd this (by simp)
  have hc : t = 1 ∨ t = 2 ∨ t = 3 ∨ t = 4 := by omega
  rcases hc with rfl | rfl | rfl | rfl
  · obtain ⟨x, hd, h1, hx⟩ := chunk1 l p hs
    have hu : numL ((l.drop p).take 1) = x := by rw [h1]; rfl
    by_cases c : 1 < x
    · have := rone_1big l p x hs hu c; rw [h] at this; exact absurd this (by simp)
    · have h2 := rone_1 l p x hs hu c
      rw [h] at h2
      obtain ⟨-, h3⟩ := Prod.mk.inj h2
      obtain ⟨rfl, rfl⟩ := Prod.mk.inj h3
      refine ⟨rfl, by decide, vck_num (k := 1) (n := (x : Int)) (by decide) (by decide) ?_, by show InI (x : Int); unfold InI; omega, ?_⟩
      · have : x = 0 ∨ x = 1 := by omega
        rcases this with rfl | rfl <;> rfl
      · rw [hd]
        show _ = [((x : Int) % 256).toNat] ++ _
        rw [show ((x : Int) % 256).toNat = x by omega]
  · obtain ⟨hd, h8⟩ := chunk8 l p hs
    have hb : ∀ x ∈ (l.drop p).take 8, x < 256 := fun x hx => hl x (List.mem_of_mem_drop (List.mem_of_mem_take hx))
    have hlt := numL_lt _ hb
    rw [h8] at hlt
    have hn8 := le8_numL _ h8 hb
    obtain ⟨u, hu⟩ : ∃ u, numL ((l.drop p).take 8) = u := ⟨_, rfl⟩
    have h2 := rone_2 l p u hs hu
    rw [hu] at hlt hn8
    rw [h] at h2
    obtain ⟨-, h3⟩ := Prod.mk.inj h2
    obtain ⟨rfl, rfl⟩ := Prod.mk.inj h3
    obtain ⟨s1, s2⟩ := sgn_in (u := u) (by omega)
    refine ⟨rfl, by decide, vck_num (k := 2) (n := sgn u) (by decide) (by decide) rfl, s1, ?_⟩
    show _ = le8 (sgn u % 18446744073709551616).toNat ++ _
    rw [s2, hn8]
    exact hd
  · obtain ⟨hd, h8⟩ := chunk8 l p hs
    have hb : ∀ x ∈ (l.drop p).take 8, x < 256 := fun x hx => hl x (List.mem_of_mem_drop (List.mem_of_mem_take hx))
    have hlt := numL_lt _ hb
    rw [h8] at hlt
    have hn8 := le8_numL _ h8 hb
    obtain ⟨u, hu⟩ : ∃ u, numL ((l.drop p).take 8) = u := ⟨_, rfl⟩
    obtain ⟨s1, s2⟩ := sgn_in (u := u) (by rw [hu] at hlt; omega)
    by_cases hcan : PCanon (sgn u) = sgn u
    · have h2 := rone_3 l p u hs hu hcan
      rw [hu] at hlt hn8
      rw [h] at h2
      obtain ⟨-, h3⟩ := Prod.mk.inj h2
      obtain ⟨rfl, rfl⟩ := Prod.mk.inj h3
      refine ⟨rfl, by decide, vck_num (k := 3) (n := sgn u) (by decide) (by decide) (rgt3' s1 hcan.symm), s1, ?_⟩
      show _ = le8 (sgn u % 18446744073709551616).toNat ++ _
      rw [s2, hn8]
      exact hd
    · have := rone_3bad l p u hs hu hcan; rw [h] at this; exact absurd this (by simp)
  · obtain ⟨x, hd, h1, hx⟩ := chunk1 l p hs
    have hu : numL ((l.drop p).take 1) = x := by rw [h1]; rfl
    by_cases c : 200 < x
    · have := rone_4big l p x hs hu c; rw [h] at this; exact absurd this (by simp)
    by_cases c2 : l.length < p + 1 + x
    · have := rone_4short l p x hs hu c c2; rw [h] at this; exact absurd this (by simp)
    · have h2 := rone_4 l p x hs hu c c2
      rw [h] at h2
      obtain ⟨-, h3⟩ := Prod.mk.inj h2
      obtain ⟨rfl, rfl⟩ := Prod.mk.inj h3
      have hb : ∀ y ∈ (l.drop (p + 1)).take x, y < 256 := fun y hy => hl y (List.mem_of_mem_drop (List.mem_of_mem_take hy))
      have hsl := sl_strB hb
      have hln : ((l.drop (p + 1)).take x).length = x := by rw [List.length_take, List.length_drop]; omega
      have hsz : (strB ((l.drop (p + 1)).take x)).size = x := by rw [← sl_length, hsl, hln]
      refine ⟨rfl, by decide, vck_text (s := strB ((l.drop (p + 1)).take x)) (by omega), in00, ?_⟩
      show _ = [(strB ((l.drop (p + 1)).take x)).size % 256] ++ sl (strB ((l.drop (p + 1)).take x)) ++ _
      rw [hsl, hsz, show x % 256 = x by omega, hd, List.append_assoc, ← List.drop_drop (i := x), List.take_append_drop]

end Go.Proofs.Ytpknoclnmhomiab
