/-
  Tokens that are written are these tokens again (layer 12).
  Conditions: none.
-/
import Derived.Test.YtlhipnklljjahaaDoorLx6
namespace Go.Proofs.YtlhipnklljjahaaDoor
set_option maxRecDepth 100000
open Go.RowKit Go.Joins Go.ChangeShapes Go.WideShapes
set_option linter.unusedVariables false
set_option linter.unusedSimpArgs false

/-- a number's decimal digits -/
def digL (n : Nat) : List Nat := if n ≤ 9 then [48 + n] else digL (n / 10) ++ [48 + n % 10]
termination_by n
decreasing_by omega
theorem digL_small {n : Nat} (h : n ≤ 9) : digL n = [48 + n] := by rw [digL, if_pos h]
theorem digL_big {n : Nat} (h : ¬ n ≤ 9) : digL n = digL (n / 10) ++ [48 + n % 10] := by rw [digL, if_neg h]
theorem dg_iff (x : Nat) : dgL x = true ↔ 48 ≤ x ∧ x ≤ 57 := by
  unfold dgL
  simp only [Bool.and_eq_true, decide_eq_true_eq]
theorem digL_dg (n : Nat) : ∀ x ∈ digL n, dgL x = true := by
  induction n using Nat.strongRecOn with
  | _ n ih =>
    intro x hx
    by_cases h : n ≤ 9
    · rw [digL_small h] at hx
      rw [dg_iff]
      simp only [List.mem_singleton] at hx
      omega
    · rw [digL_big h] at hx
      rcases List.mem_append.1 hx with hx | hx
      · exact ih (n / 10) (by omega) x hx
      · rw [dg_iff]
        simp only [List.mem_singleton] at hx
        omega
theorem digL_pos (n : Nat) : 0 < (digL n).length := by
  by_cases h : n ≤ 9
  · rw [digL_small h]; simp
  · rw [digL_big h]; simp
theorem decL_snoc (l : List Nat) (x : Nat) : decL (l ++ [x]) = decL l * 10 + (x - 48) := by
  unfold decL
  rw [List.foldl_append]
  rfl
theorem decL_digL (n : Nat) : decL (digL n) = n := by
  induction n using Nat.strongRecOn with
  | _ n ih =>
    by_cases h : n ≤ 9
    · rw [digL_small h]
      show 0 * 10 + (48 + n - 48) = n
      omega
    · rw [digL_big h, decL_snoc, ih (n / 10) (by omega)]
      omega
theorem digL_len (k : Nat) : ∀ n, n < 10 ^ (k + 1) → (digL n).length ≤ k + 1 := by
  induction k with
  | zero =>
    intro n h
    rw [digL_small (by omega)]
    simp
  | succ k ih =>
    intro n h
    by_cases h9 : n ≤ 9
    · rw [digL_small h9]; simp
    · rw [digL_big h9, List.length_append]
      have : n / 10 < 10 ^ (k + 1) := by
        rw [Nat.pow_succ] at h
        omega
      have := ih (n / 10) this
      simp
      omega
theorem decF (l : List Nat) : ∀ acc, l.foldl (fun n c => n * 10 + (c - 48)) acc = acc * 10 ^ l.length + decL l := by
  induction l with
  | nil => intro acc; show acc = acc * 1 + 0; omega
  | cons c r ih =>
    intro acc
    show r.foldl _ (acc * 10 + (c - 48)) = acc * 10 ^ (r.length + 1) + r.foldl _ (0 * 10 + (c - 48))
    rw [ih, ih, Nat.pow_succ, Nat.add_mul, Nat.zero_mul, Nat.mul_assoc, Nat.mul_comm 10, Nat.zero_add, Nat.add_assoc]
theorem decL_cons (c : Nat) (r : List Nat) : decL (c :: r) = (c - 48) * 10 ^ r.length + decL r := by
  show r.foldl _ (0 * 10 + (c - 48)) = _
  rw [decF, Nat.zero_mul, Nat.zero_add]
theorem decL_lt : ∀ l : List Nat, (∀ x ∈ l, dgL x = true) → decL l < 10 ^ l.length
  | [], _ => by show 0 < 1; omega
  | c :: r, h => by
    have h1 := decL_lt r (fun x hx => h x (List.mem_cons_of_mem _ hx))
    have h2 := (dg_iff c).1 (h c (List.mem_cons_self ..))
    rw [decL_cons, List.length_cons, Nat.pow_succ]
    have h3 : (c - 48) * 10 ^ r.length ≤ 9 * 10 ^ r.length := Nat.mul_le_mul_right _ (by omega)
    omega
theorem decL_zeros (l : List Nat) : ∀ k, decL (List.replicate k 48 ++ l) = decL l
  | 0 => rfl
  | k + 1 => by
    show decL (48 :: (List.replicate k 48 ++ l)) = _
    rw [decL_cons, decL_zeros l k]
    simp
theorem runL_all1 {f : Nat → Bool} : ∀ l : List Nat, (∀ x ∈ l, f x = true) → runL f l = l.length
  | [], _ => rfl
  | c :: r, h => by
    rw [runL_cons, if_pos (h c (List.mem_cons_self ..)), runL_all1 r (fun x hx => h x (List.mem_cons_of_mem _ hx))]
    rfl
theorem runL_stop {f : Nat → Bool} {c : Nat} (hf : f c = false) (r : List Nat) : ∀ l : List Nat, (∀ x ∈ l, f x = true) → runL f (l ++ c :: r) = l.length
  | [], _ => by show runL f (c :: r) = 0; rw [runL_cons, hf]; rfl
  | d :: l, h => by
    show runL f (d :: (l ++ c :: r)) = _
    rw [runL_cons, if_pos (h d (List.mem_cons_self ..)), runL_stop hf r l (fun x hx => h x (List.mem_cons_of_mem _ hx))]
    rfl
theorem runL_in {f : Nat → Bool} : ∀ (l : List Nat) (x : Nat), x ∈ l.take (runL f l) → f x = true
  | [], x, h => by simp at h
  | c :: r, x, h => by
    rw [runL_cons] at h
    cases hc : f c with
    | false => rw [hc] at h; simp at h
    | true =>
      rw [hc, if_pos rfl, List.take_succ_cons] at h
      rcases List.mem_cons.1 h with e | e
      · rw [e]; exact hc
      · exact runL_in r x e

/-! tokens that are written -/
def escL : List Nat → List Nat
  | [] => []
  | c :: r => if c = 39 then 39 :: 39 :: escL r else c :: escL r
def padL (n sc : Nat) : List Nat := List.replicate (sc + 1 - (digL n).length) 48 ++ digL n
/-- a token as it can be written -/
def wordT (t : Tk) : List Nat :=
  if t.kind = 2 then digL t.num
  else if t.kind = 3 then (padL t.num t.scale).take ((padL t.num t.scale).length - t.scale) ++ 46 :: (padL t.num t.scale).drop ((padL t.num t.scale).length - t.scale)
  else if t.kind = 4 then 39 :: (escL t.text ++ [39])
  else t.text
/-- written, it is this token again -/
def GoodT (t : Tk) : Prop := tokL (wordT t) = .ok (t, (wordT t).length)
theorem low_bw (c : Nat) (h : bwL c = true) : bwL (lowL c) = true := by
  unfold lowL
  by_cases q : cpL c = true
  · rw [if_pos q]
    unfold cpL at q
    unfold bwL smL
    simp only [Bool.or_eq_true, Bool.and_eq_true, decide_eq_true_eq, beq_iff_eq] at q ⊢
    omega
  · rw [if_neg q]; exact h
theorem low_iw (c : Nat) (h : iwL c = true) : iwL (lowL c) = true := by
  unfold iwL at h ⊢
  cases hb : bwL c with
  | true => rw [low_bw c hb]; rfl
  | false =>
    rw [hb] at h
    have h2 := (dg_iff c).1 h
    have : lowL c = c := by
      unfold lowL cpL
      rw [if_neg]
      simp only [Bool.and_eq_true, decide_eq_true_eq]
      omega
    rw [this, hb]
    exact h
theorem low_low (c : Nat) : lowL (lowL c) = lowL c := by
  by_cases q : cpL c = true
  · have e : lowL c = c + 32 := if_pos q
    rw [e]
    unfold lowL
    rw [if_neg]
    unfold cpL at q ⊢
    simp only [Bool.and_eq_true, decide_eq_true_eq] at q ⊢
    omega
  · have e : lowL c = c := if_neg q
    rw [e, e]
theorem good_word (c : Nat) (r : List Nat) (hb : bwL c = true) (h32 : ¬ runL iwL (c :: r) > 32) : GoodT ⟨1, ((c :: r).take (runL iwL (c :: r))).map lowL, 0, 0⟩ := by
  have hp : runL iwL (c :: r) = runL iwL r + 1 := by rw [runL_cons, if_pos (by unfold iwL; rw [hb]; rfl)]
  have hall : ∀ x ∈ ((c :: r).take (runL iwL (c :: r))).map lowL, iwL x = true := by
    intro x hx
    obtain ⟨y, hy, rfl⟩ := List.mem_map.1 hx
    exact low_iw y (runL_in _ _ hy)
  have hlen : (((c :: r).take (runL iwL (c :: r))).map lowL).length = runL iwL (c :: r) := by
    rw [List.length_map, List.length_take]
    have := runL_le iwL (c :: r)
    omega
  have hmap : (((c :: r).take (runL iwL (c :: r))).map lowL).map lowL = ((c :: r).take (runL iwL (c :: r))).map lowL := by
    rw [List.map_map]
    exact List.map_congr_left fun x _ => low_low x
  unfold GoodT
  show tokL (((c :: r).take (runL iwL (c :: r))).map lowL) = .ok (_, (((c :: r).take (runL iwL (c :: r))).map lowL).length)
  have hrun := runL_all1 _ hall
  rw [hlen] at hrun
  obtain ⟨s, hs⟩ : ∃ s, ((c :: r).take (runL iwL (c :: r))).map lowL = lowL c :: s := by
    rw [hp, List.take_succ_cons]
    exact ⟨_, rfl⟩
  rw [hlen]
  generalize ((c :: r).take (runL iwL (c :: r))).map lowL = T at *
  subst hs
  rw [tokL_cons]
  unfold tokC
  rw [if_pos (low_bw c hb), hrun, if_neg h32, List.take_of_length_le (by omega), hmap]
theorem dg_nbw {c : Nat} (h : dgL c = true) : bwL c = false := by
  have h := (dg_iff c).1 h
  cases hb : bwL c with
  | false => rfl
  | true =>
    unfold bwL smL cpL at hb
    simp only [Bool.or_eq_true, Bool.and_eq_true, decide_eq_true_eq, beq_iff_eq] at hb
    omega
theorem good_int (n : Nat) (h : n ≤ 9223372036854775807) : GoodT ⟨2, [], n, 0⟩ := by
  unfold GoodT
  show tokL (digL n) = .ok (_, (digL n).length)
  have hd := digL_dg n
  have hl := digL_len 18 n (by omega)
  have hv := decL_digL n
  have hrun := runL_all1 _ hd
  have hp := digL_pos n
  generalize digL n = D at *
  cases D with
  | nil => simp at hp
  | cons c r =>
    have hc := hd c (List.mem_cons_self ..)
    rw [tokL_cons]
    unfold tokC
    rw [dg_nbw hc, if_neg (by decide), if_pos hc, hrun, List.drop_length, if_neg (by decide), List.take_length, hv, if_neg (by omega)]
theorem good_real (g f : List Nat) (hg : ∀ x ∈ g, dgL x = true) (hf : ∀ x ∈ f, dgL x = true) (hg0 : 0 < g.length) (hf0 : 0 < f.length) (h15 : ¬ g.length + f.length > 15) : GoodT ⟨3, [], decL (g ++ f), f.length⟩ := by
  have hb : decL (g ++ f) < 10 ^ (14 + 1) := by
    have := decL_lt (g ++ f) (fun x hx => by
      rcases List.mem_append.1 hx with h | h
      · exact hg x h
      · exact hf x h)
    rw [List.length_append] at this
    exact Nat.lt_of_lt_of_le this (Nat.pow_le_pow_right (by omega) (by omega))
  have hf14 : f.length ≤ 14 := by omega
  have hl := digL_len 14 _ hb
  generalize decL (g ++ f) = n at *
  generalize f.length = sc at *
  unfold GoodT
  show tokL ((padL n sc).take ((padL n sc).length - sc) ++ 46 :: (padL n sc).drop ((padL n sc).length - sc)) = .ok (_, ((padL n sc).take ((padL n sc).length - sc) ++ 46 :: (padL n sc).drop ((padL n sc).length - sc)).length)
  have hD : decL (padL n sc) = n := by unfold padL; rw [decL_zeros, decL_digL]
  have hdg : ∀ x ∈ padL n sc, dgL x = true := by
    intro x hx
    unfold padL at hx
    rcases List.mem_append.1 hx with h | h
    · rw [List.eq_of_mem_replicate h]; rfl
    · exact digL_dg n x h
  have hle : sc + 1 ≤ (padL n sc).length ∧ (padL n sc).length ≤ 15 := by
    unfold padL
    rw [List.length_append, List.length_replicate]
    omega
  generalize padL n sc = D at *
  obtain ⟨hle1, hle2⟩ := hle
  have hPQ := List.take_append_drop (D.length - sc) D
  have hP : (D.take (D.length - sc)).length = D.length - sc := by rw [List.length_take]; omega
  have hQ : (D.drop (D.length - sc)).length = sc := by rw [List.length_drop]; omega
  have hPd : ∀ x ∈ D.take (D.length - sc), dgL x = true := fun x hx => hdg x (List.mem_of_mem_take hx)
  have hQd : ∀ x ∈ D.drop (D.length - sc), dgL x = true := fun x hx => hdg x (List.mem_of_mem_drop hx)
  generalize D.take (D.length - sc) = P at *
  generalize D.drop (D.length - sc) = Q at *
  cases P with
  | nil => simp at hP; omega
  | cons c r =>
    cases Q with
    | nil => simp at hQ; omega
    | cons d q =>
      have hc := hPd c (List.mem_cons_self ..)
      have hd := hQd d (List.mem_cons_self ..)
      have e1 : runL dgL ((c :: r) ++ 46 :: (d :: q)) = (c :: r).length := runL_stop (by rfl) _ _ hPd
      have e2 : ((c :: r) ++ 46 :: (d :: q)).drop (c :: r).length = 46 :: (d :: q) := by rw [List.drop_append, List.drop_length, Nat.sub_self]; rfl
      have e3 : ((c :: r) ++ 46 :: (d :: q)).drop ((c :: r).length + 1) = d :: q := by
        rw [← List.drop_drop, e2]; rfl
      have e4 : ((c :: r) ++ 46 :: (d :: q)).take (c :: r).length = c :: r := by rw [List.take_append, List.take_length, Nat.sub_self]; simp
      have e5 : runL dgL (d :: q) = (d :: q).length := runL_all1 _ hQd
      have hap : (c :: r) ++ 46 :: (d :: q) = c :: (r ++ 46 :: (d :: q)) := rfl
      have hlen : (c :: (r ++ 46 :: (d :: q))).length = (c :: r).length + 1 + (d :: q).length := by simp; omega
      rw [hap] at e1 e2 e3 e4
      rw [hap, tokL_cons, hlen]
      unfold tokC
      rw [dg_nbw hc, if_neg (by decide), if_pos hc, e1, e2, if_pos (show ((46 : Nat) == 46 && dgL d) = true by rw [hd]; rfl), e3, e5, if_neg (by rw [hP, hQ]; omega), e4, List.take_length, hPQ, hD, hQ]
theorem textL_esc : ∀ s : List Nat, textL (escL s ++ [39]) = some (s, (escL s).length + 1)
  | [] => by simp [escL, textL]
  | c :: r => by
    have ih := textL_esc r
    by_cases h : c = 39
    · subst h
      show textL (39 :: 39 :: (escL r ++ [39])) = some (39 :: r, (39 :: 39 :: escL r).length + 1)
      rw [textL.eq_def]
      simp only [if_true]
      rw [ih]
      rfl
    · have e : escL (c :: r) = c :: escL r := by show (if c = 39 then _ else _) = _; rw [if_neg h]
      rw [e]
      show textL (c :: (escL r ++ [39])) = some (c :: r, (c :: escL r).length + 1)
      rw [textL.eq_def]
      simp only [h, if_false]
      rw [ih]
      rfl
theorem good_text (s : List Nat) (h : ¬ s.length > 200) : GoodT ⟨4, s, 0, 0⟩ := by
  unfold GoodT
  show tokL (39 :: (escL s ++ [39])) = .ok (_, (39 :: (escL s ++ [39])).length)
  rw [tokL_cons]
  unfold tokC
  rw [show bwL 39 = false from rfl, if_neg (by decide), show dgL 39 = false from rfl, if_neg (by decide), if_pos rfl, textL_esc]
  simp only
  rw [if_neg h]
  congr 2
  simp
theorem good_sign (c : Nat) (r : List Nat) (h1 : ¬ bwL c = true) (h2 : ¬ dgL c = true) (h3 : ¬ c = 39) (h4 : ¬ signL (c :: r) = 0) : GoodT ⟨5, (c :: r).take (signL (c :: r)), 0, 0⟩ := by
  unfold GoodT
  show tokL ((c :: r).take (signL (c :: r))) = .ok (_, ((c :: r).take (signL (c :: r))).length)
  have key : ∃ s, (c :: r).take (signL (c :: r)) = c :: s ∧ signL (c :: s) = (c :: s).length := by
    cases r with
    | nil =>
      unfold signL at h4 ⊢
      simp only [Bool.false_eq_true, if_false] at h4 ⊢
      split at h4
      · next q => exact ⟨[], by rw [if_pos q]; rfl, by rw [if_pos q]; rfl⟩
      · exact absurd rfl h4
    | cons d r =>
      have e : ∀ s, signL (c :: d :: s) = if ((c == 60 && d == 62) || (c == 60 && d == 61) || (c == 62 && d == 61) || (c == 124 && d == 124)) = true then 2 else if [40, 41, 44, 46, 42, 43, 45, 47, 37, 61, 60, 62].contains c then 1 else 0 := fun s => rfl
      rw [e] at h4
      rw [e]
      by_cases q : ((c == 60 && d == 62) || (c == 60 && d == 61) || (c == 62 && d == 61) || (c == 124 && d == 124)) = true
      · exact ⟨[d], by rw [if_pos q]; rfl, by rw [e, if_pos q]; rfl⟩
      · rw [if_neg q] at h4 ⊢
        split at h4
        · next q2 =>
          refine ⟨[], by rw [if_pos q2]; rfl, ?_⟩
          unfold signL
          simp only [Bool.false_eq_true, if_false]
          rw [if_pos q2]; rfl
        · exact absurd rfl h4
  obtain ⟨s, hs, hl⟩ := key
  rw [hs, tokL_cons]
  unfold tokC
  rw [if_neg h1, if_neg h2, if_neg h3, hl, if_neg (by simp), List.take_length]
theorem good_tok (l : List Nat) (t : Tk) (k : Nat) (h : tokL l = .ok (t, k)) : GoodT t := by
  cases l with
  | nil => simp [tokL] at h
  | cons c r =>
    rw [tokL_cons] at h
    rw [tokC_eq] at h
    split at h
    · next q1 =>
      split at h
      · cases h
      · next q2 =>
        injection h with h
        injection h with h1 h2
        subst h1
        exact good_word c r q1 q2
    · next q1 =>
      split at h
      · next q2 =>
        have hg := runL_in (f := dgL) (c :: r)
        have hgl := runL_le dgL (c :: r)
        have hg0 : 0 < runL dgL (c :: r) := by rw [runL_cons, if_pos q2]; omega
        have hf0 : fracL ((c :: r).drop (runL dgL (c :: r))) = true → 0 < runL dgL ((c :: r).drop (runL dgL (c :: r) + 1)) := by
          intro q3
          rw [← List.drop_drop]
          cases hd : (c :: r).drop (runL dgL (c :: r)) with
          | nil => rw [hd] at q3; cases q3
          | cons p s =>
            rw [hd] at q3
            cases s with
            | nil => cases q3
            | cons d s =>
              have q3 : (p == 46 && dgL d) = true := q3
              simp only [Bool.and_eq_true] at q3
              show 0 < runL dgL (d :: s)
              rw [runL_cons, if_pos q3.2]
              omega
        generalize fracL ((c :: r).drop (runL dgL (c :: r))) = cnd at h hf0
        cases cnd with
        | true =>
          rw [if_pos rfl] at h
          split at h
          · cases h
          · next q4 =>
            injection h with h
            injection h with h1 h2
            subst h1
            have hfl := runL_le dgL ((c :: r).drop (runL dgL (c :: r) + 1))
            have hf := runL_in (f := dgL) ((c :: r).drop (runL dgL (c :: r) + 1))
            have e1 : ((c :: r).take (runL dgL (c :: r))).length = runL dgL (c :: r) := by rw [List.length_take]; omega
            have e2 : (((c :: r).drop (runL dgL (c :: r) + 1)).take (runL dgL ((c :: r).drop (runL dgL (c :: r) + 1)))).length = runL dgL ((c :: r).drop (runL dgL (c :: r) + 1)) := by rw [List.length_take]; omega
            have := good_real _ _ hg hf (by rw [e1]; exact hg0) (by rw [e2]; exact hf0 rfl) (by rw [e1, e2]; exact q4)
            rw [e2] at this
            exact this
        | false =>
          rw [if_neg (by decide)] at h
          split at h
          · cases h
          · next q4 =>
            injection h with h
            injection h with h1 h2
            subst h1
            exact good_int _ (by omega)
      · next q2 =>
        split at h
        · next q3 =>
          split at h
          · cases h
          · split at h
            · cases h
            · next q4 =>
              injection h with h
              injection h with h1 h2
              subst h1
              exact good_text _ q4
        · next q3 =>
          split at h
          · cases h
          · next q4 =>
            injection h with h
            injection h with h1 h2
            subst h1
            exact good_sign c r q1 q2 q3 q4
theorem lexGo_good : ∀ (n : Nat) (l : List Nat) (ts : List Tk), lexGo n l = .ok ts → ∀ t ∈ ts, GoodT t
  | 0, l, ts, h => by
    simp only [lexGo, Except.ok.injEq] at h
    subst h
    intro t ht
    simp at ht
  | n + 1, l, ts, h => by
    rw [lexGo_succ] at h
    split at h
    · injection h with h
      subst h
      intro t ht
      simp at ht
    · next c r hd =>
      split at h
      · cases h
      · next t k ht =>
        split at h
        · cases h
        · next us hu =>
          injection h with h
          subst h
          intro x hx
          rcases List.mem_cons.1 hx with e | e
          · rw [e]; exact good_tok _ _ _ ht
          · exact lexGo_good n _ _ hu x e
theorem lexL_good (l : List Nat) (ts : List Tk) (h : lexL l = .ok ts) : ∀ t ∈ ts, GoodT t := lexGo_good _ _ _ h
theorem lexL_one {t : Tk} (h : GoodT t) : lexL (wordT t) = .ok [t] := by
  unfold GoodT at h
  unfold lexL
  cases hw : wordT t with
  | nil => rw [hw] at h; simp [tokL] at h
  | cons c r =>
    rw [hw] at h
    have hb : blL c = false := by
      cases hb : blL c with
      | false => rfl
      | true =>
        rw [tokL_cons] at h
        have h0 : tokC c r (c :: r) = .error 120 := by
          unfold tokC
          rw [if_neg, if_neg, if_neg, if_pos]
          · rcases blk_cases hb with rfl | rfl | rfl | rfl <;> cases r <;> rfl
          · rcases blk_cases hb with rfl | rfl | rfl | rfl <;> decide
          · rcases blk_cases hb with rfl | rfl | rfl | rfl <;> decide
          · rcases blk_cases hb with rfl | rfl | rfl | rfl <;> decide
        rw [h0] at h
        cases h
    have h0 : runL blL (c :: r) = 0 := by rw [runL_cons, hb]; rfl
    rw [List.length_cons, lexGo_succ, h0, List.drop_zero]
    simp only
    rw [h]
    simp only
    rw [List.drop_length]
    rfl
/-- tokens written one behind the other, with a blank ahead of each -/
theorem lexL_words {e : Nat} (he : blL e = true) : ∀ ts : List Tk, (∀ t ∈ ts, GoodT t) → lexL (ts.flatMap fun t => e :: wordT t) = .ok ts
  | [], _ => rfl
  | t :: ts, h => by
    have ih := lexL_words he ts (fun x hx => h x (List.mem_cons_of_mem _ hx))
    have h1 := lexL_one (h t (List.mem_cons_self ..))
    have e1 : ((t :: ts).flatMap fun t => e :: wordT t) = [] ++ e :: (wordT t ++ ts.flatMap fun t => e :: wordT t) := by simp
    rw [e1, lexL_join he [] _ [] rfl]
    cases ts with
    | nil =>
      simp only [List.flatMap_nil, List.append_nil, h1]
      rfl
    | cons u us =>
      have e2 : ((u :: us).flatMap fun t => e :: wordT t) = e :: (wordT u ++ us.flatMap fun t => e :: wordT t) := by simp
      have h2 : lexL (e :: (wordT u ++ us.flatMap fun t => e :: wordT t)) = (match lexL (wordT u ++ us.flatMap fun t => e :: wordT t) with | .error er => .error er | .ok us => .ok ([] ++ us)) := lexL_join he [] _ [] rfl
      rw [e2, h2] at ih
      rw [e2, lexL_join he (wordT t) _ [t] h1]
      cases hx : lexL (wordT u ++ us.flatMap fun t => e :: wordT t) with
      | error er => rw [hx] at ih; simp at ih
      | ok vs =>
        rw [hx] at ih
        simp at ih
        subst ih
        rfl

end Go.Proofs.YtlhipnklljjahaaDoor
