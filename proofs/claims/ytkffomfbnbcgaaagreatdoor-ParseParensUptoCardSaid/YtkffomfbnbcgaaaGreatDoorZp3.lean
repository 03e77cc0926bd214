/-
  Texts of mine put together, in build order.
  Conditions: as each declaration says.
-/
import Derived.ArgAppend
import Derived.Laws.AppendOwnNone
import Derived.Lib.AppendZeros
import Derived.Lib.SliceRun
import Derived.Test.YtkffomfbnbcgaaaGreatDoorZp2
namespace Go.Proofs.YtkffomfbnbcgaaaGreatDoor
set_option maxRecDepth 100000
open Go.RowKit Go.Joins Go.ChangeShapes Go.WideShapes
set_option linter.unusedVariables false
set_option linter.unusedSimpArgs false

theorem lexGo_succ (n : Nat) (l : List Nat) : lexGo (n + 1) l = (match l.drop (runL blL l) with
    | [] => .ok []
    | c :: r => match tokL (c :: r) with
      | .error er => .error er
      | .ok (t, k) => match lexGo n ((c :: r).drop k) with
        | .error er => .error er
        | .ok ts => .ok (t :: ts)) := rfl
/-- once there is fuel enough, more of it changes nothing -/
theorem lexGo_fuel : ∀ (n m : Nat) (l : List Nat), l.length < n → l.length < m → lexGo n l = lexGo m l
  | 0, _, l, h, _ => by omega
  | _ + 1, 0, l, _, h => by omega
  | n + 1, m + 1, l, hn, hm => by
    rw [lexGo_succ, lexGo_succ]
    have hl : (l.drop (runL blL l)).length ≤ l.length := by rw [List.length_drop]; omega
    generalize l.drop (runL blL l) = d at hl ⊢
    cases d with
    | nil => rfl
    | cons c r =>
      simp only
      cases ht : tokL (c :: r) with
      | error er => rfl
      | ok x =>
        obtain ⟨t, k⟩ := x
        obtain ⟨_, h2, h3⟩ := tokL_app (e := 32) rfl [] (c :: r) t k ht
        have hd : ((c :: r).drop k).length < (c :: r).length := by rw [List.length_drop]; omega
        simp only
        rw [lexGo_fuel n m ((c :: r).drop k) (by omega) (by omega)]
theorem lexL_eq (n : Nat) (l : List Nat) (h : l.length < n) : lexGo n l = lexL l := lexGo_fuel n (l.length + 1) l h (by omega)

theorem blank_all {e : Nat} (he : blL e = true) (b : List Nat) : ∀ l, l.drop (runL blL l) = [] → (l ++ e :: b).drop (runL blL (l ++ e :: b)) = b.drop (runL blL b)
  | [], _ => by
    show (e :: b).drop (runL blL (e :: b)) = _
    rw [runL_cons, if_pos he]; rfl
  | c :: r, h => by
    rw [runL_cons] at h
    show (c :: (r ++ e :: b)).drop (runL blL (c :: (r ++ e :: b))) = _
    rw [runL_cons]
    cases hc : blL c with
    | false => rw [hc] at h; simp at h
    | true =>
      rw [hc, if_pos rfl] at h
      rw [if_pos rfl, List.drop_succ_cons]
      rw [List.drop_succ_cons] at h
      exact blank_all he b r h
theorem blank_some {e : Nat} (he : blL e = true) (b : List Nat) : ∀ (l : List Nat) (c : Nat) (s : List Nat), l.drop (runL blL l) = c :: s → (l ++ e :: b).drop (runL blL (l ++ e :: b)) = (c :: s) ++ e :: b
  | [], c, s, h => by simp at h
  | c :: r, d, s, h => by
    rw [runL_cons] at h
    show (c :: (r ++ e :: b)).drop (runL blL (c :: (r ++ e :: b))) = _
    rw [runL_cons]
    cases hc : blL c with
    | false =>
      rw [hc, if_neg (by decide), List.drop_zero] at h
      rw [if_neg (by decide), List.drop_zero, ← h]; rfl
    | true =>
      rw [hc, if_pos rfl, List.drop_succ_cons] at h
      rw [if_pos rfl, List.drop_succ_cons]
      exact blank_some he b r d s h
/-- two texts with a blank between them -/
theorem lexGo_join {e : Nat} (he : blL e = true) (b : List Nat) : ∀ (n m : Nat) (l : List Nat) (ts : List Tk), l.length < n → (l ++ e :: b).length < m → lexGo n l = .ok ts →
    lexGo m (l ++ e :: b) = (match lexL b with | .error er => .error er | .ok us => .ok (ts ++ us))
  | 0, _, l, ts, h, _, _ => by omega
  | _ + 1, 0, l, ts, _, h, _ => by omega
  | n + 1, m + 1, l, ts, hn, hm, h => by
    rw [lexGo_succ] at h
    cases hd : l.drop (runL blL l) with
    | nil =>
      rw [hd] at h
      simp only [Except.ok.injEq] at h
      subst h
      have hb := blank_all he b l hd
      have : b.length < m + 1 := by rw [List.length_append, List.length_cons] at hm; omega
      rw [← lexL_eq (m + 1) b this, lexGo_succ, lexGo_succ, hb]
      generalize b.drop (runL blL b) = x
      cases x with
      | nil => rfl
      | cons c r =>
        simp only
        cases tokL (c :: r) with
        | error er => rfl
        | ok y =>
          simp only
          cases lexGo m ((c :: r).drop y.2) <;> rfl
    | cons c s =>
      rw [hd] at h
      have hb := blank_some he b l c s hd
      rw [lexGo_succ, hb]
      simp only at h
      have hl : (c :: s).length ≤ l.length := by rw [← hd, List.length_drop]; omega
      cases ht : tokL (c :: s) with
      | error er => rw [ht] at h; simp at h
      | ok x =>
        obtain ⟨t, k⟩ := x
        obtain ⟨h1, h2, h3⟩ := tokL_app he b (c :: s) t k ht
        rw [ht] at h
        simp only at h
        cases hg : lexGo n ((c :: s).drop k) with
        | error er => rw [hg] at h; simp at h
        | ok us =>
          rw [hg] at h
          simp only [Except.ok.injEq] at h
          subst h
          have hk : ((c :: s).drop k).length < (c :: s).length := by rw [List.length_drop]; omega
          have ih := lexGo_join he b n m ((c :: s).drop k) us (by omega) (by
            rw [List.length_append] at hm ⊢
            omega) hg
          have e0 : (match (c :: s) ++ e :: b with
            | [] => Except.ok []
            | c :: r => match tokL (c :: r) with
              | .error er => .error er
              | .ok (t, k) => match lexGo m ((c :: r).drop k) with
                | .error er => .error er
                | .ok ts => .ok (t :: ts)) = (match tokL ((c :: s) ++ e :: b) with
            | .error er => Except.error (ε := Nat) (α := List Tk) er
            | .ok (t, k) => match lexGo m (((c :: s) ++ e :: b).drop k) with
              | .error er => .error er
              | .ok ts => .ok (t :: ts)) := rfl
          rw [e0]
          rw [h1]
          simp only
          rw [drop_app (c :: s) (e :: b) k h2, ih]
          cases lexL b <;> rfl
theorem lexL_join {e : Nat} (he : blL e = true) (a b : List Nat) (ts : List Tk) (h : lexL a = .ok ts) : lexL (a ++ e :: b) = (match lexL b with | .error er => .error er | .ok us => .ok (ts ++ us)) :=
  lexGo_join he b (a.length + 1) _ a ts (by omega) (by omega) h

end Go.Proofs.YtkffomfbnbcgaaaGreatDoor

namespace Go.Proofs.YtkffomfbnbcgaaaGreatDoor
set_option maxRecDepth 100000
open Go.RowKit Go.Joins Go.ChangeShapes Go.WideShapes
set_option linter.unusedVariables false
set_option linter.unusedSimpArgs false

/-- a number's decimal digits -/
def digL (n : Nat) : List Nat := if n ≤ 9 then [48 + n] else digL (n / 10) ++ [48 + n % 10]
termination_by n
decreasing_by omega
theorem digL_small {n : Nat} (h : n ≤ 9) : digL n = [48 + n] := by rw [digL, if_pos h]
theorem digL_big {n : Nat} (h : ¬ n ≤ 9) : digL n = digL (n / 10) ++ [48 + n % 10] := by rw [digL, if_neg h]
theorem dg_iff (x : Nat) : dgL x = true ↔ 48 ≤ x ∧ x ≤ 57 := by
  unfold dgL
  simp only [Bool.and_eq_true, decide_eq_true_eq]
theorem digL_dg (n : Nat) : ∀ x ∈ digL n, dgL x = true := by
  induction n using Nat.strongRecOn with
  | _ n ih =>
    intro x hx
    by_cases h : n ≤ 9
    · rw [digL_small h] at hx
      rw [dg_iff]
      simp only [List.mem_singleton] at hx
      omega
    · rw [digL_big h] at hx
      rcases List.mem_append.1 hx with hx | hx
      · exact ih (n / 10) (by omega) x hx
      · rw [dg_iff]
        simp only [List.mem_singleton] at hx
        omega
theorem digL_pos (n : Nat) : 0 < (digL n).length := by
  by_cases h : n ≤ 9
  · rw [digL_small h]; simp
  · rw [digL_big h]; simp
theorem decL_snoc (l : List Nat) (x : Nat) : decL (l ++ [x]) = decL l * 10 + (x - 48) := by
  unfold decL
  rw [List.foldl_append]
  rfl
theorem decL_digL (n : Nat) : decL (digL n) = n := by
  induction n using Nat.strongRecOn with
  | _ n ih =>
    by_cases h : n ≤ 9
    · rw [digL_small h]
      show 0 * 10 + (48 + n - 48) = n
      omega
    · rw [digL_big h, decL_snoc, ih (n / 10) (by omega)]
      omega
theorem digL_len (k : Nat) : ∀ n, n < 10 ^ (k + 1) → (digL n).length ≤ k + 1 := by
  induction k with
  | zero =>
    intro n h
    rw [digL_small (by omega)]
    simp
  | succ k ih =>
    intro n h
    by_cases h9 : n ≤ 9
    · rw [digL_small h9]; simp
    · rw [digL_big h9, List.length_append]
      have : n / 10 < 10 ^ (k + 1) := by
        rw [Nat.pow_succ] at h
        omega
      have := ih (n / 10) this
      simp
      omega
theorem decF (l : List Nat) : ∀ acc, l.foldl (fun n c => n * 10 + (c - 48)) acc = acc * 10 ^ l.length + decL l := by
  induction l with
  | nil => intro acc; show acc = acc * 1 + 0; omega
  | cons c r ih =>
    intro acc
    show r.foldl _ (acc * 10 + (c - 48)) = acc * 10 ^ (r.length + 1) + r.foldl _ (0 * 10 + (c - 48))
    rw [ih, ih, Nat.pow_succ, Nat.add_mul, Nat.zero_mul, Nat.mul_assoc, Nat.mul_comm 10, Nat.zero_add, Nat.add_assoc]
theorem decL_cons (c : Nat) (r : List Nat) : decL (c :: r) = (c - 48) * 10 ^ r.length + decL r := by
  show r.foldl _ (0 * 10 + (c - 48)) = _
  rw [decF, Nat.zero_mul, Nat.zero_add]
theorem decL_lt : ∀ l : List Nat, (∀ x ∈ l, dgL x = true) → decL l < 10 ^ l.length
  | [], _ => by show 0 < 1; omega
  | c :: r, h => by
    have h1 := decL_lt r (fun x hx => h x (List.mem_cons_of_mem _ hx))
    have h2 := (dg_iff c).1 (h c (List.mem_cons_self ..))
    rw [decL_cons, List.length_cons, Nat.pow_succ]
    have h3 : (c - 48) * 10 ^ r.length ≤ 9 * 10 ^ r.length := Nat.mul_le_mul_right _ (by omega)
    omega
theorem decL_zeros (l : List Nat) : ∀ k, decL (List.replicate k 48 ++ l) = decL l
  | 0 => rfl
  | k + 1 => by
    show decL (48 :: (List.replicate k 48 ++ l)) = _
    rw [decL_cons, decL_zeros l k]
    simp
theorem runL_all1 {f : Nat → Bool} : ∀ l : List Nat, (∀ x ∈ l, f x = true) → runL f l = l.length
  | [], _ => rfl
  | c :: r, h => by
    rw [runL_cons, if_pos (h c (List.mem_cons_self ..)), runL_all1 r (fun x hx => h x (List.mem_cons_of_mem _ hx))]
    rfl
theorem runL_stop {f : Nat → Bool} {c : Nat} (hf : f c = false) (r : List Nat) : ∀ l : List Nat, (∀ x ∈ l, f x = true) → runL f (l ++ c :: r) = l.length
  | [], _ => by show runL f (c :: r) = 0; rw [runL_cons, hf]; rfl
  | d :: l, h => by
    show runL f (d :: (l ++ c :: r)) = _
    rw [runL_cons, if_pos (h d (List.mem_cons_self ..)), runL_stop hf r l (fun x hx => h x (List.mem_cons_of_mem _ hx))]
    rfl
theorem runL_in {f : Nat → Bool} : ∀ (l : List Nat) (x : Nat), x ∈ l.take (runL f l) → f x = true
  | [], x, h => by simp at h
  | c :: r, x, h => by
    rw [runL_cons] at h
    cases hc : f c with
    | false => rw [hc] at h; simp at h
    | true =>
      rw [hc, if_pos rfl, List.take_succ_cons] at h
      rcases List.mem_cons.1 h with e | e
      · rw [e]; exact hc
      · exact runL_in r x e

/-! tokens that are written -/
def escL : List Nat → List Nat
  | [] => []
  | c :: r => if c = 39 then 39 :: 39 :: escL r else c :: escL r
def padL (n sc : Nat) : List Nat := List.replicate (sc + 1 - (digL n).length) 48 ++ digL n
/-- a token as it can be written -/
def wordT (t : Tk) : List Nat :=
  if t.kind = 2 then digL t.num
  else if t.kind = 3 then (padL t.num t.scale).take ((padL t.num t.scale).length - t.scale) ++ 46 :: (padL t.num t.scale).drop ((padL t.num t.scale).length - t.scale)
  else if t.kind = 4 then 39 :: (escL t.text ++ [39])
  else t.text
/-- written, it is this token again -/
def GoodT (t : Tk) : Prop := tokL (wordT t) = .ok (t, (wordT t).length)
theorem low_bw (c : Nat) (h : bwL c = true) : bwL (lowL c) = true := by
  unfold lowL
  by_cases q : cpL c = true
  · rw [if_pos q]
    unfold cpL at q
    unfold bwL smL
    simp only [Bool.or_eq_true, Bool.and_eq_true, decide_eq_true_eq, beq_iff_eq] at q ⊢
    omega
  · rw [if_neg q]; exact h
theorem low_iw (c : Nat) (h : iwL c = true) : iwL (lowL c) = true := by
  unfold iwL at h ⊢
  cases hb : bwL c with
  | true => rw [low_bw c hb]; rfl
  | false =>
    rw [hb] at h
    have h2 := (dg_iff c).1 h
    have : lowL c = c := by
      unfold lowL cpL
      rw [if_neg]
      simp only [Bool.and_eq_true, decide_eq_true_eq]
      omega
    rw [this, hb]
    exact h
theorem low_low (c : Nat) : lowL (lowL c) = lowL c := by
  by_cases q : cpL c = true
  · have e : lowL c = c + 32 := if_pos q
    rw [e]
    unfold lowL
    rw [if_neg]
    unfold cpL at q ⊢
    simp only [Bool.and_eq_true, decide_eq_true_eq] at q ⊢
    omega
  · have e : lowL c = c := if_neg q
    rw [e, e]
theorem good_word (c : Nat) (r : List Nat) (hb : bwL c = true) (h32 : ¬ runL iwL (c :: r) > 32) : GoodT ⟨1, ((c :: r).take (runL iwL (c :: r))).map lowL, 0, 0⟩ := by
  have hp : runL iwL (c :: r) = runL iwL r + 1 := by rw [runL_cons, if_pos (by unfold iwL; rw [hb]; rfl)]
  have hall : ∀ x ∈ ((c :: r).take (runL iwL (c :: r))).map lowL, iwL x = true := by
    intro x hx
    obtain ⟨y, hy, rfl⟩ := List.mem_map.1 hx
    exact low_iw y (runL_in _ _ hy)
  have hlen : (((c :: r).take (runL iwL (c :: r))).map lowL).length = runL iwL (c :: r) := by
    rw [List.length_map, List.length_take]
    have := runL_le iwL (c :: r)
    omega
  have hmap : (((c :: r).take (runL iwL (c :: r))).map lowL).map lowL = ((c :: r).take (runL iwL (c :: r))).map lowL := by
    rw [List.map_map]
    exact List.map_congr_left fun x _ => low_low x
  unfold GoodT
  show tokL (((c :: r).take (runL iwL (c :: r))).map lowL) = .ok (_, (((c :: r).take (runL iwL (c :: r))).map lowL).length)
  have hrun := runL_all1 _ hall
  rw [hlen] at hrun
  obtain ⟨s, hs⟩ : ∃ s, ((c :: r).take (runL iwL (c :: r))).map lowL = lowL c :: s := by
    rw [hp, List.take_succ_cons]
    exact ⟨_, rfl⟩
  rw [hlen]
  generalize ((c :: r).take (runL iwL (c :: r))).map lowL = T at *
  subst hs
  rw [tokL_cons]
  unfold tokC
  rw [if_pos (low_bw c hb), hrun, if_neg h32, List.take_of_length_le (by omega), hmap]
theorem dg_nbw {c : Nat} (h : dgL c = true) : bwL c = false := by
  have h := (dg_iff c).1 h
  cases hb : bwL c with
  | false => rfl
  | true =>
    unfold bwL smL cpL at hb
    simp only [Bool.or_eq_true, Bool.and_eq_true, decide_eq_true_eq, beq_iff_eq] at hb
    omega
theorem good_int (n : Nat) (h : n ≤ 9223372036854775807) : GoodT ⟨2, [], n, 0⟩ := by
  unfold GoodT
  show tokL (digL n) = .ok (_, (digL n).length)
  have hd := digL_dg n
  have hl := digL_len 18 n (by omega)
  have hv := decL_digL n
  have hrun := runL_all1 _ hd
  have hp := digL_pos n
  generalize digL n = D at *
  cases D with
  | nil => simp at hp
  | cons c r =>
    have hc := hd c (List.mem_cons_self ..)
    rw [tokL_cons]
    unfold tokC
    rw [dg_nbw hc, if_neg (by decide), if_pos hc, hrun, List.drop_length, if_neg (by decide), List.take_length, hv, if_neg (by omega)]
theorem good_real (g f : List Nat) (hg : ∀ x ∈ g, dgL x = true) (hf : ∀ x ∈ f, dgL x = true) (hg0 : 0 < g.length) (hf0 : 0 < f.length) (h15 : ¬ g.length + f.length > 15) : GoodT ⟨3, [], decL (g ++ f), f.length⟩ := by
  have hb : decL (g ++ f) < 10 ^ (14 + 1) := by
    have := decL_lt (g ++ f) (fun x hx => by
      rcases List.mem_append.1 hx with h | h
      · exact hg x h
      · exact hf x h)
    rw [List.length_append] at this
    exact Nat.lt_of_lt_of_le this (Nat.pow_le_pow_right (by omega) (by omega))
  have hf14 : f.length ≤ 14 := by omega
  have hl := digL_len 14 _ hb
  generalize decL (g ++ f) = n at *
  generalize f.length = sc at *
  unfold GoodT
  show tokL ((padL n sc).take ((padL n sc).length - sc) ++ 46 :: (padL n sc).drop ((padL n sc).length - sc)) = .ok (_, ((padL n sc).take ((padL n sc).length - sc) ++ 46 :: (padL n sc).drop ((padL n sc).length - sc)).length)
  have hD : decL (padL n sc) = n := by unfold padL; rw [decL_zeros, decL_digL]
  have hdg : ∀ x ∈ padL n sc, dgL x = true := by
    intro x hx
    unfold padL at hx
    rcases List.mem_append.1 hx with h | h
    · rw [List.eq_of_mem_replicate h]; rfl
    · exact digL_dg n x h
  have hle : sc + 1 ≤ (padL n sc).length ∧ (padL n sc).length ≤ 15 := by
    unfold padL
    rw [List.length_append, List.length_replicate]
    omega
  generalize padL n sc = D at *
  obtain ⟨hle1, hle2⟩ := hle
  have hPQ := List.take_append_drop (D.length - sc) D
  have hP : (D.take (D.length - sc)).length = D.length - sc := by rw [List.length_take]; omega
  have hQ : (D.drop (D.length - sc)).length = sc := by rw [List.length_drop]; omega
  have hPd : ∀ x ∈ D.take (D.length - sc), dgL x = true := fun x hx => hdg x (List.mem_of_mem_take hx)
  have hQd : ∀ x ∈ D.drop (D.length - sc), dgL x = true := fun x hx => hdg x (List.mem_of_mem_drop hx)
  generalize D.take (D.length - sc) = P at *
  generalize D.drop (D.length - sc) = Q at *
  cases P with
  | nil => simp at hP; omega
  | cons c r =>
    cases Q with
    | nil => simp at hQ; omega
    | cons d q =>
      have hc := hPd c (List.mem_cons_self ..)
      have hd := hQd d (List.mem_cons_self ..)
      have e1 : runL dgL ((c :: r) ++ 46 :: (d :: q)) = (c :: r).length := runL_stop (by rfl) _ _ hPd
      have e2 : ((c :: r) ++ 46 :: (d :: q)).drop (c :: r).length = 46 :: (d :: q) := by rw [List.drop_append, List.drop_length, Nat.sub_self]; rfl
      have e3 : ((c :: r) ++ 46 :: (d :: q)).drop ((c :: r).length + 1) = d :: q := by
        rw [← List.drop_drop, e2]; rfl
      have e4 : ((c :: r) ++ 46 :: (d :: q)).take (c :: r).length = c :: r := by rw [List.take_append, List.take_length, Nat.sub_self]; simp
      have e5 : runL dgL (d :: q) = (d :: q).length := runL_all1 _ hQd
      have hap : (c :: r) ++ 46 :: (d :: q) = c :: (r ++ 46 :: (d :: q)) := rfl
      have hlen : (c :: (r ++ 46 :: (d :: q))).length = (c :: r).length + 1 + (d :: q).length := by simp; omega
      rw [hap] at e1 e2 e3 e4
      rw [hap, tokL_cons, hlen]
      unfold tokC
      rw [dg_nbw hc, if_neg (by decide), if_pos hc, e1, e2, if_pos (show ((46 : Nat) == 46 && dgL d) = true by rw [hd]; rfl), e3, e5, if_neg (by rw [hP, hQ]; omega), e4, List.take_length, hPQ, hD, hQ]
theorem textL_esc : ∀ s : List Nat, textL (escL s ++ [39]) = some (s, (escL s).length + 1)
  | [] => by simp [escL, textL]
  | c :: r => by
    have ih := textL_esc r
    by_cases h : c = 39
    · subst h
      show textL (39 :: 39 :: (escL r ++ [39])) = some (39 :: r, (39 :: 39 :: escL r).length + 1)
      rw [textL.eq_def]
      simp only [if_true]
      rw [ih]
      rfl
    · have e : escL (c :: r) = c :: escL r := by show (if c = 39 then _ else _) = _; rw [if_neg h]
      rw [e]
      show textL (c :: (escL r ++ [39])) = some (c :: r, (c :: escL r).length + 1)
      rw [textL.eq_def]
      simp only [h, if_false]
      rw [ih]
      rfl
theorem good_text (s : List Nat) (h : ¬ s.length > 200) : GoodT ⟨4, s, 0, 0⟩ := by
  unfold GoodT
  show tokL (39 :: (escL s ++ [39])) = .ok (_, (39 :: (escL s ++ [39])).length)
  rw [tokL_cons]
  unfold tokC
  rw [show bwL 39 = false from rfl, if_neg (by decide), show dgL 39 = false from rfl, if_neg (by decide), if_pos rfl, textL_esc]
  simp only
  rw [if_neg h]
  congr 2
  simp
theorem good_sign (c : Nat) (r : List Nat) (h1 : ¬ bwL c = true) (h2 : ¬ dgL c = true) (h3 : ¬ c = 39) (h4 : ¬ signL (c :: r) = 0) : GoodT ⟨5, (c :: r).take (signL (c :: r)), 0, 0⟩ := by
  unfold GoodT
  show tokL ((c :: r).take (signL (c :: r))) = .ok (_, ((c :: r).take (signL (c :: r))).length)
  have key : ∃ s, (c :: r).take (signL (c :: r)) = c :: s ∧ signL (c :: s) = (c :: s).length := by
    cases r with
    | nil =>
      unfold signL at h4 ⊢
      simp only [Bool.false_eq_true, if_false] at h4 ⊢
      split at h4
      · next q => exact ⟨[], by rw [if_pos q]; rfl, by rw [if_pos q]; rfl⟩
      · exact absurd rfl h4
    | cons d r =>
      have e : ∀ s, signL (c :: d :: s) = if ((c == 60 && d == 62) || (c == 60 && d == 61) || (c == 62 && d == 61) || (c == 124 && d == 124)) = true then 2 else if [40, 41, 44, 46, 42, 43, 45, 47, 37, 61, 60, 62].contains c then 1 else 0 := fun s => rfl
      rw [e] at h4
      rw [e]
      by_cases q : ((c == 60 && d == 62) || (c == 60 && d == 61) || (c == 62 && d == 61) || (c == 124 && d == 124)) = true
      · exact ⟨[d], by rw [if_pos q]; rfl, by rw [e, if_pos q]; rfl⟩
      · rw [if_neg q] at h4 ⊢
        split at h4
        · next q2 =>
          refine ⟨[], by rw [if_pos q2]; rfl, ?_⟩
          unfold signL
          simp only [Bool.false_eq_true, if_false]
          rw [if_pos q2]; rfl
        · exact absurd rfl h4
  obtain ⟨s, hs, hl⟩ := key
  rw [hs, tokL_cons]
  unfold tokC
  rw [if_neg h1, if_neg h2, if_neg h3, hl, if_neg (by simp), List.take_length]
theorem good_tok (l : List Nat) (t : Tk) (k : Nat) (h : tokL l = .ok (t, k)) : GoodT t := by
  cases l with
  | nil => simp [tokL] at h
  | cons c r =>
    rw [tokL_cons] at h
    rw [tokC_eq] at h
    split at h
    · next q1 =>
      split at h
      · cases h
      · next q2 =>
        injection h with h
        injection h with h1 h2
        subst h1
        exact good_word c r q1 q2
    · next q1 =>
      split at h
      · next q2 =>
        have hg := runL_in (f := dgL) (c :: r)
        have hgl := runL_le dgL (c :: r)
        have hg0 : 0 < runL dgL (c :: r) := by rw [runL_cons, if_pos q2]; omega
        have hf0 : fracL ((c :: r).drop (runL dgL (c :: r))) = true → 0 < runL dgL ((c :: r).drop (runL dgL (c :: r) + 1)) := by
          intro q3
          rw [← List.drop_drop]
          cases hd : (c :: r).drop (runL dgL (c :: r)) with
          | nil => rw [hd] at q3; cases q3
          | cons p s =>
            rw [hd] at q3
            cases s with
            | nil => cases q3
            | cons d s =>
              have q3 : (p == 46 && dgL d) = true := q3
              simp only [Bool.and_eq_true] at q3
              show 0 < runL dgL (d :: s)
              rw [runL_cons, if_pos q3.2]
              omega
        generalize fracL ((c :: r).drop (runL dgL (c :: r))) = cnd at h hf0
        cases cnd with
        | true =>
          rw [if_pos rfl] at h
          split at h
          · cases h
          · next q4 =>
            injection h with h
            injection h with h1 h2
            subst h1
            have hfl := runL_le dgL ((c :: r).drop (runL dgL (c :: r) + 1))
            have hf := runL_in (f := dgL) ((c :: r).drop (runL dgL (c :: r) + 1))
            have e1 : ((c :: r).take (runL dgL (c :: r))).length = runL dgL (c :: r) := by rw [List.length_take]; omega
            have e2 : (((c :: r).drop (runL dgL (c :: r) + 1)).take (runL dgL ((c :: r).drop (runL dgL (c :: r) + 1)))).length = runL dgL ((c :: r).drop (runL dgL (c :: r) + 1)) := by rw [List.length_take]; omega
            have := good_real _ _ hg hf (by rw [e1]; exact hg0) (by rw [e2]; exact hf0 rfl) (by rw [e1, e2]; exact q4)
            rw [e2] at this
            exact this
        | false =>
          rw [if_neg (by decide)] at h
          split at h
          · cases h
          · next q4 =>
            injection h with h
            injection h with h1 h2
            subst h1
            exact good_int _ (by omega)
      · next q2 =>
        split at h
        · next q3 =>
          split at h
          · cases h
          · split at h
            · cases h
            · next q4 =>
              injection h with h
              injection h with h1 h2
              subst h1
              exact good_text _ q4
        · next q3 =>
          split at h
          · cases h
          · next q4 =>
            injection h with h
            injection h with h1 h2
            subst h1
            exact good_sign c r q1 q2 q3 q4
theorem lexGo_good : ∀ (n : Nat) (l : List Nat) (ts : List Tk), lexGo n l = .ok ts → ∀ t ∈ ts, GoodT t
  | 0, l, ts, h => by
    simp only [lexGo, Except.ok.injEq] at h
    subst h
    intro t ht
    simp at ht
  | n + 1, l, ts, h => by
    rw [lexGo_succ] at h
    split at h
    · injection h with h
      subst h
      intro t ht
      simp at ht
    · next c r hd =>
      split at h
      · cases h
      · next t k ht =>
        split at h
        · cases h
        · next us hu =>
          injection h with h
          subst h
          intro x hx
          rcases List.mem_cons.1 hx with e | e
          · rw [e]; exact good_tok _ _ _ ht
          · exact lexGo_good n _ _ hu x e
theorem lexL_good (l : List Nat) (ts : List Tk) (h : lexL l = .ok ts) : ∀ t ∈ ts, GoodT t := lexGo_good _ _ _ h
theorem lexL_one {t : Tk} (h : GoodT t) : lexL (wordT t) = .ok [t] := by
  unfold GoodT at h
  unfold lexL
  cases hw : wordT t with
  | nil => rw [hw] at h; simp [tokL] at h
  | cons c r =>
    rw [hw] at h
    have hb : blL c = false := by
      cases hb : blL c with
      | false => rfl
      | true =>
        rw [tokL_cons] at h
        have h0 : tokC c r (c :: r) = .error 120 := by
          unfold tokC
          rw [if_neg, if_neg, if_neg, if_pos]
          · rcases blk_cases hb with rfl | rfl | rfl | rfl <;> cases r <;> rfl
          · rcases blk_cases hb with rfl | rfl | rfl | rfl <;> decide
          · rcases blk_cases hb with rfl | rfl | rfl | rfl <;> decide
          · rcases blk_cases hb with rfl | rfl | rfl | rfl <;> decide
        rw [h0] at h
        cases h
    have h0 : runL blL (c :: r) = 0 := by rw [runL_cons, hb]; rfl
    rw [List.length_cons, lexGo_succ, h0, List.drop_zero]
    simp only
    rw [h]
    simp only
    rw [List.drop_length]
    rfl
/-- tokens written one behind the other, with a blank ahead of each -/
theorem lexL_words {e : Nat} (he : blL e = true) : ∀ ts : List Tk, (∀ t ∈ ts, GoodT t) → lexL (ts.flatMap fun t => e :: wordT t) = .ok ts
  | [], _ => rfl
  | t :: ts, h => by
    have ih := lexL_words he ts (fun x hx => h x (List.mem_cons_of_mem _ hx))
    have h1 := lexL_one (h t (List.mem_cons_self ..))
    have e1 : ((t :: ts).flatMap fun t => e :: wordT t) = [] ++ e :: (wordT t ++ ts.flatMap fun t => e :: wordT t) := by simp
    rw [e1, lexL_join he [] _ [] rfl]
    cases ts with
    | nil =>
      simp only [List.flatMap_nil, List.append_nil, h1]
      rfl
    | cons u us =>
      have e2 : ((u :: us).flatMap fun t => e :: wordT t) = e :: (wordT u ++ us.flatMap fun t => e :: wordT t) := by simp
      have h2 : lexL (e :: (wordT u ++ us.flatMap fun t => e :: wordT t)) = (match lexL (wordT u ++ us.flatMap fun t => e :: wordT t) with | .error er => .error er | .ok us => .ok ([] ++ us)) := lexL_join he [] _ [] rfl
      rw [e2, h2] at ih
      rw [e2, lexL_join he (wordT t) _ [t] h1]
      cases hx : lexL (wordT u ++ us.flatMap fun t => e :: wordT t) with
      | error er => rw [hx] at ih; simp at ih
      | ok vs =>
        rw [hx] at ih
        simp at ih
        subst ih
        rfl

end Go.Proofs.YtkffomfbnbcgaaaGreatDoor

namespace Go.Proofs.YtkffomfbnbcgaaaGreatDoor
set_option maxRecDepth 100000
open Go.RowKit Go.Joins Go.ChangeShapes Go.WideShapes
set_option linter.unusedVariables false
set_option linter.unusedSimpArgs false

theorem decF_ge (l : List Nat) (acc : Nat) : acc ≤ l.foldl (fun n c => n * 10 + (c - 48)) acc := by
  rw [decF]
  have : acc * 1 ≤ acc * 10 ^ l.length := Nat.mul_le_mul_left _ (Nat.one_le_pow _ _ (by omega))
  omega
theorem parse_u : ∀ (l : List Nat) (acc : Nat), (∀ x ∈ l, dgL x = true) → acc ≤ 18446744073709551615 →
    Lib.parseUintM 18446744073709551615 acc (l.map UInt8.ofNat) = if 18446744073709551615 < l.foldl (fun n c => n * 10 + (c - 48)) acc then .range else .ok (l.foldl (fun n c => n * 10 + (c - 48)) acc)
  | [], acc, _, h => by
    show Lib.NumEnd.ok acc = if 18446744073709551615 < acc then _ else Lib.NumEnd.ok acc
    rw [if_neg (by omega)]
  | c :: r, acc, hd, h => by
    have hc := (dg_iff c).1 (hd c (List.mem_cons_self ..))
    have hn : (UInt8.ofNat c).toNat = c := by rw [UInt8.toNat_ofNat', Nat.mod_eq_of_lt (by omega)]
    have hge := decF_ge r (acc * 10 + (c - 48))
    show Lib.parseUintM _ acc (UInt8.ofNat c :: r.map UInt8.ofNat) = if 18446744073709551615 < r.foldl (fun n c => n * 10 + (c - 48)) (acc * 10 + (c - 48)) then _ else .ok (r.foldl (fun n c => n * 10 + (c - 48)) (acc * 10 + (c - 48)))
    rw [Lib.parseUintM, hn, if_pos hc]
    by_cases c1 : 1844674407370955162 ≤ acc
    · rw [if_pos c1, if_pos (by omega)]
    · rw [if_neg c1]
      by_cases c2 : 18446744073709551615 < acc * 10 + (c - 48)
      · rw [if_pos c2, if_pos (by omega)]
      · rw [if_neg c2]
        exact parse_u r _ (fun x hx => hd x (List.mem_cons_of_mem _ hx)) (by omega)
/-- digits as a number -/
theorem parse_dec (l : List Nat) (hd : ∀ x ∈ l, dgL x = true) (h0 : 0 < l.length) : Lib.parseIntB 64 (l.map UInt8.ofNat) = if 9223372036854775807 < decL l then .range else .ok (decL l : Int) := by
  cases l with
  | nil => simp at h0
  | cons c r =>
    have hc := (dg_iff c).1 (hd c (List.mem_cons_self ..))
    have hn : (UInt8.ofNat c).toNat = c := by rw [UInt8.toNat_ofNat', Nat.mod_eq_of_lt (by omega)]
    have hu := parse_u (c :: r) 0 hd (by omega)
    have hu2 : Lib.parseUintM 18446744073709551615 0 (UInt8.ofNat c :: r.map UInt8.ofNat) = if 18446744073709551615 < decL (c :: r) then .range else .ok (decL (c :: r)) := hu
    have e : Lib.parseUintB 64 (UInt8.ofNat c :: r.map UInt8.ofNat) = if 18446744073709551615 < decL (c :: r) then .range else .ok (decL (c :: r)) := by
      unfold Lib.parseUintB
      rw [if_neg (by simp)]
      exact hu2
    show Lib.parseIntB 64 (UInt8.ofNat c :: r.map UInt8.ofNat) = _
    unfold Lib.parseIntB
    simp only [hn]
    rw [if_neg (by omega), e]
    have n45 : ¬ c = 45 := by omega
    by_cases c1 : 18446744073709551615 < decL (c :: r)
    · rw [if_pos c1, if_pos (by omega)]
    · rw [if_neg c1]
      simp only [n45, if_false, not_false_iff, true_and, false_and]
      by_cases c2 : 9223372036854775807 < decL (c :: r)
      · rw [if_pos c2, if_pos (by omega)]
      · rw [if_neg c2, if_neg (by omega)]
theorem nq_iff (x : Nat) : nqL x = true ↔ x ≠ 39 := by
  unfold nqL
  simp
theorem textL_q {c : Nat} (r : List Nat) (h : c ≠ 39) : textL (c :: r) = (textL r).map (fun x => (c :: x.1, x.2 + 1)) := by
  rw [textL.eq_def]
  simp only [h, if_false]
/-- a run of bytes that aren't quotes -/
theorem textL_run : ∀ l : List Nat, textL l = (textL (l.drop (runL nqL l))).map (fun x => (l.take (runL nqL l) ++ x.1, runL nqL l + x.2))
  | [] => rfl
  | c :: r => by
    rw [runL_cons]
    by_cases h : nqL c = true
    · rw [if_pos h, List.drop_succ_cons, List.take_succ_cons, textL_q r ((nq_iff c).1 h), textL_run r, Option.map_map]
      congr 1
      funext x
      show (c :: (r.take (runL nqL r) ++ x.1), runL nqL r + x.2 + 1) = (c :: r.take (runL nqL r) ++ x.1, runL nqL r + 1 + x.2)
      rw [Nat.add_right_comm]
      rfl
    · rw [if_neg h, List.drop_zero, List.take_zero]
      cases textL (c :: r) with
      | none => rfl
      | some x => simp
theorem drop_nq (l : List Nat) : l.drop (runL nqL l) = [] ∨ ∃ s, l.drop (runL nqL l) = 39 :: s := by
  induction l with
  | nil => exact .inl rfl
  | cons c r ih =>
    rw [runL_cons]
    by_cases h : nqL c = true
    · rw [if_pos h, List.drop_succ_cons]
      exact ih
    · rw [if_neg h, List.drop_zero]
      have : c = 39 := by
        cases Nat.decEq c 39 with
        | isTrue e => exact e
        | isFalse e => exact absurd ((nq_iff c).2 e) h
      exact .inr ⟨r, by rw [this]⟩
theorem textL_end {s : List Nat} (h : ∀ d t, s = d :: t → d ≠ 39) : textL (39 :: s) = some ([], 1) := by
  rw [textL.eq_def]
  cases s with
  | nil => rfl
  | cons d t =>
    have := h d t rfl
    simp only [this, if_true, if_false]
theorem textL_two (s : List Nat) : textL (39 :: 39 :: s) = (textL s).map (fun x => (39 :: x.1, x.2 + 2)) := by
  rw [textL.eq_def]
  simp only [if_true]
/-- where a run of a sort ends -/
theorem runL_at {f : Nat → Bool} (h0 : f 0 = false) : ∀ (l : List Nat) (k : Nat), k ≤ runL f l → (f (l.getD k 0) = true → k < runL f l) ∧ (f (l.getD k 0) = false → k = runL f l)
  | [], k, h => by
    have : k = 0 := by have : runL f [] = 0 := rfl; omega
    subst this
    refine ⟨fun h => ?_, fun _ => rfl⟩
    rw [show ([] : List Nat).getD 0 0 = 0 from rfl, h0] at h
    cases h
  | c :: r, k, h => by
    rw [runL_cons] at h ⊢
    by_cases hc : f c = true
    · rw [if_pos hc] at h ⊢
      cases k with
      | zero =>
        refine ⟨fun _ => by omega, fun h => ?_⟩
        rw [show (c :: r).getD 0 0 = c from rfl, hc] at h
        cases h
      | succ k =>
        rw [show (c :: r).getD (k + 1) 0 = r.getD k 0 from rfl]
        obtain ⟨h1, h2⟩ := runL_at h0 r k (by omega)
        exact ⟨fun h => by have := h1 h; omega, fun h => by rw [h2 h]⟩
    · rw [if_neg hc] at h ⊢
      have : k = 0 := by omega
      subst this
      refine ⟨fun h => ?_, fun _ => rfl⟩
      exact absurd h hc

end Go.Proofs.YtkffomfbnbcgaaaGreatDoor

namespace Go.Proofs.YtkffomfbnbcgaaaGreatDoor
set_option maxRecDepth 100000
open Go.RowKit Go.Joins Go.ChangeShapes Go.WideShapes
set_option linter.unusedVariables false
set_option linter.unusedSimpArgs false

/-- tokens ahead of others -/
def preT (ts : List Tk) : Except Nat (List Tk) → Except Nat (List Tk)
  | .error e => .error e
  | .ok us => .ok (ts ++ us)
theorem preT_nil (x : Except Nat (List Tk)) : preT [] x = x := by cases x <;> rfl
theorem lexL_nil : lexL [] = .ok [] := rfl
theorem drop_run (c : Nat) (r : List Nat) (h : blL c = true) : (c :: r).drop (runL blL (c :: r)) = r.drop (runL blL r) := by
  rw [runL_cons, if_pos h, List.drop_succ_cons]
theorem lexL_blank (c : Nat) (r : List Nat) (h : blL c = true) : lexL (c :: r) = lexL r := by
  rw [← lexL_eq ((c :: r).length + 1) (c :: r) (by omega), ← lexL_eq ((c :: r).length + 1) r (by simp; omega), lexGo_succ, lexGo_succ, drop_run c r h]
theorem lexL_run : ∀ l : List Nat, lexL l = lexL (l.drop (runL blL l))
  | [] => rfl
  | c :: r => by
    by_cases h : blL c = true
    · rw [lexL_blank c r h, drop_run c r h]
      exact lexL_run r
    · rw [runL_cons, if_neg h, List.drop_zero]
theorem run_head : ∀ l : List Nat, l.drop (runL blL l) = [] ∨ ∃ c r, l.drop (runL blL l) = c :: r ∧ blL c = false
  | [] => .inl rfl
  | c :: r => by
    by_cases h : blL c = true
    · rw [drop_run c r h]
      exact run_head r
    · rw [runL_cons, if_neg h, List.drop_zero]
      exact .inr ⟨c, r, rfl, by simpa using h⟩
theorem lexL_tok (c : Nat) (r : List Nat) (h : blL c = false) : lexL (c :: r) = (match tokL (c :: r) with
    | .error e => .error e
    | .ok (t, k) => preT [t] (lexL ((c :: r).drop k))) := by
  have h0 : runL blL (c :: r) = 0 := by rw [runL_cons, h]; rfl
  rw [← lexL_eq ((c :: r).length + 1) (c :: r) (by omega), lexGo_succ, h0, List.drop_zero]
  simp only
  cases ht : tokL (c :: r) with
  | error e => rfl
  | ok x =>
    obtain ⟨t, k⟩ := x
    obtain ⟨_, h2, h3⟩ := tokL_app (e := 32) rfl [] (c :: r) t k ht
    simp only
    rw [lexL_eq (c :: r).length _ (by rw [List.length_drop]; omega)]
    cases lexL ((c :: r).drop k) <;> rfl
theorem lexL_err (c : Nat) (r : List Nat) (h : blL c = false) (e : Nat) (ht : tokL (c :: r) = .error e) : lexL (c :: r) = .error e := by
  rw [lexL_tok c r h, ht]
theorem lexL_ok (c : Nat) (r : List Nat) (h : blL c = false) (t : Tk) (k : Nat) (ht : tokL (c :: r) = .ok (t, k)) : lexL (c :: r) = preT [t] (lexL ((c :: r).drop k)) := by
  rw [lexL_tok c r h, ht]
theorem preT_preT (ts us : List Tk) (x : Except Nat (List Tk)) : preT ts (preT us x) = preT (ts ++ us) x := by
  cases x with
  | error e => rfl
  | ok y => simp [preT, List.append_assoc]
/-- the tokens of a text, or the error's number -/
def toksE (l : List Nat) : Except Nat (List Tk) := if l.length > 4000 then .error 1 else lexL l
/-- a token is right: it can stand in memory -/
def TkR (t : Tk) : Prop := t.kind ≤ 5 ∧ t.num ≤ 9223372036854775807 ∧ t.scale ≤ 14 ∧ t.text.length ≤ 200 ∧ ∀ x ∈ t.text, x < 256
theorem textL_bytes : ∀ (n : Nat) (l : List Nat) (x : List Nat × Nat), l.length ≤ n → textL l = some x → ∀ y ∈ x.1, y ∈ l ∨ y = 39
  | 0, l, x, hn, h => by
    have : l = [] := List.length_eq_zero_iff.1 (by omega)
    subst this
    simp [textL] at h
  | n + 1, [], x, hn, h => by simp [textL] at h
  | n + 1, c :: r, x, hn, h => by
    have hl : r.length ≤ n := by simp at hn; omega
    by_cases hc : c = 39
    · subst hc
      cases r with
      | nil =>
        rw [textL_end (fun d t e => by cases e)] at h
        injection h with h
        subst h
        intro y hy
        simp at hy
      | cons d r' =>
        by_cases hd : d = 39
        · subst hd
          rw [textL_two] at h
          cases hx : textL r' with
          | none => rw [hx] at h; simp at h
          | some z =>
            rw [hx] at h
            simp only [Option.map_some, Option.some.injEq] at h
            subst h
            intro y hy
            rcases List.mem_cons.1 hy with e | e
            · exact .inr e
            · rcases textL_bytes n r' z (by simp at hl; omega) hx y e with g | g
              · exact .inl (List.mem_cons_of_mem _ (List.mem_cons_of_mem _ g))
              · exact .inr g
        · rw [textL_end (fun d' t e => by injection e with e1 e2; rw [← e1]; exact hd)] at h
          injection h with h
          subst h
          intro y hy
          simp at hy
    · rw [textL_q r hc] at h
      cases hx : textL r with
      | none => rw [hx] at h; simp at h
      | some z =>
        rw [hx] at h
        simp only [Option.map_some, Option.some.injEq] at h
        subst h
        intro y hy
        rcases List.mem_cons.1 hy with e | e
        · exact .inl (by rw [e]; exact List.mem_cons_self ..)
        · rcases textL_bytes n r z hl hx y e with g | g
          · exact .inl (List.mem_cons_of_mem _ g)
          · exact .inr g
theorem low_lt {x : Nat} (h : x < 256) : lowL x < 256 := by
  unfold lowL cpL
  split
  · next q =>
    simp only [Bool.and_eq_true, decide_eq_true_eq] at q
    omega
  · exact h
theorem signL_le2 (l : List Nat) : signL l ≤ 2 := by
  unfold signL
  cases l with
  | nil => simp
  | cons c r =>
    simp only
    split
    · split
      · simp
      · split <;> simp
    · split
      · simp
      · split <;> simp
theorem tokL_right (l : List Nat) (hl : ∀ x ∈ l, x < 256) (t : Tk) (k : Nat) (h : tokL l = .ok (t, k)) : TkR t := by
  cases l with
  | nil => simp [tokL] at h
  | cons c r =>
    rw [tokL_cons] at h
    rw [tokC_eq] at h
    split at h
    · next q1 =>
      split at h
      · cases h
      · next q2 =>
        injection h with h
        injection h with h1 h2
        subst h1
        refine ⟨by simp, by simp, by simp, ?_, fun x hx => ?_⟩
        · simp only [List.length_map, List.length_take]
          omega
        · obtain ⟨y, hy, rfl⟩ := List.mem_map.1 hx
          exact low_lt (hl y (List.mem_of_mem_take hy))
    · next q1 =>
      split at h
      · next q2 =>
        have hg := runL_in (f := dgL) (c :: r)
        generalize fracL ((c :: r).drop (runL dgL (c :: r))) = cnd at h
        cases cnd with
        | true =>
          rw [if_pos rfl] at h
          split at h
          · cases h
          · next q4 =>
            injection h with h
            injection h with h1 h2
            subst h1
            have hgl := runL_le dgL (c :: r)
            have hfl := runL_le dgL ((c :: r).drop (runL dgL (c :: r) + 1))
            have hf := runL_in (f := dgL) ((c :: r).drop (runL dgL (c :: r) + 1))
            have hg0 : 0 < runL dgL (c :: r) := by rw [runL_cons, if_pos q2]; omega
            have hlt := decL_lt ((c :: r).take (runL dgL (c :: r)) ++ ((c :: r).drop (runL dgL (c :: r) + 1)).take (runL dgL ((c :: r).drop (runL dgL (c :: r) + 1)))) (fun x hx => by
              rcases List.mem_append.1 hx with g | g
              · exact hg x g
              · exact hf x g)
            have hle : ((c :: r).take (runL dgL (c :: r)) ++ ((c :: r).drop (runL dgL (c :: r) + 1)).take (runL dgL ((c :: r).drop (runL dgL (c :: r) + 1)))).length ≤ 15 := by
              rw [List.length_append, List.length_take, List.length_take]
              omega
            have h15 := Nat.lt_of_lt_of_le hlt (Nat.pow_le_pow_right (by omega : 0 < 10) hle)
            refine ⟨by simp, ?_, ?_, by simp, fun x hx => by simp at hx⟩
            · show decL _ ≤ _
              generalize decL ((c :: r).take (runL dgL (c :: r)) ++ ((c :: r).drop (runL dgL (c :: r) + 1)).take (runL dgL ((c :: r).drop (runL dgL (c :: r) + 1)))) = n at h15
              omega
            · show runL dgL ((c :: r).drop (runL dgL (c :: r) + 1)) ≤ 14
              omega
        | false =>
          rw [if_neg (by decide)] at h
          split at h
          · cases h
          · next q4 =>
            injection h with h
            injection h with h1 h2
            subst h1
            refine ⟨by simp, ?_, by simp, by simp, fun x hx => by simp at hx⟩
            show decL _ ≤ _
            omega
      · next q2 =>
        split at h
        · next q3 =>
          split at h
          · cases h
          · next x hx =>
            split at h
            · cases h
            · next q4 =>
              injection h with h
              injection h with h1 h2
              subst h1
              refine ⟨by simp, by simp, by simp, by simpa using q4, fun y hy => ?_⟩
              rcases textL_bytes _ r x (Nat.le_refl _) hx y hy with g | g
              · exact hl y (List.mem_cons_of_mem _ g)
              · omega
        · next q3 =>
          split at h
          · cases h
          · next q4 =>
            injection h with h
            injection h with h1 h2
            subst h1
            refine ⟨by simp, by simp, by simp, ?_, fun x hx => hl x (List.mem_of_mem_take hx)⟩
            have := signL_le2 (c :: r)
            simp only [List.length_take]
            omega

end Go.Proofs.YtkffomfbnbcgaaaGreatDoor

namespace Go.Proofs.YtkffomfbnbcgaaaGreatDoor
set_option maxRecDepth 100000
open Go.RowKit Go.Joins Go.ChangeShapes Go.WideShapes
set_option linter.unusedVariables false
set_option linter.unusedSimpArgs false

def tkcells : List Tk → List Value
  | [] => []
  | t :: r => [.int .i64 (t.kind : Int), .string (strB t.text), .int .i64 (t.num : Int), .int .i64 (t.scale : Int)] ++ tkcells r
theorem tkcells_length (l : List Tk) : (tkcells l).length = l.length * 4 := by
  induction l with
  | nil => rfl
  | cons v r ih => simp [tkcells, ih]; omega
theorem tkcells_app (l r : List Tk) : tkcells (l ++ r) = tkcells l ++ tkcells r := by
  induction l with
  | nil => rfl
  | cons v l ih => simp only [List.cons_append, tkcells, ih, List.append_assoc]
theorem tkcells_at (l : List Tk) (i : Nat) (p : Tk) (h : l[i]? = some p) : (tkcells l)[i * 4]? = some (.int .i64 (p.kind : Int)) ∧ (tkcells l)[i * 4 + 1]? = some (.string (strB p.text)) ∧ (tkcells l)[i * 4 + 2]? = some (.int .i64 (p.num : Int)) ∧ (tkcells l)[i * 4 + 3]? = some (.int .i64 (p.scale : Int)) := by
  induction l generalizing i with
  | nil => simp at h
  | cons u l ih =>
    unfold tkcells
    cases i with
    | zero =>
      simp only [List.getElem?_cons_zero, Option.some.injEq] at h
      subst h
      exact ⟨rfl, rfl, rfl, rfl⟩
    | succ i =>
      rw [List.getElem?_cons_succ] at h
      obtain ⟨h1, h2, h3, h4⟩ := ih i h
      have e : ∀ j, ([Value.int .i64 (u.kind : Int), .string (strB u.text), .int .i64 (u.num : Int), .int .i64 (u.scale : Int)] ++ tkcells l)[(i + 1) * 4 + j]? = (tkcells l)[i * 4 + j]? := by
        intro j
        rw [List.getElem?_append_right (by simp; omega)]
        congr 1
        simp
        omega
      exact ⟨(e 0).trans h1, (e 1).trans h2, (e 2).trans h3, (e 3).trans h4⟩
theorem tkcells_one : ∀ (l : List Tk), ∀ u ∈ tkcells l, u.oneCell' = true
  | [], u, hu => by cases hu
  | p :: l, u, hu => by
    unfold tkcells at hu
    rcases List.mem_append.1 hu with h | h
    · simp only [List.mem_cons, List.not_mem_nil, or_false] at h
      rcases h with rfl | rfl | rfl | rfl <;> rfl
    · exact tkcells_one l u h
/-- a list of tokens of the call's own: all behind B -/
def OwT (w : World) (B : Nat) (v : Value) (l : List Tk) : Prop := w.ownsRow B 47 4 v l.length (tkcells l)
theorem OwT.cases {w : World} {B : Nat} {v : Value} {l : List Tk} (h : OwT w B v l) : (v = .slice none 0 0 ∧ l = []) ∨
    ∃ (g cap : Nat) (cur : List Value), v = .slice (some ⟨g, 0, none⟩) l.length cap ∧ B ≤ g ∧ w.heap[g]? = some (.cells cur.toArray 47 (0, 0)) ∧ l.length ≤ cap ∧ cap ≤ maxLen ∧ cur.length = cap * 4 ∧ cur.take (l.length * 4) = tkcells l := by
  rcases h.2 with ⟨rfl, e⟩ | ⟨g, cap, cur, rfl, hb, hg, hn, hc, hs, ht⟩
  · exact .inl ⟨rfl, List.eq_nil_of_length_eq_zero e⟩
  · exact .inr ⟨g, cap, cur.toList, rfl, hb, by simpa using hg, hn, hc, by simpa using hs, ht⟩
theorem OwT.nil (w : World) (B : Nat) : OwT w B (.slice none 0 0) [] := World.ownsRow_nil w B _ 4
theorem OwT.le {w : World} {B B' : Nat} {v : Value} {l : List Tk} (h : OwT w B v l) (hb : B' ≤ B) : OwT w B' v l := ownsRow_le h hb
theorem Frm.owT {F : Bl} {w w1 : World} (h : Frm F w w1) {B : Nat} {v : Value} {l : List Tk} (ho : OwT w B v l) (hf : ∀ k, v.ownBlock = some k → ¬ F k) : OwT w1 B v l := h.ownsRow ho hf
theorem OwT.below {w w' : World} {B : Nat} {v : Value} {l : List Tk} (h : OwT w B v l) (hb : Below w.heap.size w w') : OwT w' B v l := (h : w.ownsRow B _ 4 v l.length (tkcells l)).kept (row := none) ⟨hb.os, hb.tape, hb.output, hb.size, fun i hi _ => hb.block i hi⟩ (by cases v.ownBlock <;> simp)
/-- the list's form, and where its cells lie -/
theorem OwT.form {w : World} {B : Nat} {v : Value} {l : List Tk} (h : OwT w B v l) : ∃ a cap, v = .slice a l.length cap ∧ (a = none ∧ l = [] ∧ cap = 0 ∨ ∃ g, a = some ⟨g, 0, none⟩ ∧ B ≤ g ∧ g < w.heap.size ∧ (∀ o, w.frozen? ⟨g, o, none⟩ = false) ∧ ∀ j u, (tkcells l)[j]? = some u → w.cell? ⟨g, j, none⟩ = some u) := by
  rcases h.cases with ⟨rfl, rfl⟩ | ⟨g, cap, cur, rfl, hb, hg, hn, hc, hs, ht⟩
  · exact ⟨none, 0, rfl, .inl ⟨rfl, rfl, rfl⟩⟩
  · refine ⟨_, cap, rfl, .inr ⟨g, rfl, hb, (Array.getElem?_eq_some_iff.1 hg).1, fun o => unfrozen_of_block hg o, fun j u hj => ?_⟩⟩
    rw [cell_of_block hg j]
    rw [← ht, List.getElem?_take] at hj
    split at hj
    · simpa using hj
    · cases hj
theorem infoTk : (Tryz.prog.info? 47).map (fun i => (i.zero, i.size, i.bytes)) = some (some (.agg #[.int .i64 0, .string ByteArray.empty, .int .i64 0, .int .i64 0]), 4, 40) := by kernel_rfl
/-- append onto a list of tokens of the call's own -/
theorem wp_pushT {ops : Array Oper} {rest : List Oper} {o : Oper} {a : Act} {w : World} {Q : Exit → Act → World → Prop} (hgd : o.guard = none) (s x : Operand)
    (ho : o.op = .call { callee := .builtin .append, args := #[s, x], argTypes := #[42, 42] })
    (B : Nat) (v : Value) (l : List Tk) (hs : a.eval s = v) (hown : OwT w B v l) (hB : B ≤ w.heap.size) (ad : Addr) (m c : Nat) (rs : List Tk) (hm : rs.length = m) (hx : a.eval x = .slice (some ad) m c)
    (hnews : ∀ j u, (tkcells rs)[j]? = some u → w.cell? (ad.add j) = some u) (hsz : l.length + m ≤ 4294967297)
    (h : ∀ v' w', OwT w' B v' (l ++ rs) → w.grownBy w' v.ownBlock → wpList Tryz.prog ops Q rest (a.put o.dst v') w') : wpList Tryz.prog ops Q (o :: rest) a w := by
  obtain ⟨i0, hi, hz0, hz1, hz2⟩ := info_parts infoTk
  refine wpList_append_own w hgd s x _ ho B 47 i0 _ 4 40 Tryz.underlying42 hi hz0 hz1 hz2 rfl (by decide) v l.length (tkcells l) hs hown ad m c (tkcells rs) hx (by rw [tkcells_length, hm]) hnews (tkcells_one rs) (by unfold maxLen; omega) (by omega) hB ?_
  intro v' w' h1 h2 h3
  refine h v' w' ?_ h2
  unfold OwT
  rw [tkcells_app, List.length_append, hm]
  exact h1
/-- append of nothing -/
theorem wp_pushT0 {ops : Array Oper} {rest : List Oper} {o : Oper} {a : Act} {w : World} {Q : Exit → Act → World → Prop} (hgd : o.guard = none) (s x : Operand)
    (ho : o.op = .call { callee := .builtin .append, args := #[s, x], argTypes := #[42, 42] })
    (B : Nat) (v : Value) (l : List Tk) (hs : a.eval s = v) (hown : OwT w B v l) (hx : a.eval x = .slice none 0 0)
    (h : wpList Tryz.prog ops Q rest (a.put o.dst v) w) : wpList Tryz.prog ops Q (o :: rest) a w := by
  obtain ⟨i0, hi, hz0, hz1, hz2⟩ := info_parts infoTk
  exact wpList_append_own_none hgd s x _ ho B 47 i0 4 Tryz.underlying42 hi v l.length (tkcells l) hs hown hx h
theorem newsT (w : World) (t : Tk) : ∀ j x, (tkcells [t])[j]? = some x → (w.alloc (.cells #[.int .i64 (t.kind : Int), .string (strB t.text), .int .i64 (t.num : Int), .int .i64 (t.scale : Int)] 47)).cell? ((⟨w.heap.size, 0, none⟩ : Addr).add j) = some x :=
  World.news_of_block (cs := #[.int .i64 (t.kind : Int), .string (strB t.text), .int .i64 (t.num : Int), .int .i64 (t.scale : Int)]) (heap_alloc_new w _)
/-- a token that lies in a block of its own -/
theorem newsTk {w : World} {g : Nat} {t : Tk} (hg : w.heap[g]? = some (.cells #[.int .i64 (t.kind : Int), .string (strB t.text), .int .i64 (t.num : Int), .int .i64 (t.scale : Int)] 47 (0, 0))) : ∀ j x, (tkcells [t])[j]? = some x → w.cell? ((⟨g, 0, none⟩ : Addr).add j) = some x :=
  World.news_of_block (cs := #[.int .i64 (t.kind : Int), .string (strB t.text), .int .i64 (t.num : Int), .int .i64 (t.scale : Int)]) hg
/-- the state of a loop that makes a list of tokens -/
structure EnT (W w : World) (B : Nat) (v : Value) (l : List Tk) : Prop where
  own : OwT w B v l
  bel : Below B W w
  sz : B ≤ w.heap.size
theorem EnT.step {W w w' : World} {B : Nat} {v : Value} {l : List Tk} (h : EnT W w B v l) (hb : Below w.heap.size w w') : EnT W w' B v l := ⟨h.own.below hb, h.bel.trans (hb.mono h.sz), Nat.le_trans h.sz hb.size⟩
theorem EnT.alloc {W w : World} {B : Nat} {v : Value} {l : List Tk} (h : EnT W w B v l) (o : Obj) : EnT W (w.alloc o) B v l := h.step ((Below.refl _ _).alloc (Nat.le_refl _) _)
theorem EnT.push {W w w' : World} {B : Nat} {v v' : Value} {l l' : List Tk} (h : EnT W w B v l) (ho : OwT w' B v' l') (hg : w.grownBy w' v.ownBlock) : EnT W w' B v' l' :=
  ⟨ho, h.bel.grown hg h.sz (fun k hk => (h.own.lt k hk).1), Nat.le_trans h.sz hg.size⟩
theorem EnT.nil (W : World) : EnT W W W.heap.size (.slice none 0 0) [] := ⟨OwT.nil _ _, Below.refl _ _, Nat.le_refl _⟩
theorem EnT.made (W w : World) (B : Nat) (hb : Below B W w) (hs : B ≤ w.heap.size) : EnT W (w.alloc (.cells #[] 47)) B (.slice (some ⟨w.heap.size, 0, none⟩) 0 0) [] :=
  ⟨World.ownsRow_made w #[] 0 hs (by decide) rfl, hb.alloc hs _, by simp; exact Nat.le_succ_of_le hs⟩

end Go.Proofs.YtkffomfbnbcgaaaGreatDoor

namespace Go.Proofs.YtkffomfbnbcgaaaGreatDoor
set_option maxRecDepth 100000
open Go.RowKit Go.Joins Go.ChangeShapes Go.WideShapes
set_option linter.unusedVariables false
set_option linter.unusedSimpArgs false

theorem isB_news {w : World} {b off : Nat} {l : List Nat} (h : IsB w b off l) : ∀ j u, (bcells l)[j]? = some u → w.cell? ((⟨b, off, none⟩ : Addr).add j) = some u := by
  intro j u hj
  have ea : (⟨b, off, none⟩ : Addr).add j = ⟨b, off + j, none⟩ := by unfold Addr.add; split <;> simp_all
  rw [ea]
  unfold bcells at hj
  rw [List.getElem?_map] at hj
  cases hx : l[j]? with
  | none => rw [hx] at hj; cases hj
  | some x =>
    rw [hx] at hj
    injection hj with hj
    rw [← hj]
    exact h.c j x hx
set_option maxHeartbeats 1000000 in
theorem grow_b (n : Nat) (h0 : 0 < n) (hn : n ≤ 8589934592) (w : World) :
    Calls Tryz.prog 192 #[.slice none 0 0, .int .i64 n] w fun e w' => ∃ v, e = .returned v ∧ OwB w' w.heap.size v [] ∧ Below w.heap.size w w' := by
  obtain ⟨i0, hi, hz0, hz1, hz2⟩ := info_parts infoB
  have hr := fun ty => Lib.run_append_nil_zeros (P := Tryz.prog) w 45 3 ty 5 i0 (.int .u8 0) .i64 .i64 Tryz.underlying45 Tryz.underlying3 hi hz0 n h0 (by omega) (by omega) (by rw [hz2]; omega)
  have hge := grownCap_ge w n 0 5
  have hle := grownCap_le_maxLen w n 0 5 (by unfold maxLen; omega)
  have hx : OwB (w.drew.alloc (.cells (Builtin.zeroCells (Value.int .u8 0).cells n ++ Builtin.zeroCells (Value.int .u8 0).cells (grownCap w n 0 5 - n)) 5)) w.heap.size (.slice (some ⟨w.heap.size, 0, none⟩) 0 (grownCap w n 0 5)) [] :=
    ⟨⟨rfl, .inr ⟨w.heap.size, _, _, rfl, Nat.le_refl _, heap_alloc_new w.drew _, Nat.zero_le _, hle, by simp [Builtin.zeroCells, Value.cells]; omega, by simp [bcells]⟩⟩, by simp⟩
  have hb : Below w.heap.size w (w.drew.alloc (.cells (Builtin.zeroCells (Value.int .u8 0).cells n ++ Builtin.zeroCells (Value.int .u8 0).cells (grownCap w n 0 5 - n)) 5)) := (Below.refl _ _).drew.alloc (Nat.le_refl _) _
  generalize hW : w.drew.alloc (.cells (Builtin.zeroCells (Value.int .u8 0).cells n ++ Builtin.zeroCells (Value.int .u8 0).cells (grownCap w n 0 5 - n)) 5) = W at hr hx hb
  generalize grownCap w n 0 5 = C at *
  generalize hg : w.heap.size = g at *
  have HX := Lib.hid (And.intro hx hb)
  have HR := Lib.hid hr
  clear hx hb hr hW hg
  have k1 : (n : Int) ≤ (C : Int) := by omega
  have k2 : decide ((0 : Int) < (n : Int)) = true := by simp; omega
  go_enter Tryz.func192, Tryz.ntmps192
  go_wp2_with (first | (at_builtin; refine Lib.wpList_append_run _ rfl (.tmp 20) (.tmp 21) _ _ rfl _ _ rfl rfl _ _ (HR.out _) ?_))
  go_ret
  exact ⟨_, rfl, HX.out.1, HX.out.2⟩
set_option maxHeartbeats 2000000 in
theorem concat_b {w : World} {h b off c b2 off2 c2 : Nat} {l l2 : List Nat} (h1 : w.cell? ⟨h, 0, none⟩ = some (.slice (some ⟨b, off, none⟩) l.length c)) (h2 : w.cell? ⟨h, 1, none⟩ = some (.slice (some ⟨b2, off2, none⟩) l2.length c2))
    (hA : IsB w b off l) (hB : IsB w b2 off2 l2) (h0 : 0 < l.length) (hl : l.length ≤ 4294967296) (hl2 : l2.length ≤ 4294967296) :
    Calls Tryz.prog 167 #[.slice (some ⟨h, 0, none⟩) 2 2] w fun e w' => ∃ v, e = .returned v ∧ OwB w' w.heap.size v (l ++ l2) ∧ Below w.heap.size w w' := by
  have hhw : h < w.heap.size := Lib.lt_of_cell h1
  obtain ⟨m, hm⟩ : ∃ m, l.length = m := ⟨_, rfl⟩
  obtain ⟨k, hk⟩ : ∃ k, l2.length = k := ⟨_, rfl⟩
  have HM := Lib.hid (And.intro hm hk)
  rw [hm] at h1 hl h0
  rw [hk] at h2 hl2
  have HAB := Lib.hid (And.intro hA hB)
  have HG := Lib.hid (grow_b (m + k) (by omega) (by omega) w)
  clear hA hB hm hk
  go_enter Tryz.func167, Tryz.ntmps167
  go_wp2_with fail
  go_loopw [3, 11] (fun s i wr => w = wr ∧ ((s = .int .i64 0 ∧ i = .int .i64 0) ∨ (s = .int .i64 m ∧ i = .int .i64 1) ∨ (s = .int .i64 ((m : Int) + (k : Int)) ∧ i = .int .i64 2))) (fun _ i _ => 2 - (intOf i).toNat)
  case atStart => exact ⟨rfl, .inl ⟨rfl, rfl⟩⟩
  case round =>
    obtain ⟨rfl, hs⟩ := hrel
    rcases hs with ⟨rfl, rfl⟩ | ⟨rfl, rfl⟩ | ⟨rfl, rfl⟩
    · have e1 : IntKind.i64.wrap (m : Int) = m := by rw [IntKind.wrap_i64]; omega
      go_wp2_with fail
      go_roundw
      case rel => exact ⟨by trivial, .inr (.inl ⟨rfl, rfl⟩)⟩
      case measure => simp [intOf]
    · have e1 : IntKind.i64.wrap ((m : Int) + (k : Int)) = (m : Int) + (k : Int) := by rw [IntKind.wrap_i64]; omega
      have e2 : decide ((m : Int) + (k : Int) < 0) = false := by simp; omega
      go_wp2_with fail
      go_roundw
      case rel => exact ⟨by trivial, .inr (.inr ⟨rfl, rfl⟩)⟩
      case measure => simp [intOf]
    · go_wp2_with (first | (go_at_call 192; refine HG.out.mono ?_; rintro e w1 ⟨v1, rfl, o1, b1⟩; have HO1 := Lib.hid (And.intro o1 b1); clear o1 b1))
      go_loopw [6, 27] (fun v i wr => ∃ L, OwB wr w.heap.size v L ∧ Below w.heap.size w wr ∧ w.heap.size ≤ wr.heap.size ∧ ((L = [] ∧ i = .int .i64 0) ∨ (L = l ∧ i = .int .i64 1) ∨ (L = l ++ l2 ∧ i = .int .i64 2))) (fun _ i _ => 2 - (intOf i).toNat)
      case atStart => exact ⟨[], HO1.out.1, HO1.out.2, HO1.out.2.size, .inl ⟨rfl, rfl⟩⟩
      case round =>
        obtain ⟨L, oL, bL, sL, hs⟩ := hrel
        have d1 : wr.cell? ⟨h, 0, none⟩ = some (.slice (some ⟨b, off, none⟩) m c) := (bL.cell (p := ⟨h, 0, none⟩) hhw).trans h1
        have d2 : wr.cell? ⟨h, 1, none⟩ = some (.slice (some ⟨b2, off2, none⟩) k c2) := (bL.cell (p := ⟨h, 1, none⟩) hhw).trans h2
        have HL := Lib.hid (And.intro oL (And.intro bL sL))
        clear oL bL sL
        rcases hs with ⟨rfl, rfl⟩ | ⟨rfl, rfl⟩ | ⟨rfl, rfl⟩
        · go_wp2_with (first | (at_builtin; refine wp_push rfl _ _ rfl w.heap.size _ _ rfl HL.out.1 ⟨b, off, none⟩ m c l rfl HM.out.1 (isB_news (HAB.out.1.below HL.out.2.1)) (by simp; omega) HL.out.2.2 ?_; intro v2 w2 own2 gr2; have HX := Lib.hid (And.intro own2 (And.intro (HL.out.2.1.grown gr2 HL.out.2.2 (fun k hk => (HL.out.1.lt k hk).1)) gr2.size)); clear own2 gr2))
          go_roundw
          case rel => exact ⟨l, by simpa using HX.out.1, HX.out.2.1, Nat.le_trans HL.out.2.2 HX.out.2.2, .inr (.inl ⟨rfl, rfl⟩)⟩
          case measure => simp [intOf]
        · go_wp2_with (first | (at_builtin; refine wp_push rfl _ _ rfl w.heap.size _ _ rfl HL.out.1 ⟨b2, off2, none⟩ k c2 l2 rfl HM.out.2 (isB_news (HAB.out.2.below HL.out.2.1)) (by have := HM.out.1; omega) HL.out.2.2 ?_; intro v2 w2 own2 gr2; have HX := Lib.hid (And.intro own2 (And.intro (HL.out.2.1.grown gr2 HL.out.2.2 (fun k hk => (HL.out.1.lt k hk).1)) gr2.size)); clear own2 gr2))
          go_roundw
          case rel => exact ⟨_, HX.out.1, HX.out.2.1, Nat.le_trans HL.out.2.2 HX.out.2.2, .inr (.inr ⟨rfl, rfl⟩)⟩
          case measure => simp [intOf]
        · go_wp2_with fail
          go_ret
          exact ⟨_, rfl, HL.out.1, HL.out.2.1⟩
set_option maxHeartbeats 1000000 in
theorem clone_b {w : World} {b off : Nat} (m c : Nat) {l : List Nat} (hm : l.length = m) (hA : IsB w b off l) (hl : m ≤ 4294967296) :
    Calls Tryz.prog 169 #[.slice (some ⟨b, off, none⟩) m c] w fun e w' => ∃ v, e = .returned v ∧ OwB w' w.heap.size v l ∧ Below w.heap.size w w' := by
  obtain ⟨W1, hW1⟩ : ∃ W1, W1 = w.alloc (.cells #[] 5) := ⟨_, rfl⟩
  have hO : OwB W1 w.heap.size (.slice (some ⟨w.heap.size, 0, none⟩) 0 0) [] := by rw [hW1]; exact ⟨World.ownsRow_made w #[] 0 (Nat.le_refl _) (by decide) rfl, by simp⟩
  have hb : Below w.heap.size w W1 := by rw [hW1]; exact (Below.refl _ _).alloc (Nat.le_refl _) _
  have HO := Lib.hid hO
  have HB := Lib.hid hb
  have HN := Lib.hid (isB_news (hA.below hb))
  have HW := Lib.hid hW1
  have HM := Lib.hid hm
  have heq : (binOp .eql 45 (.slice (some ⟨b, off, none⟩) m c) (.slice none 0 0)).run Tryz.prog w = .ok (.bool false) w := Lib.run_eql_slice_nil w _ _ _ _ _ _ _ Tryz.underlying45
  clear hO hb hW1 hm hA
  go_enter Tryz.func169, Tryz.ntmps169
  go_wp2_with (first | (at_builtin; rw [← HW.out]; refine wp_push rfl (.tmp 5) (.tmp 6) rfl w.heap.size (.slice (some ⟨w.heap.size, 0, none⟩) 0 0) [] rfl HO.out ⟨b, off, none⟩ m c l rfl HM.out HN.out (by simp; omega) HB.out.size ?_; intro v1 w1 hown1 hgrow1; have HX := Lib.hid (And.intro hown1 (HB.out.grown hgrow1 HB.out.size (fun k hk => (HO.out.lt k hk).1))); clear hown1 hgrow1))
  go_ret
  exact ⟨_, rfl, by simpa using HX.out.1, HX.out.2⟩

end Go.Proofs.YtkffomfbnbcgaaaGreatDoor

namespace Go.Proofs.YtkffomfbnbcgaaaGreatDoor
set_option maxRecDepth 100000
open Go.RowKit Go.Joins Go.ChangeShapes Go.WideShapes
set_option linter.unusedVariables false
set_option linter.unusedSimpArgs false

theorem strB_len (l : List Nat) : (strB l).size = l.length := by unfold strB; rw [strOfNums_size, List.length_map]
/-- the library's error is laid -/
def ErrR (w : World) : Prop := ∃ ev, w.cell? ⟨3, 0, none⟩ = some ev ∧ (ev = .nilIface ∨ ∃ te pe, ev = .iface te pe)
theorem ErrR.lt {w : World} (h : ErrR w) : 3 < w.heap.size := by
  obtain ⟨ev, h, _⟩ := h
  exact Lib.lt_of_cell h
theorem ErrR.below {w w1 : World} (h : ErrR w) (hb : Below w.heap.size w w1) : ErrR w1 := by
  have hl := h.lt
  obtain ⟨ev, h1, h2⟩ := h
  exact ⟨ev, (hb.cell (p := ⟨3, 0, none⟩) hl).trans h1, h2⟩
theorem ErrR.frm {F : Bl} {w w1 : World} (h : ErrR w) (hb : Frm F w w1) (hf : ¬ F 3) : ErrR w1 := by
  have hl := h.lt
  obtain ⟨ev, h1, h2⟩ := h
  exact ⟨ev, (hb.cell hl hf 0).trans h1, h2⟩
/-- digits read: the number and no error, or some error -/
theorem parse_b {l : List Nat} (hd : ∀ x ∈ l, dgL x = true) (h0 : 0 < l.length) (hl : l.length ≤ 8589934592) {w : World} (hE : ErrR w) :
    Calls Tryz.prog 168 #[.string (strB l), .int .i64 10, .int .i64 64] w fun e w' => Below w.heap.size w w' ∧ ∃ n ev, e = .returned (.tuple #[.int .i64 n, ev]) ∧
      ((decL l ≤ 9223372036854775807 ∧ n = (decL l : Int) ∧ ev = .nilIface) ∨ (9223372036854775807 < decL l ∧ ∃ t p, ev = .iface t p)) := by
  have hp := parse_dec l hd h0
  rw [← strB_data] at hp
  by_cases c : 9223372036854775807 < decL l
  · rw [if_pos c] at hp
    obtain ⟨ev, h1, h2⟩ := hE
    refine (Go.Proofs.Any.strconv_ParseInt_10_at64_range piLays (strB l) (by rw [strB_len]; omega) hp ev w h1 h2).mono ?_
    rintro e w' ⟨N, rfl, _, _, hb⟩
    exact ⟨hb, _, _, rfl, .inr ⟨c, _, _, rfl⟩⟩
  · rw [if_neg c] at hp
    refine (Go.Proofs.Any.strconv_ParseInt_10_at64_ok piLays (strB l) (by rw [strB_len]; omega) _ hp w).mono ?_
    rintro e w' ⟨rfl, hb⟩
    refine ⟨?_, _, _, rfl, .inl ⟨by omega, rfl, rfl⟩⟩
    rcases hb with rfl | ⟨t, rfl⟩
    · exact Below.refl _ _
    · exact Lib.bytesWorld_below _ _ _
def numE (l : List Nat) : Except Nat (Tk × Nat) :=
  if fracL (l.drop (runL dgL l)) then
    (if runL dgL l + runL dgL (l.drop (runL dgL l + 1)) > 15 then .error 11
     else .ok (⟨3, [], decL (l.take (runL dgL l) ++ (l.drop (runL dgL l + 1)).take (runL dgL (l.drop (runL dgL l + 1)))), runL dgL (l.drop (runL dgL l + 1))⟩, runL dgL l + 1 + runL dgL (l.drop (runL dgL l + 1))))
  else (if runL dgL l > 19 ∨ 9223372036854775807 < decL (l.take (runL dgL l)) then .error 11 else .ok (⟨2, [], decL (l.take (runL dgL l)), 0⟩, runL dgL l))
/-- a box of a token -/
abbrev TBox (w : World) (g : Nat) (k n sc : Int) (s : ByteArray) : Prop := w.heap[g]? = some (.cells #[.int .i64 k, .string s, .int .i64 n, .int .i64 sc] 47 (0, 0))
theorem TBox.cells {w : World} {g : Nat} {k n sc : Int} {s : ByteArray} (h : TBox w g k n sc s) : (w.cell? ⟨g, 0, none⟩ = some (.int .i64 k) ∧ w.cell? ⟨g, 1, none⟩ = some (.string s) ∧ w.cell? ⟨g, 2, none⟩ = some (.int .i64 n) ∧ w.cell? ⟨g, 3, none⟩ = some (.int .i64 sc)) ∧
    w.frozen? ⟨g, 0, none⟩ = false ∧ w.frozen? ⟨g, 1, none⟩ = false ∧ w.frozen? ⟨g, 2, none⟩ = false ∧ w.frozen? ⟨g, 3, none⟩ = false := by
  refine ⟨⟨?_, ?_, ?_, ?_⟩, unfrozen_of_block h 0, unfrozen_of_block h 1, unfrozen_of_block h 2, unfrozen_of_block h 3⟩ <;> rw [cell_of_block h] <;> rfl
theorem TBox.lt {w : World} {g : Nat} {k n sc : Int} {s : ByteArray} (h : TBox w g k n sc s) : g < w.heap.size := (Array.getElem?_eq_some_iff.1 h).1
theorem TBox.below {w w1 : World} {g : Nat} {k n sc : Int} {s : ByteArray} (h : TBox w g k n sc s) (hb : Below w.heap.size w w1) : TBox w1 g k n sc s := (hb.block _ h.lt).trans h
theorem TBox.frm {F : Bl} {w w1 : World} {g : Nat} {k n sc : Int} {s : ByteArray} (h : TBox w g k n sc s) (hb : Frm F w w1) (hf : ¬ F g) : TBox w1 g k n sc s := (hb.heap h.lt hf).trans h

end Go.Proofs.YtkffomfbnbcgaaaGreatDoor

namespace Go.Proofs.YtkffomfbnbcgaaaGreatDoor
set_option maxRecDepth 100000
open Go.RowKit Go.Joins Go.ChangeShapes Go.WideShapes
set_option linter.unusedVariables false
set_option linter.unusedSimpArgs false

set_option maxHeartbeats 2000000 in
theorem number_any {w : World} {rd b off cap : Nat} {c : Nat} {r : List Nat} (h : Rd w rd b off cap (c :: r)) (hdg : dgL c = true) (hE : ErrR w) (hrE : 3 ≠ rd) :
    Calls Tryz.prog 115 #[.pointer (some ⟨rd, 0, none⟩)] w (TokP (numE (c :: r)) w rd b (c :: r)) := by
  have hq0 : 0 < runL dgL (c :: r) := by rw [runL_cons, if_pos hdg]; omega
  have hne : (c :: r) ≠ [] := by simp
  have hin := runL_in (f := dgL) (c :: r)
  have hkl := runL_le dgL (c :: r)
  generalize (c :: r) = l at *
  have b1 : Below w.heap.size w (w.alloc (.cells #[.int .i64 0, .string ⟨#[]⟩, .int .i64 0, .int .i64 0] 47)) := (Below.refl _ _).alloc (Nat.le_refl _) _
  have h1 := h.below b1
  have hbl : b < w.heap.size := h.is.hb (List.length_pos_iff.2 hne)
  have hrd : rd < w.heap.size := (Array.getElem?_eq_some_iff.1 h.hd).1
  have hle32 := h.ln
  have HT := Lib.hid (pass_any digit_any (enters_of Tryz.func114 (by kernel_rfl) rfl) h1)
  have HI := Lib.hid h1.is
  have HB := Lib.hid (show ¬ b = rd from fun e => h.ne e.symm)
  have HE := Lib.hid (hE.below b1)
  have hE0 := Lib.hid hE.lt
  have HBel := Lib.hid b1
  have hnew : TBox (w.alloc (.cells #[.int .i64 0, .string ⟨#[]⟩, .int .i64 0, .int .i64 0] 47)) w.heap.size 0 0 0 ⟨#[]⟩ := heap_alloc_new w (.cells #[.int .i64 0, .string ⟨#[]⟩, .int .i64 0, .int .i64 0] 47)
  have HN := Lib.hid hnew
  obtain ⟨W1, hW1⟩ : ∃ W1, w.alloc (.cells #[.int .i64 0, .string ⟨#[]⟩, .int .i64 0, .int .i64 0] 47) = W1 := ⟨_, rfl⟩
  rw [hW1] at HT HI HE HBel HN
  clear h h1 b1 hnew hE
  unfold numE
  have HIN := Lib.hid hin
  clear hin
  generalize hq : runL dgL l = q at *
  have HQ := Lib.hid hq
  clear hq
  generalize hP : TokP _ w rd b l = P
  have HP := Lib.hid hP
  clear hP
  go_enter Tryz.func115, Tryz.ntmps115
  go_wp2_with fail
  try go_at_call 47
  refine HT.out.mono ?_
  rintro e w2 ⟨rfl, off2, cap2, r2, f2⟩
  have R2 := Lib.hid r2
  have F2 := Lib.hid f2
  clear r2 f2
  go_wp2_with fail
  have bA : Below w2.heap.size w2 (w2.alloc (.cells #[.int .i64 2, .string ⟨#[]⟩, .int .i64 0, .int .i64 0] 47)) := (Below.refl _ _).alloc (Nat.le_refl _) _
  have nA : TBox (w2.alloc (.cells #[.int .i64 2, .string ⟨#[]⟩, .int .i64 0, .int .i64 0] 47)) w2.heap.size 2 0 0 ⟨#[]⟩ := heap_alloc_new w2 (.cells #[.int .i64 2, .string ⟨#[]⟩, .int .i64 0, .int .i64 0] 47)
  have HBA := Lib.hid (And.intro bA nA)
  have HG1 : Hid (w.heap.size < w2.heap.size) := Lib.hid (Nat.lt_of_lt_of_le (by rw [← hW1]; simp) F2.out.size)
  have HFR := Lib.hid (frac_any (R2.out.below bA))
  have HN2 := Lib.hid ((HN.out.frm F2.out (by omega)).below bA)
  have HE2 := Lib.hid ((HE.out.frm F2.out hrE).below bA)
  have HR3 := Lib.hid (R2.out.below bA)
  have HF3 := Lib.hid (((Frm.of_below (F := fun k => k = rd) HBel.out).trans F2.out (New.refl _ _)).step bA)
  have HI3 := Lib.hid ((F2.out.isB HI.out (fun _ => HB.out)).below bA)
  clear bA nA
  cases hfr : fracL (l.drop q) with
  | false =>
    rw [hfr] at HFR HP
    have hP1 := HP.out
    rw [if_neg (by decide)] at hP1
    obtain ⟨D, hD⟩ : ∃ D, l.take q = D := ⟨_, rfl⟩
    have hDl : D.length = q := by rw [← hD, List.length_take]; omega
    have HDD : Hid (∀ x ∈ D, dgL x = true) := Lib.hid (by rw [← hD]; exact HIN.out)
    obtain ⟨g1, hg1⟩ : ∃ g1, w2.heap.size = g1 := ⟨_, rfl⟩
    rw [hg1] at HG1 HBA
    rw [hD] at hP1
    go_wp2_with fail
    try go_at_call 166
    refine HFR.out.mono ?_
    rintro e wx ⟨rfl, rfl⟩
    try rw [hg1]
    generalize w2.alloc (.cells #[.int .i64 2, .string ⟨#[]⟩, .int .i64 0, .int .i64 0] 47) = wx at *
    obtain ⟨n, hn⟩ : ∃ n, n = q := ⟨_, rfl⟩
    subst hn
    obtain ⟨cp, hcp⟩ : ∃ cp, cp = cap := ⟨_, rfl⟩
    subst hcp
    obtain ⟨M, hM⟩ : ∃ M : Nat, M = 19 := ⟨_, rfl⟩
    have HD : Hid (IsB wx b off D) := Lib.hid (by rw [← hD]; exact HI3.out.take _)
    have HEx := HE2
    have HN0 := HN2
    have HN1 := Lib.hid HBA.out.2
    have RX := HR3
    have FX := HF3
    have HGG : Hid (¬ w.heap.size = g1) := Lib.hid (by have := HG1.out; omega)
    have HEr : Hid (M < n ∨ 9223372036854775807 < decL D → ∀ wz, Frm (fun k => k = rd) w wz → P (.returned (.tuple #[Tkv 0 ⟨#[]⟩ 0 0, .int .i64 11])) wz) := Lib.hid (by
      intro hc wz hf
      rw [if_pos (by omega)] at hP1
      rw [← hP1]
      exact ⟨rfl, hf⟩)
    have HOk : Hid (n ≤ M ∧ decL D ≤ 9223372036854775807 → ∀ wz off' cap', Rd wz rd b off' cap' (l.drop n) → Frm (fun k => k = rd) w wz → P (.returned (.tuple #[Tkv 2 ⟨#[]⟩ (decL D : Int) 0, .int .i64 0])) wz) := Lib.hid (by
      intro hc wz o c hr hf
      rw [if_neg (by omega)] at hP1
      rw [← hP1]
      exact ⟨rfl, o, c, hr, hf⟩)
    rw [show ((19 : Int)) = (M : Int) by rw [hM]; rfl]
    clear HP hP1 HFR HBA HN2 HE2 HR3 HF3 hg1

    have hcv := str_b HD.out n cp (by omega)
    have hPI := parse_b HDD.out (by omega) (by omega) HEx.out
    have hDn : D.take n = D := List.take_of_length_le (by omega)
    rw [hDn] at hcv
    generalize strB D = S at hcv hPI
    have HPI := Lib.hid hPI
    clear hPI hDn
    go_wp2_with fail
    try go_at_call 168
    refine HPI.out.mono ?_
    rintro e wy ⟨by_, v, ev, rfl, hv⟩
    have N0 := HN0.out.below by_
    have N1 := HN1.out.below by_
    obtain ⟨⟨e0, e1, e2, e3⟩, f0, f1, f4, f3⟩ := N0.cells
    obtain ⟨⟨x0, x1, x2, x3⟩, y0, y1, y2, y3⟩ := N1.cells
    have hgg : ¬ w.heap.size = g1 := HGG.out
    have hgg' : ¬ g1 = w.heap.size := fun e => HGG.out e.symm
    have RY := Lib.hid (RX.out.below by_)
    have FY := Lib.hid (FX.out.step by_)
    have N0H := Lib.hid N0
    clear by_ N0 N1
    rcases hv with ⟨hv1, rfl, rfl⟩ | ⟨hv1, t, p, rfl⟩
    · by_cases hm : n ≤ M
      · have k1 : decide ((M : Int) < (n : Int)) = false := by simp; omega
        have HF := HOk.out ⟨hm, hv1⟩
        have HX := Lib.hid (show P (.returned (.tuple #[Tkv 2 ⟨#[]⟩ (decL D : Int) 0, .int .i64 0])) (((((wy.setCell ⟨g1, 2, none⟩ (.int .i64 (decL D : Int))).setCell ⟨w.heap.size, 0, none⟩ (.int .i64 2)).setCell ⟨w.heap.size, 1, none⟩ (.string ⟨#[]⟩)).setCell ⟨w.heap.size, 2, none⟩ (.int .i64 (decL D : Int))).setCell ⟨w.heap.size, 3, none⟩ (.int .i64 0)) by
          have f5 := FY.out.setCell (.inr (Nat.le_of_lt HG1.out)) 2 (.int .i64 (decL D : Int))
          have r5 := RY.out.frm (F := fun k => k = g1) (Frm.set1 wy (F := fun k => k = g1) rfl 2 (.int .i64 (decL D : Int))) (by have := HG1.out; show ¬ rd = g1; omega) (by have := HG1.out; show ¬ b = g1; omega)
          obtain ⟨a1, a2⟩ := Rd.boxed f5 r5 hrd hbl (.int .i64 2) (.string ⟨#[]⟩) (.int .i64 (decL D : Int)) (.int .i64 0)
          exact HF _ _ _ a1 a2)
        have hbx : TBox (wy.setCell ⟨g1, 2, none⟩ (.int .i64 (decL D : Int))) w.heap.size 0 0 0 ⟨#[]⟩ := N0H.out.frm (F := fun k => k = g1) (Frm.set1 wy (F := fun k => k = g1) rfl 2 _) HGG.out
        generalize decL D = V at *
        go_wp2_with fail
        exact tok_ret Tryz.results115 (box_four hbx _ _ _ _) rfl rfl rfl HX.out
      · have k1 : decide ((M : Int) < (n : Int)) = true := by simp; omega
        have HX := Lib.hid (show P (.returned (.tuple #[Tkv 0 ⟨#[]⟩ 0 0, .int .i64 11])) ((((wy.setCell ⟨w.heap.size, 0, none⟩ (.int .i64 0)).setCell ⟨w.heap.size, 1, none⟩ (.string ⟨#[]⟩)).setCell ⟨w.heap.size, 2, none⟩ (.int .i64 0)).setCell ⟨w.heap.size, 3, none⟩ (.int .i64 0)) by
          obtain ⟨_, a2⟩ := Rd.boxed FY.out RY.out hrd hbl (.int .i64 0) (.string ⟨#[]⟩) (.int .i64 0) (.int .i64 0)
          exact HEr.out (.inl (by omega)) _ a2)
        generalize decL D = V at *
        go_wp2_with fail
        exact tok_ret Tryz.results115 (box_four N0H.out _ _ _ _) rfl rfl rfl HX.out
    · have HX := Lib.hid (show P (.returned (.tuple #[Tkv 0 ⟨#[]⟩ 0 0, .int .i64 11])) ((((wy.setCell ⟨w.heap.size, 0, none⟩ (.int .i64 0)).setCell ⟨w.heap.size, 1, none⟩ (.string ⟨#[]⟩)).setCell ⟨w.heap.size, 2, none⟩ (.int .i64 0)).setCell ⟨w.heap.size, 3, none⟩ (.int .i64 0)) by
        obtain ⟨_, a2⟩ := Rd.boxed FY.out RY.out hrd hbl (.int .i64 0) (.string ⟨#[]⟩) (.int .i64 0) (.int .i64 0)
        exact HEr.out (.inr hv1) _ a2)
      go_wp2_with fail
      exact tok_ret Tryz.results115 (box_four N0H.out _ _ _ _) rfl rfl rfl HX.out
  | true =>
    rw [hfr] at HFR HP
    have hP1 := HP.out
    rw [if_pos rfl] at hP1
    have hl2 : 1 ≤ (l.drop q).length := by
      cases e : l.drop q with
      | nil => rw [e] at hfr; cases hfr
      | cons a b => simp
    have hfin := runL_in (f := dgL) (l.drop (q + 1))
    have hfle := runL_le dgL (l.drop (q + 1))
    have HT4 := Lib.hid (take_any HR3.out 1 hl2)
    have hlen4 : (l.drop (q + 1)).length ≤ 4294967296 := by rw [List.length_drop]; omega
    obtain ⟨g1, hg1⟩ : ∃ g1, w2.heap.size = g1 := ⟨_, rfl⟩
    rw [hg1] at HG1 HBA
    have hdd : (l.drop q).drop 1 = l.drop (q + 1) := List.drop_drop
    go_wp2_with fail
    try go_at_call 166
    refine HFR.out.mono ?_
    rintro e wx ⟨rfl, rfl⟩
    try rw [hg1]
    generalize w2.alloc (.cells #[.int .i64 2, .string ⟨#[]⟩, .int .i64 0, .int .i64 0] 47) = wx at *
    go_wp2_with fail
    try go_at_call 110
    refine HT4.out.mono ?_
    rintro e w4 ⟨rfl, off4, cap4, r4, f4⟩
    rw [hdd] at r4
    have HF4 := Lib.hid f4
    have HI4 := Lib.hid r4.is
    have HT5 := Lib.hid (pass_any digit_any (enters_of Tryz.func114 (by kernel_rfl) rfl) r4)
    have hc4 := r4.cp
    clear r4 f4
    generalize hf : runL dgL (l.drop (q + 1)) = f at *
    go_wp2_with fail
    try go_at_call 47
    refine HT5.out.mono ?_
    rintro e w5 ⟨rfl, off5, cap5, r5, f5⟩
    rw [List.drop_drop] at r5
    have HF5 := Lib.hid f5
    have HR5 := Lib.hid r5
    have HN5 := Lib.hid ((HN2.out.frm HF4.out (by omega)).frm f5 (by omega))
    have hg1r : ¬ g1 = rd := by have := HG1.out; omega
    have N5 := (HBA.out.2.frm HF4.out hg1r).frm f5 hg1r
    obtain ⟨⟨x0, x1, x2, x3⟩, y0, y1, y2, y3⟩ := N5.cells
    have HN1' := Lib.hid N5
    have HL := Lib.hid (And.intro (HI3.out.take q) (HI4.out.take f))
    clear r5 f5 N5
    obtain ⟨w6, hw6⟩ : ∃ w6, (((w5.setCell ⟨g1, 0, none⟩ (.int .i64 3)).setCell ⟨g1, 1, none⟩ (.string ⟨#[]⟩)).setCell ⟨g1, 2, none⟩ (.int .i64 0)).setCell ⟨g1, 3, none⟩ (.int .i64 f) = w6 := ⟨_, rfl⟩
    go_wp2_with fail
    have hg1b : ¬ g1 = b := by have := HG1.out; omega
    have F6 : Frm (fun k => k = g1) w5 w6 := by
      rw [← hw6]
      exact ((((Frm.refl (fun k => k = g1) w5).setCell (.inl rfl) 0 _).setCell (.inl rfl) 1 _).setCell (.inl rfl) 2 _).setCell (.inl rfl) 3 _
    have N6 : TBox w6 g1 3 0 (f : Int) ⟨#[]⟩ := by
      rw [← hw6]
      exact box_four HN1'.out _ _ _ _
    have I6 := F6.isB (HF5.out.isB (HF4.out.isB HL.out.1 (fun _ => HB.out)) (fun _ => HB.out)) (fun _ e => hg1b e.symm)
    have J6 := F6.isB (HF5.out.isB HL.out.2 (fun _ => HB.out)) (fun _ e => hg1b e.symm)
    have E6 : ErrR w6 := by
      refine (((HE2.out.frm HF4.out hrE).frm HF5.out hrE)).frm F6 ?_
      have := hE0.out
      have := HG1.out
      show ¬ _ = g1
      omega
    have Z6 := HN5.out.frm F6 (by have := HG1.out; omega)
    have R6 := HR5.out.frm F6 (by have := HG1.out; omega) (by omega)
    have FF6 : Frm (fun k => k = rd) w w6 := ((HF3.out.trans HF4.out (New.refl _ _)).trans HF5.out (New.refl _ _)).trans F6 (fun k hk => .inr (by have := HG1.out; omega))
    have bB : Below w6.heap.size w6 (w6.alloc (.cells #[.slice (some ⟨b, off, none⟩) q cap, .slice (some ⟨b, off4, none⟩) f cap4] 45)) := (Below.refl _ _).alloc (Nat.le_refl _) _
    have nB := heap_alloc_new w6 (.cells #[.slice (some ⟨b, off, none⟩) q cap, .slice (some ⟨b, off4, none⟩) f cap4] 45)
    have hlq : (l.take q).length = q := by rw [List.length_take]; omega
    have hlf : ((l.drop (q + 1)).take f).length = f := by rw [List.length_take]; omega
    have HC := Lib.hid (concat_b (c := cap) (c2 := cap4) (by rw [cell_of_block nB, hlq]; rfl) (by rw [cell_of_block nB, hlf]; rfl) (I6.below bB) (J6.below bB) (by omega) (by omega) (by omega))
    have H6 := Lib.hid (And.intro (N6.below bB) (And.intro (E6.below bB) (And.intro (Z6.below bB) (And.intro (R6.below bB) (FF6.step bB)))))
    clear F6 N6 I6 J6 E6 Z6 R6 FF6 bB nB hw6 x0 x1 x2 x3 y0 y1 y2 y3
    obtain ⟨D, hD⟩ : ∃ D, l.take q ++ (l.drop (q + 1)).take f = D := ⟨_, rfl⟩
    have hDl : D.length = q + f := by rw [← hD, List.length_append, hlq, hlf]
    have HDD : Hid (∀ x ∈ D, dgL x = true) := Lib.hid (by
      intro x hx
      rw [← hD] at hx
      rcases List.mem_append.1 hx with g | g
      · exact HIN.out x g
      · exact hfin x g)
    have hD15 : Hid (q + f ≤ 15 → decL D ≤ 9223372036854775807) := Lib.hid (by
      intro h15
      have h1 := decL_lt D HDD.out
      have h2 := Nat.lt_of_lt_of_le h1 (Nat.pow_le_pow_right (by omega : 0 < 10) (show D.length ≤ 15 by omega))
      generalize decL D = V at h2
      omega)
    rw [hD] at hP1 HC
    try go_at_call 167
    refine HC.out.mono ?_
    rintro e w8 ⟨v8, rfl, o8, b8⟩
    obtain ⟨gD, capD, ev8, isD, _⟩ := o8.isB (fun x hx => by have := (dg_iff x).1 (HDD.out x hx); omega)
    rw [hDl] at ev8
    subst ev8
    obtain ⟨n, hn⟩ : ∃ n, n = q + f := ⟨_, rfl⟩
    rw [← hn] at hDl hP1 hD15
    obtain ⟨cp, hcp⟩ : ∃ cp, cp = capD := ⟨_, rfl⟩
    subst hcp
    have HD : Hid (IsB w8 gD 0 D) := Lib.hid isD
    have HEx := Lib.hid (H6.out.2.1.below b8)
    have HN0 := Lib.hid (H6.out.2.2.1.below b8)
    have HN1 := Lib.hid (H6.out.1.below b8)
    have RX := Lib.hid (H6.out.2.2.2.1.below b8)
    have FX := Lib.hid (H6.out.2.2.2.2.step b8)
    have HGG : Hid (¬ w.heap.size = g1) := Lib.hid (by have := HG1.out; omega)
    have HEr : Hid (15 < n ∨ 9223372036854775807 < decL D → ∀ wz, Frm (fun k => k = rd) w wz → P (.returned (.tuple #[Tkv 0 ⟨#[]⟩ 0 0, .int .i64 11])) wz) := Lib.hid (by
      intro hc wz hf
      rw [if_pos (by have := hD15.out; omega)] at hP1
      rw [← hP1]
      exact ⟨rfl, hf⟩)
    have HOk : Hid (n ≤ 15 ∧ decL D ≤ 9223372036854775807 → ∀ wz off' cap', Rd wz rd b off' cap' (l.drop (q + 1 + f)) → Frm (fun k => k = rd) w wz → P (.returned (.tuple #[Tkv 3 ⟨#[]⟩ (decL D : Int) (f : Int), .int .i64 0])) wz) := Lib.hid (by
      intro hc wz o c hr hf
      rw [if_neg (by omega)] at hP1
      rw [← hP1]
      exact ⟨rfl, o, c, hr, hf⟩)
    have hnb1 : 0 < n := by omega
    have hnb2 : n ≤ 8589934592 := by omega
    rw [← hn]
    have HQN := Lib.hid hn
    clear hn
    clear HP hP1 HFR HBA HN2 HE2 HR3 HF3 hg1 H6 b8 o8 isD HC hf hfin hfle hdd
    have hcv := str_b HD.out n cp (by omega)
    have hPI := parse_b HDD.out (by omega) (by omega) HEx.out
    have hDn : D.take n = D := List.take_of_length_le (by omega)
    rw [hDn] at hcv
    generalize strB D = S at hcv hPI
    have HPI := Lib.hid hPI
    clear hPI hDn
    go_wp2_with fail
    try go_at_call 168
    refine HPI.out.mono ?_
    rintro e wy ⟨by_, v, ev, rfl, hv⟩
    have N0 := HN0.out.below by_
    have N1 := HN1.out.below by_
    obtain ⟨⟨e0, e1, e2, e3⟩, f0, f1, f4, f3⟩ := N0.cells
    obtain ⟨⟨x0, x1, x2, x3⟩, y0, y1, y2, y3⟩ := N1.cells
    have hgg : ¬ w.heap.size = g1 := HGG.out
    have hgg' : ¬ g1 = w.heap.size := fun e => HGG.out e.symm
    have RY := Lib.hid (RX.out.below by_)
    have FY := Lib.hid (FX.out.step by_)
    have N0H := Lib.hid N0
    clear by_ N0 N1
    rcases hv with ⟨hv1, rfl, rfl⟩ | ⟨hv1, t, p, rfl⟩
    · by_cases hm : n ≤ 15
      · have k1 : decide ((15 : Int) < (n : Int)) = false := by simp; omega
        have HF := HOk.out ⟨hm, hv1⟩
        have HX := Lib.hid (show P (.returned (.tuple #[Tkv 3 ⟨#[]⟩ (decL D : Int) (f : Int), .int .i64 0])) (((((wy.setCell ⟨g1, 2, none⟩ (.int .i64 (decL D : Int))).setCell ⟨w.heap.size, 0, none⟩ (.int .i64 3)).setCell ⟨w.heap.size, 1, none⟩ (.string ⟨#[]⟩)).setCell ⟨w.heap.size, 2, none⟩ (.int .i64 (decL D : Int))).setCell ⟨w.heap.size, 3, none⟩ (.int .i64 (f : Int))) by
          have f5 := FY.out.setCell (.inr (Nat.le_of_lt HG1.out)) 2 (.int .i64 (decL D : Int))
          have r5 := RY.out.frm (F := fun k => k = g1) (Frm.set1 wy (F := fun k => k = g1) rfl 2 (.int .i64 (decL D : Int))) (by have := HG1.out; show ¬ rd = g1; omega) (by have := HG1.out; show ¬ b = g1; omega)
          obtain ⟨a1, a2⟩ := Rd.boxed f5 r5 hrd hbl (.int .i64 3) (.string ⟨#[]⟩) (.int .i64 (decL D : Int)) (.int .i64 (f : Int))
          exact HF _ _ _ a1 a2)
        have hbx : TBox (wy.setCell ⟨g1, 2, none⟩ (.int .i64 (decL D : Int))) w.heap.size 0 0 0 ⟨#[]⟩ := N0H.out.frm (F := fun k => k = g1) (Frm.set1 wy (F := fun k => k = g1) rfl 2 _) HGG.out
        generalize decL D = V at *
        go_wp2_with fail
        exact tok_ret Tryz.results115 (box_four hbx _ _ _ _) rfl rfl rfl HX.out
      · have k1 : decide ((15 : Int) < (n : Int)) = true := by simp; omega
        have HX := Lib.hid (show P (.returned (.tuple #[Tkv 0 ⟨#[]⟩ 0 0, .int .i64 11])) ((((wy.setCell ⟨w.heap.size, 0, none⟩ (.int .i64 0)).setCell ⟨w.heap.size, 1, none⟩ (.string ⟨#[]⟩)).setCell ⟨w.heap.size, 2, none⟩ (.int .i64 0)).setCell ⟨w.heap.size, 3, none⟩ (.int .i64 0)) by
          obtain ⟨_, a2⟩ := Rd.boxed FY.out RY.out hrd hbl (.int .i64 0) (.string ⟨#[]⟩) (.int .i64 0) (.int .i64 0)
          exact HEr.out (.inl (by omega)) _ a2)
        generalize decL D = V at *
        go_wp2_with fail
        exact tok_ret Tryz.results115 (box_four N0H.out _ _ _ _) rfl rfl rfl HX.out
    · have HX := Lib.hid (show P (.returned (.tuple #[Tkv 0 ⟨#[]⟩ 0 0, .int .i64 11])) ((((wy.setCell ⟨w.heap.size, 0, none⟩ (.int .i64 0)).setCell ⟨w.heap.size, 1, none⟩ (.string ⟨#[]⟩)).setCell ⟨w.heap.size, 2, none⟩ (.int .i64 0)).setCell ⟨w.heap.size, 3, none⟩ (.int .i64 0)) by
        obtain ⟨_, a2⟩ := Rd.boxed FY.out RY.out hrd hbl (.int .i64 0) (.string ⟨#[]⟩) (.int .i64 0) (.int .i64 0)
        exact HEr.out (.inr hv1) _ a2)
      go_wp2_with fail
      exact tok_ret Tryz.results115 (box_four N0H.out _ _ _ _) rfl rfl rfl HX.out

end Go.Proofs.YtkffomfbnbcgaaaGreatDoor

namespace Go.Proofs.YtkffomfbnbcgaaaGreatDoor
set_option maxRecDepth 100000
open Go.RowKit Go.Joins Go.ChangeShapes Go.WideShapes
set_option linter.unusedVariables false
set_option linter.unusedSimpArgs false

def txtE (r : List Nat) : Except Nat (Tk × Nat) := match textL r with
  | none => .error 121
  | some x => if x.1.length > 200 then .error 1 else .ok (⟨4, x.1, 0, 0⟩, x.2 + 1)
theorem Rd.grown {w w1 : World} {rd b off cap : Nat} {l : List Nat} {row : Option Nat} (h : Rd w rd b off cap l) (hg : w.grownBy w1 row) (h1 : ∀ k, row = some k → k ≠ rd ∧ k ≠ b) : Rd w1 rd b off cap l := by
  have f : Frm (fun k => row = some k) w w1 := ⟨hg.os, hg.tape, hg.output, hg.size, fun k hk hf => hg.block k hk (fun e => hf e.symm)⟩
  exact h.frm f (fun e => (h1 rd e).1 rfl) (fun e => (h1 b e).2 rfl)
theorem TBox.grown {w w1 : World} {g : Nat} {k n sc : Int} {s : ByteArray} {row : Option Nat} (h : TBox w g k n sc s) (hg : w.grownBy w1 row) (h1 : ∀ k, row = some k → k ≠ g) : TBox w1 g k n sc s := (hg.block g h.lt (fun e => h1 g e.symm rfl)).trans h
/-- how long the slice in a cell is -/
def lenAt (w : World) (rd : Nat) : Nat := match w.cell? ⟨rd, 0, none⟩ with
  | some (.slice _ n _) => n
  | _ => 0
theorem Rd.len {w : World} {rd b off cap : Nat} {l : List Nat} (h : Rd w rd b off cap l) : lenAt w rd = l.length := by
  unfold lenAt
  rw [cell_of_block h.hd]
  rfl
/-- how a text's loop stands -/
structure TxS (w wr : World) (rd b : Nat) (r : List Nat) (v : Value) (acc : List Nat) (k off cap : Nat) : Prop where
  own : OwB wr (w.heap.size + 1) v acc
  rds : Rd wr rd b off cap (r.drop k)
  kl : k ≤ r.length
  al : acc.length ≤ k
  eq : textL r = (textL (r.drop k)).map (fun x => (acc ++ x.1, k + x.2))
  hd : r.drop k = [] ∨ ∃ s, r.drop k = 39 :: s
  fr : Frm (fun k => k = rd) w wr
  bx : TBox wr w.heap.size 0 0 0 ⟨#[]⟩
  ac : ∀ x ∈ acc, x < 256
set_option maxHeartbeats 4000000 in
theorem text_any {w : World} {rd b off cap : Nat} {r : List Nat} (h : Rd w rd b off cap (39 :: r)) :
    Calls Tryz.prog 116 #[.pointer (some ⟨rd, 0, none⟩)] w (TokP (txtE r) w rd b (39 :: r)) := by
  have b1 : Below w.heap.size w (w.alloc (.cells #[.int .i64 0, .string ⟨#[]⟩, .int .i64 0, .int .i64 0] 47)) := (Below.refl _ _).alloc (Nat.le_refl _) _
  have h1 := h.below b1
  have hbl : b < w.heap.size := h.is.hb (by simp)
  have hrd : rd < w.heap.size := (Array.getElem?_eq_some_iff.1 h.hd).1
  have hle32 := h.ln
  have hrl : r.length ≤ 4294967296 := by simp at hle32; omega
  have HLT := Lib.hid h.is.lt
  have HT := Lib.hid (take_any h1 1 (by simp))
  have HI := Lib.hid h1.is
  have HB := Lib.hid (show ¬ b = rd from fun e => h.ne e.symm)
  have HBel := Lib.hid b1
  have hnew : TBox (w.alloc (.cells #[.int .i64 0, .string ⟨#[]⟩, .int .i64 0, .int .i64 0] 47)) w.heap.size 0 0 0 ⟨#[]⟩ := heap_alloc_new w (.cells #[.int .i64 0, .string ⟨#[]⟩, .int .i64 0, .int .i64 0] 47)
  have HN := Lib.hid hnew
  have hsz : (w.alloc (.cells #[.int .i64 0, .string ⟨#[]⟩, .int .i64 0, .int .i64 0] 47)).heap.size = w.heap.size + 1 := by simp
  have HSZ := Lib.hid hsz
  clear h h1 b1 hnew hsz
  generalize hP : TokP _ w rd b (39 :: r) = P
  have HP := Lib.hid hP
  clear hP
  go_enter Tryz.func116, Tryz.ntmps116
  go_wp2_with fail
  generalize w.alloc (.cells #[.int .i64 0, .string ⟨#[]⟩, .int .i64 0, .int .i64 0] 47) = W1 at *
  try go_at_call 110
  refine HT.out.mono ?_
  rintro e w2 ⟨rfl, off2, cap2, r2, f2⟩
  have r2 : Rd w2 rd b off2 cap2 r := r2
  have HT3 := Lib.hid (pass_any noquote_any (enters_of Tryz.func170 (by kernel_rfl) rfl) r2)
  have F2 := Lib.hid f2
  have HI2 := Lib.hid r2.is
  have hlt2 := runL_le nqL r
  have hrun := textL_run r
  have hdn := drop_nq r
  generalize hq : runL nqL r = q at *
  clear r2 f2 hq
  go_wp2_with fail
  try go_at_call 47
  refine HT3.out.mono ?_
  rintro e w3 ⟨rfl, off3, cap3, r3, f3⟩
  have hI3 := (f3.isB HI2.out (fun _ => HB.out)).take q
  have HC := Lib.hid (clone_b q cap2 (by rw [List.length_take]; omega) hI3 (by omega))
  have R3 := Lib.hid r3
  have F3 := Lib.hid (((Frm.of_below (F := fun k => k = rd) HBel.out).trans F2.out (New.refl _ _)).trans f3 (New.refl _ _))
  have N3 := Lib.hid ((HN.out.frm F2.out (by omega)).frm f3 (by omega))
  have hs3 : w.heap.size + 1 ≤ w3.heap.size := by have := F2.out.size; have := f3.size; have := HSZ.out; omega
  clear r3 f3 hI3
  go_wp2_with fail
  try go_at_call 169
  refine HC.out.mono ?_
  rintro e w4 ⟨v4, rfl, o4, b4⟩
  have HS0 : Hid (TxS w w4 rd b r v4 (r.take q) q off3 cap3) := Lib.hid ⟨o4.le hs3, R3.out.below b4, hlt2, by rw [List.length_take]; omega, hrun, hdn, F3.out.step b4, N3.out.below b4, fun x hx => HLT.out x (List.mem_cons_of_mem _ (List.mem_of_mem_take hx))⟩
  clear o4 b4 hrun hdn
  go_wp2_with fail
  go_loopw [4] (fun v wr => ∃ acc k off cap, TxS w wr rd b r v acc k off cap) (fun _ wr => lenAt wr rd)
  case atStart => exact ⟨_, _, _, _, HS0.out⟩
  case round =>
    obtain ⟨acc, k, off5, cap5, hs⟩ := hrel
    have c0 : wr.cell? ⟨rd, 0, none⟩ = some (.slice (some ⟨b, off5, none⟩) (r.drop k).length cap5) := by rw [cell_of_block hs.rds.hd]; rfl
    have HS := Lib.hid hs
    have hcp := hs.rds.cp
    have hhd := hs.hd
    have heq := hs.eq
    have hkl := hs.kl
    have hal := hs.al
    have hbd := hs.rds.is
    clear hs
    have hkd : (r.drop k).length = r.length - k := List.length_drop
    rcases hhd with e | ⟨s, e⟩
    · have hP1 := HP.out
      unfold txtE at hP1
      rw [heq, e] at hP1
      rw [e] at c0
      have N0 := HS.out.bx
      obtain ⟨⟨e0, e1, e2, e3⟩, f0, f1, f4, f3⟩ := N0.cells
      have N0H := Lib.hid N0
      clear N0 heq
      have c0 : wr.cell? ⟨rd, 0, none⟩ = some (.slice (some ⟨b, off5, none⟩) 0 cap5) := c0
      have HX := Lib.hid (show P (.returned (.tuple #[Tkv 0 ⟨#[]⟩ 0 0, .int .i64 121])) ((((wr.setCell ⟨w.heap.size, 0, none⟩ (.int .i64 0)).setCell ⟨w.heap.size, 1, none⟩ (.string ⟨#[]⟩)).setCell ⟨w.heap.size, 2, none⟩ (.int .i64 0)).setCell ⟨w.heap.size, 3, none⟩ (.int .i64 0)) by
        obtain ⟨_, a2⟩ := Rd.boxed HS.out.fr HS.out.rds hrd hbl (.int .i64 0) (.string ⟨#[]⟩) (.int .i64 0) (.int .i64 0)
        rw [← hP1]
        exact ⟨rfl, a2⟩)
      clear hP1 hbd e
      go_wp2_with fail
      exact tok_ret Tryz.results116 (box_four N0H.out _ _ _ _) rfl rfl rfl HX.out
    · by_cases h2 : ∃ s', s = 39 :: s'
      · obtain ⟨s', rfl⟩ := h2
        have R0 := HS.out.rds
        rw [e] at R0 c0 hbd
        have d0 : wr.cell? ⟨b, off5, none⟩ = some (.int .u8 (39 : Nat)) := hbd.c 0 39 rfl
        have d1 : wr.cell? ⟨b, off5 + 1, none⟩ = some (.int .u8 (39 : Nat)) := hbd.c 1 39 rfl
        have hcapn : (39 :: 39 :: s').length ≤ cap5 := R0.cp
        have HTa := Lib.hid (take_any R0 1 (by simp))
        obtain ⟨n1, hn1⟩ : ∃ n1, (39 :: 39 :: s').length = n1 := ⟨_, rfl⟩
        have hn1p : (1 : Int) < (n1 : Int) := by rw [← hn1]; simp; omega
        have HML := Lib.hid (show lenAt wr rd = n1 by rw [R0.len, hn1])
        rw [hn1] at c0 hcapn
        obtain ⟨gv, capv, ev, isv, hgv⟩ := HS.out.own.isB HS.out.ac
        obtain ⟨na, hna⟩ : ∃ na, acc.length = na := ⟨_, rfl⟩
        rw [hna] at ev
        subst ev
        have HR := Lib.hid (show k + 2 + s'.length = r.length by have := hkd; rw [e] at this; simp at this; omega)
        have HN1 := Lib.hid hn1
        have HNA := Lib.hid hna
        have HE := Lib.hid e
        have HQ := Lib.hid heq
        clear hbd hn1 isv hcp heq e hkd R0 hna
        go_wp2_with fail
        try go_at_call 110
        refine HTa.out.mono ?_
        rintro ee w5 ⟨rfl, off6, cap6, r6, f6⟩
        have r6 : Rd w5 rd b off6 cap6 (39 :: s') := r6
        have HTb := Lib.hid (take_any r6 1 (by simp))
        have HI6 := Lib.hid (r6.is.take 1)
        have F6 := Lib.hid f6
        clear r6 f6 d0 d1 c0
        go_wp2_with fail
        try go_at_call 110
        refine HTb.out.mono ?_
        rintro ee w6 ⟨rfl, off7, cap7, r7, f7⟩
        have r7 : Rd w6 rd b off7 cap7 s' := r7
        have R7 := Lib.hid r7
        have I7 := Lib.hid (f7.isB HI6.out (fun _ => HB.out))
        have F7 := Lib.hid (F6.out.trans f7 (New.refl _ _))
        have hs7 : wr.heap.size ≤ w6.heap.size := (F6.out.trans f7 (New.refl _ _)).size
        have hsw : w.heap.size ≤ wr.heap.size := HS.out.fr.size
        have hbase : w.heap.size + 1 ≤ wr.heap.size := by have := HS.out.bx.lt; omega
        have hbase6 : w.heap.size + 1 ≤ w6.heap.size := by omega
        have O7 : OwB w6 (w.heap.size + 1) (.slice (some ⟨gv, 0, none⟩) na capv) acc := by
          have o := Frm.ownsRow F7.out HS.out.own.1 (fun g hg => by
            simp only [Value.ownBlock, Option.some.injEq] at hg
            omega)
          exact ⟨o, by simp⟩
        have HO7 := Lib.hid O7
        clear r7 f7 O7
        go_wp2_with (first | (at_builtin; refine wp_push rfl _ _ rfl (w.heap.size + 1) (.slice (some ⟨gv, 0, none⟩) na capv) acc rfl HO7.out ⟨b, off6, none⟩ 1 cap6 [39] rfl rfl (isB_news I7.out) (by have := HNA.out; omega) hbase6 ?_; intro v8 w8 own8 gr8; have HX8 := Lib.hid (And.intro own8 gr8); clear own8 gr8))
        have f8 := (HS.out.fr.trans F7.out (New.refl _ _)).grown HX8.out.2 (fun g hg => .inr (by simp only [Value.ownBlock, Option.some.injEq] at hg; omega))
        have B8 := Lib.hid ((HS.out.bx.frm F7.out (by omega)).grown HX8.out.2 (fun g hg => by simp only [Value.ownBlock, Option.some.injEq] at hg; omega))
        have r8 := R7.out.grown HX8.out.2 (fun g hg => by simp only [Value.ownBlock, Option.some.injEq] at hg; omega)
        have hs8 := HX8.out.2.size
        have HTc := Lib.hid (pass_any noquote_any (enters_of Tryz.func170 (by kernel_rfl) rfl) r8)
        have hq2 := runL_le nqL s'
        have hrun := textL_run s'
        have hdn := drop_nq s'
        have HI8 := Lib.hid r8.is
        have F8 := Lib.hid f8
        have own8 := HX8.out.1
        obtain ⟨g8, cap8, ev8, _, hg8⟩ := own8.isB (fun x hx => by
          rcases List.mem_append.1 hx with g | g
          · exact HS.out.ac x g
          · simp at g; omega)
        have hl8 : (acc ++ [39]).length = na + 1 := by rw [List.length_append, HNA.out]; rfl
        rw [hl8] at ev8
        subst ev8
        have HO8 := Lib.hid own8
        clear own8 r8 f8
        generalize hq : runL nqL s' = q2 at *
        clear hq
        go_wp2_with fail
        try go_at_call 47
        refine HTc.out.mono ?_
        rintro ee w9 ⟨rfl, off9, cap9, r9, f9⟩
        have hs9 := f9.size
        have I9 := Lib.hid ((f9.isB HI8.out (fun _ => HB.out)).take q2)
        have O9 : OwB w9 (w.heap.size + 1) (.slice (some ⟨g8, 0, none⟩) (na + 1) cap8) (acc ++ [39]) := by
          have o := Frm.ownsRow f9 HO8.out.1 (fun g hg => by
            simp only [Value.ownBlock, Option.some.injEq] at hg
            omega)
          exact ⟨o, by simp⟩
        have HO9 := Lib.hid O9
        have F9 := Lib.hid (F8.out.trans f9 (New.refl _ _))
        have R9 := Lib.hid r9
        have B9 := Lib.hid (B8.out.frm f9 (by omega))
        have hlq : (s'.take q2).length = q2 := by rw [List.length_take]; omega
        have hbase9 : w.heap.size + 1 ≤ w9.heap.size := by omega
        have hlen9 : (acc ++ [39]).length + q2 ≤ 70368744177664 := by rw [hl8]; have := HR.out; have := HNA.out; omega
        clear r9 f9 O9
        go_wp2_with (first | (at_builtin; refine wp_push rfl _ _ rfl (w.heap.size + 1) (.slice (some ⟨g8, 0, none⟩) (na + 1) cap8) (acc ++ [39]) rfl HO9.out ⟨b, off7, none⟩ q2 cap7 (s'.take q2) rfl hlq (isB_news I9.out) hlen9 hbase9 ?_; intro v10 w10 own10 gr10; have HX10 := Lib.hid (And.intro own10 gr10); clear own10 gr10))
        have hk10 : r.drop (k + 2 + q2) = s'.drop q2 := by
          rw [show k + 2 + q2 = k + (2 + q2) by omega, ← List.drop_drop, HE.out, ← List.drop_drop]
          rfl
        have r10 := R9.out.grown HX10.out.2 (fun g hg => by simp only [Value.ownBlock, Option.some.injEq] at hg; omega)
        rw [← hk10] at r10
        have f10 := F9.out.grown HX10.out.2 (fun g hg => .inr (by simp only [Value.ownBlock, Option.some.injEq] at hg; omega))
        go_roundw
        case rel =>
          refine ⟨acc ++ [39] ++ s'.take q2, k + 2 + q2, off9, cap9, HX10.out.1, r10, by have := HR.out; omega, ?_, ?_, ?_, f10, ?_, ?_⟩
          · rw [List.length_append, hl8, hlq]; have := HNA.out; omega
          · rw [HQ.out, HE.out, textL_two, hrun, hk10, Option.map_map, Option.map_map]
            congr 1
            funext x
            simp only [Function.comp, List.append_assoc, List.cons_append, List.nil_append, Prod.mk.injEq, true_and]
            omega
          · rw [hk10]; exact hdn
          · exact B9.out.grown HX10.out.2 (fun g hg => by simp only [Value.ownBlock, Option.some.injEq] at hg; omega)
          · intro x hx
            rcases List.mem_append.1 hx with g | g
            · rcases List.mem_append.1 g with g | g
              · exact HS.out.ac x g
              · simp at g; omega
            · exact I9.out.lt x g
        case measure =>
          rw [r10.len, hk10, HML.out, List.length_drop, ← HN1.out]
          simp
          omega
      · have HEND := Lib.hid (textL_end (s := s) (fun d t he hd => h2 ⟨t, by rw [he, hd]⟩))
        rw [e] at c0 hbd
        have d0 : wr.cell? ⟨b, off5, none⟩ = some (.int .u8 (39 : Nat)) := hbd.c 0 39 rfl
        obtain ⟨n1, hn1⟩ : ∃ n1, (39 :: s).length = n1 := ⟨_, rfl⟩
        have hn1p : 1 ≤ n1 := by rw [← hn1]; simp
        have htest : (n1 = 1) ∨ (1 < n1 ∧ ∃ d : Nat, wr.cell? ⟨b, off5 + 1, none⟩ = some (.int .u8 (d : Int)) ∧ ((d : Int) == 39) = false) := by
          cases s with
          | nil => left; rw [← hn1]; rfl
          | cons d t =>
            right
            refine ⟨by rw [← hn1]; simp, d, hbd.c 1 d rfl, ?_⟩
            have : ¬ d = 39 := fun hd => h2 ⟨t, by rw [hd]⟩
            exact beq_eq_false_iff_ne.2 (by omega)
        have HN1 := Lib.hid hn1
        rw [hn1] at c0
        have kz : ((n1 : Int) == 0) = false := beq_eq_false_iff_ne.2 (by omega)
        have hcap1 : n1 ≤ cap5 := by have := hcp; rw [e] at this; omega
        clear hbd hn1
        have hfin : textL r = some (acc, k + 1) := by rw [heq, e, HEND.out]; simp
        have HT := Lib.hid (take_any HS.out.rds 1 (by rw [e]; simp))
        clear heq e HN1
        have hj : (∃ (u : Unit), n1 = 1) ∨ ((1 : Int) < (n1 : Int) ∧ ∃ d : Nat, wr.cell? ⟨b, off5 + 1, none⟩ = some (.int .u8 (d : Int)) ∧ ((d : Int) == 39) = false) := by
          rcases htest with ht | ⟨ht, hh⟩
          · exact .inl ⟨(), ht⟩
          · exact .inr ⟨by omega, hh⟩
        clear htest
        rcases hj with ⟨_, rfl⟩ | ⟨ht, d, d1, d2⟩
        all_goals
          obtain ⟨gv, capv, ev, isv, hgv⟩ := HS.out.own.isB HS.out.ac
          have hst := str_own HS.out.own
          have N0 := HS.out.bx
          obtain ⟨⟨e0, e1, e2, e3⟩, f0, f1, f4, f3⟩ := N0.cells
          have N0H := Lib.hid N0
          clear N0
          have hP1 := HP.out
          unfold txtE at hP1
          rw [hfin] at hP1
          simp only at hP1
          subst ev
          obtain ⟨n, hn⟩ : ∃ n, acc.length = n := ⟨_, rfl⟩
          by_cases c200 : n > 200
          · rw [if_pos (by omega)] at hP1
            have HX := Lib.hid (show P (.returned (.tuple #[Tkv 0 ⟨#[]⟩ 0 0, .int .i64 1])) ((((wr.setCell ⟨w.heap.size, 0, none⟩ (.int .i64 0)).setCell ⟨w.heap.size, 1, none⟩ (.string ⟨#[]⟩)).setCell ⟨w.heap.size, 2, none⟩ (.int .i64 0)).setCell ⟨w.heap.size, 3, none⟩ (.int .i64 0)) by
              obtain ⟨_, a2⟩ := Rd.boxed HS.out.fr HS.out.rds hrd hbl (.int .i64 0) (.string ⟨#[]⟩) (.int .i64 0) (.int .i64 0)
              rw [← hP1]
              exact ⟨rfl, a2⟩)
            have k200 : decide ((200 : Int) < (n : Int)) = true := by simp; omega
            rw [hn] at hst ⊢
            clear hP1 hfin hn isv HT
            go_wp2_with fail
            exact tok_ret Tryz.results116 (box_four N0H.out _ _ _ _) rfl rfl rfl HX.out
          · rw [if_neg (by omega)] at hP1
            have k200 : decide ((200 : Int) < (n : Int)) = false := by simp; omega
            have HOW := Lib.hid HS.out.own
            have HNN := Lib.hid hn
            rw [hn] at hst HOW ⊢
            generalize hS : strB acc = S at hst
            have HSS := Lib.hid hS
            have HP1 := Lib.hid hP1
            clear hP1 hfin hn isv hst hS
            go_wp2_with fail
            try go_at_call 110
            refine HT.out.mono ?_
            rintro ee w5 ⟨rfl, off6, cap6, r6, f6⟩
            rw [List.drop_drop] at r6
            have N6 := N0H.out.frm f6 (by omega)
            obtain ⟨⟨e0, e1, e2, e3⟩, f0, f1, f4, f3⟩ := N6.cells
            have hst2 : (convert 45 9 (.slice (some ⟨gv, 0, none⟩) n capv)).run Tryz.prog w5 = .ok (.string S) w5 := by
              have o5 := Frm.ownsRow f6 HS.out.own.1 (fun g hg => by
                simp only [Value.ownBlock, Option.some.injEq] at hg
                omega)
              rw [← HSS.out]
              have o6 : OwB w5 (w.heap.size + 1) (.slice (some ⟨gv, 0, none⟩) acc.length capv) acc := ⟨o5, by simp⟩
              have := str_own o6
              rw [HNN.out] at this
              exact this
            have HX := Lib.hid (show P (.returned (.tuple #[Tkv 4 S 0 0, .int .i64 0])) ((((w5.setCell ⟨w.heap.size, 0, none⟩ (.int .i64 4)).setCell ⟨w.heap.size, 1, none⟩ (.string S)).setCell ⟨w.heap.size, 2, none⟩ (.int .i64 0)).setCell ⟨w.heap.size, 3, none⟩ (.int .i64 0)) by
              obtain ⟨a1, a2⟩ := Rd.boxed (HS.out.fr.trans f6 (New.refl _ _)) r6 hrd hbl (.int .i64 4) (.string S) (.int .i64 0) (.int .i64 0)
              rw [← HP1.out, ← HSS.out]
              rw [← HSS.out] at a1 a2
              exact ⟨rfl, _, _, a1, a2⟩)
            have N6H := Lib.hid N6
            clear r6 f6 N6
            go_wp2_with fail
            exact tok_ret Tryz.results116 (box_four N6H.out _ _ _ _) rfl rfl rfl HX.out

end Go.Proofs.YtkffomfbnbcgaaaGreatDoor

namespace Go.Proofs.YtkffomfbnbcgaaaGreatDoor
set_option maxRecDepth 100000
open Go.RowKit Go.Joins Go.ChangeShapes Go.WideShapes
set_option linter.unusedVariables false
set_option linter.unusedSimpArgs false

theorem TokP.open {x : Except Nat (Tk × Nat)} {w w1 w2 : World} {rd b : Nat} {l : List Nat} {e : Ending} (h : TokP x w1 rd b l e w2) (hb : Below w.heap.size w w1) (h1 : rd < w.heap.size) (h2 : b < w.heap.size) :
    ∃ k s n sc er, e = .returned (.tuple #[Tkv k s n sc, .int .i64 er]) ∧ Frm (fun k => k = rd) w1 w2 ∧
      TokP x w rd b l (.returned (.tuple #[Tkv k s n sc, .int .i64 er])) ((((w2.setCell ⟨w.heap.size, 0, none⟩ (.int .i64 k)).setCell ⟨w.heap.size, 1, none⟩ (.string s)).setCell ⟨w.heap.size, 2, none⟩ (.int .i64 n)).setCell ⟨w.heap.size, 3, none⟩ (.int .i64 sc)) := by
  cases x with
  | error er =>
    obtain ⟨rfl, f⟩ := h
    have f0 := (Frm.of_below (F := fun k => k = rd) hb).trans f (New.refl _ _)
    exact ⟨_, _, _, _, _, rfl, f, rfl, (((f0.setCell (.inr (Nat.le_refl _)) 0 _).setCell (.inr (Nat.le_refl _)) 1 _).setCell (.inr (Nat.le_refl _)) 2 _).setCell (.inr (Nat.le_refl _)) 3 _⟩
  | ok y =>
    obtain ⟨t, k⟩ := y
    obtain ⟨rfl, off', cap', r, f⟩ := h
    have f0 := (Frm.of_below (F := fun k => k = rd) hb).trans f (New.refl _ _)
    obtain ⟨a1, a2⟩ := Rd.boxed f0 r h1 h2 (.int .i64 t.kind) (.string (strB t.text)) (.int .i64 t.num) (.int .i64 t.scale)
    exact ⟨_, _, _, _, _, rfl, f, rfl, off', cap', a1, a2⟩
theorem tokL_word {c : Nat} {r : List Nat} (h : bwL c = true) : tokL (c :: r) = wrdE (c :: r) := by
  rw [tokL_cons, tokC_eq, if_pos h]; rfl
theorem tokL_num {c : Nat} {r : List Nat} (h : bwL c = false) (h2 : dgL c = true) : tokL (c :: r) = numE (c :: r) := by
  rw [tokL_cons, tokC_eq, if_neg (by simp [h]), if_pos h2]; rfl
theorem tokL_txt (r : List Nat) : tokL (39 :: r) = txtE r := by
  rw [tokL_cons, tokC_eq, if_neg (by decide), if_neg (by decide), if_pos rfl]
  unfold txtE
  cases textL r <;> rfl
theorem tokL_sgn {c : Nat} {r : List Nat} (h : bwL c = false) (h2 : dgL c = false) (h3 : ¬ c = 39) : tokL (c :: r) = sgnE (c :: r) := by
  rw [tokL_cons, tokC_eq, if_neg (by simp [h]), if_neg (by simp [h2]), if_neg h3]; rfl
set_option maxHeartbeats 4000000 in
theorem token_any {w : World} {rd b off cap : Nat} {c : Nat} {r : List Nat} (h : Rd w rd b off cap (c :: r)) (hE : ErrR w) (hrE : 3 ≠ rd) :
    Calls Tryz.prog 49 #[.pointer (some ⟨rd, 0, none⟩)] w (TokP (tokL (c :: r)) w rd b (c :: r)) := by
  have b1 : Below w.heap.size w (w.alloc (.cells #[.int .i64 0, .string ⟨#[]⟩, .int .i64 0, .int .i64 0] 47)) := (Below.refl _ _).alloc (Nat.le_refl _) _
  have h1 := h.below b1
  have hE1 := hE.below b1
  have hbl : b < w.heap.size := h.is.hb (by simp)
  have hrd : rd < w.heap.size := (Array.getElem?_eq_some_iff.1 h.hd).1
  have hc8 : c < 256 := h.is.lt c (List.mem_cons_self ..)
  have hnew : TBox (w.alloc (.cells #[.int .i64 0, .string ⟨#[]⟩, .int .i64 0, .int .i64 0] 47)) w.heap.size 0 0 0 ⟨#[]⟩ := heap_alloc_new w (.cells #[.int .i64 0, .string ⟨#[]⟩, .int .i64 0, .int .i64 0] 47)
  have HN := Lib.hid hnew
  have HBel := Lib.hid b1
  have c0 : (w.alloc (.cells #[.int .i64 0, .string ⟨#[]⟩, .int .i64 0, .int .i64 0] 47)).cell? ⟨rd, 0, none⟩ = some (.slice (some ⟨b, off, none⟩) (c :: r).length cap) := by rw [cell_of_block h1.hd]; rfl
  have d0 : (w.alloc (.cells #[.int .i64 0, .string ⟨#[]⟩, .int .i64 0, .int .i64 0] 47)).cell? ⟨b, off, none⟩ = some (.int .u8 (c : Int)) := h1.is.c 0 c rfl
  have hlp : 0 < (c :: r).length := by simp
  obtain ⟨n, hn⟩ : ∃ n, (c :: r).length = n := ⟨_, rfl⟩
  rw [hn] at c0 hlp
  have HB1 := Lib.hid (begins_any c (w.alloc (.cells #[.int .i64 0, .string ⟨#[]⟩, .int .i64 0, .int .i64 0] 47)) hc8)
  have HD1 := Lib.hid (digit_any c (w.alloc (.cells #[.int .i64 0, .string ⟨#[]⟩, .int .i64 0, .int .i64 0] 47)) hc8)
  generalize hP : TokP (tokL (c :: r)) w rd b (c :: r) = P
  have HP := Lib.hid hP
  have H1 := Lib.hid h1
  have HE1 := Lib.hid hE1
  clear hP h h1 hE hE1 hnew b1 hn
  go_enter Tryz.func49, Tryz.ntmps49
  cases q1 : bwL c with
  | true =>
    rw [q1] at HB1
    have HC := Lib.hid (word_any H1.out q1)
    rw [tokL_word q1] at HP
    generalize wrdE (c :: r) = X at *
    generalize (c :: r) = l at *
    go_wp2_with (first | (go_at_call 112; refine HB1.out.mono ?_; rintro e w' ⟨rfl, rfl⟩))
    try go_at_call 113
    refine HC.out.mono ?_
    rintro e w2 ht
    obtain ⟨k, s, n2, sc, er, rfl, f2, hx⟩ := ht.open HBel.out hrd hbl
    rw [HP.out] at hx
    have HX := Lib.hid hx
    have hbx := HN.out.frm f2 (by omega)
    obtain ⟨⟨e0, e1, e2, e3⟩, f0, f1, f4, f3⟩ := hbx.cells
    have HBX := Lib.hid hbx
    clear hx ht f2 hbx
    unfold Tkv at *
    go_wp2_with fail
    exact tok_ret Tryz.results49 (box_four HBX.out _ _ _ _) rfl rfl rfl HX.out
  | false =>
    rw [q1] at HB1
    cases q2 : dgL c with
    | true =>
      rw [q2] at HD1
      have HC := Lib.hid (number_any H1.out q2 HE1.out hrE)
      rw [tokL_num q1 q2] at HP
      generalize numE (c :: r) = X at *
      generalize (c :: r) = l at *
      go_wp2_with (first | (go_at_call 112; refine HB1.out.mono ?_; rintro e w' ⟨rfl, rfl⟩) | (go_at_call 114; refine HD1.out.mono ?_; rintro e w' ⟨rfl, rfl⟩))
      try go_at_call 115
      refine HC.out.mono ?_
      rintro e w2 ht
      obtain ⟨k, s, n2, sc, er, rfl, f2, hx⟩ := ht.open HBel.out hrd hbl
      rw [HP.out] at hx
      have HX := Lib.hid hx
      have hbx := HN.out.frm f2 (by omega)
      obtain ⟨⟨e0, e1, e2, e3⟩, f0, f1, f4, f3⟩ := hbx.cells
      have HBX := Lib.hid hbx
      clear hx ht f2 hbx
      unfold Tkv at *
      go_wp2_with fail
      exact tok_ret Tryz.results49 (box_four HBX.out _ _ _ _) rfl rfl rfl HX.out
    | false =>
      rw [q2] at HD1
      by_cases q3 : c = 39
      · subst q3
        have HC := Lib.hid (text_any H1.out)
        rw [tokL_txt] at HP
        generalize txtE r = X at *
        generalize (39 :: r) = l at *
        go_wp2_with (first | (go_at_call 112; refine HB1.out.mono ?_; rintro e w' ⟨rfl, rfl⟩) | (go_at_call 114; refine HD1.out.mono ?_; rintro e w' ⟨rfl, rfl⟩))
        try go_at_call 116
        refine HC.out.mono ?_
        rintro e w2 ht
        obtain ⟨k, s, n2, sc, er, rfl, f2, hx⟩ := ht.open HBel.out hrd hbl
        rw [HP.out] at hx
        have HX := Lib.hid hx
        have hbx := HN.out.frm f2 (by omega)
        obtain ⟨⟨e0, e1, e2, e3⟩, f0, f1, f4, f3⟩ := hbx.cells
        have HBX := Lib.hid hbx
        clear hx ht f2 hbx
        unfold Tkv at *
        go_wp2_with fail
        exact tok_ret Tryz.results49 (box_four HBX.out _ _ _ _) rfl rfl rfl HX.out
      · have HC := Lib.hid (sign_any H1.out (by simp))
        rw [tokL_sgn q1 q2 q3] at HP
        have q4 : ((c : Int) == 39) = false := beq_eq_false_iff_ne.2 (by omega)
        generalize sgnE (c :: r) = X at *
        generalize (c :: r) = l at *
        go_wp2_with (first | (go_at_call 112; refine HB1.out.mono ?_; rintro e w' ⟨rfl, rfl⟩) | (go_at_call 114; refine HD1.out.mono ?_; rintro e w' ⟨rfl, rfl⟩))
        try go_at_call 117
        refine HC.out.mono ?_
        rintro e w2 ht
        obtain ⟨k, s, n2, sc, er, rfl, f2, hx⟩ := ht.open HBel.out hrd hbl
        rw [HP.out] at hx
        have HX := Lib.hid hx
        have hbx := HN.out.frm f2 (by omega)
        obtain ⟨⟨e0, e1, e2, e3⟩, f0, f1, f4, f3⟩ := hbx.cells
        have HBX := Lib.hid hbx
        clear hx ht f2 hbx
        unfold Tkv at *
        go_wp2_with fail
        exact tok_ret Tryz.results49 (box_four HBX.out _ _ _ _) rfl rfl rfl HX.out

end Go.Proofs.YtkffomfbnbcgaaaGreatDoor
