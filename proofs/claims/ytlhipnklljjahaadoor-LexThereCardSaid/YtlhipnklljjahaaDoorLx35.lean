/-
  A name is one token (layer 12).
  Conditions: none.
-/
import Derived.Test.YtlhipnklljjahaaDoorLx34
import Derived.Test.YtlhipnklljjahaaDoorLx31
namespace Go.Proofs.YtlhipnklljjahaaDoor
set_option maxRecDepth 100000
open Go.RowKit Go.Joins Go.ChangeShapes Go.WideShapes
set_option linter.unusedVariables false
set_option linter.unusedSimpArgs false

theorem bw_nbl {c : Nat} (h : bwL c = true) : blL c = false := by
  cases hb : blL c with
  | false => rfl
  | true =>
    rcases blk_cases hb with rfl | rfl | rfl | rfl <;> exact absurd h (by decide)
theorem all_of_run {f : Nat → Bool} (l : List Nat) (h : runL f l = l.length) : ∀ x ∈ l, f x = true := by
  intro x hx
  refine runL_in l x ?_
  rw [h, List.take_length]
  exact hx
theorem name_tok (s : ByteArray) (h : nameB s = true) : toksE (sl s) = .ok [⟨1, sl s, 0, 0⟩] := by
  unfold nameB at h
  simp only [Bool.and_eq_true, Bool.not_eq_true', beq_iff_eq, decide_eq_true_eq, beq_eq_false_iff_ne] at h
  obtain ⟨⟨⟨⟨h0, h32⟩, hb⟩, hres⟩, hrun⟩ := h
  have hlen := sl_length s
  rw [← hlen] at hrun
  have hall := all_of_run _ hrun
  have hiw : ∀ x ∈ sl s, iwL x = true := fun x hx => by
    have := hall x hx
    unfold inL at this
    simp only [Bool.and_eq_true] at this
    exact this.1
  have hlow : (sl s).map lowL = sl s := by
    conv => rhs; rw [← List.map_id (sl s)]
    refine List.map_congr_left fun x hx => ?_
    have := hall x hx
    unfold inL at this
    simp only [Bool.and_eq_true, Bool.not_eq_true'] at this
    unfold lowL
    rw [this.2]
    rfl
  have hrw := runL_all1 _ hiw
  unfold toksE
  rw [if_neg (by omega)]
  cases hs : sl s with
  | nil => rw [hs] at hlen; simp at hlen; omega
  | cons c r =>
    rw [hs] at hb hlow hrw hlen
    have hb : bwL c = true := hb
    have ht : tokL (c :: r) = .ok (⟨1, c :: r, 0, 0⟩, (c :: r).length) := by
      rw [tokL_word hb]
      unfold wrdE
      rw [hrw, if_neg (by omega), List.take_length, hlow]
    rw [lexL_ok c r (bw_nbl hb) _ _ ht, List.drop_length, lexL_nil]
    rfl

/-- append of a list of tokens onto one of the call's own -/
theorem run_appT (w : World) (B : Nat) (v : Value) (l : List Tk) (hown : OwT w B v l) (hB : B ≤ w.heap.size) (a : Option Addr) (c : Nat) (rs : List Tk) (ha : LtA w a rs) (hc : a = none → c = 0) (hsz : l.length + rs.length ≤ 4294967297) (ty : TypeId) :
    ∃ v' w', (Builtin.append_ #[23, 23] ty #[v, .slice a rs.length c]).run Tryd.prog w = .ok v' w' ∧ OwT w' B v' (l ++ rs) ∧ w.grownBy w' v.ownBlock := by
  obtain ⟨i0, hi, hz0, hz1, hz2⟩ := info_parts infoTk
  rcases ha with ⟨rfl, rfl⟩ | ⟨g, rfl, hg, hcells⟩
  · rw [hc rfl]
    refine ⟨v, w, run_append_owned_none (P := Tryd.prog) (w := w) B 23 ty 29 i0 4 Tryd.underlying23 hi v l.length (tkcells l) hown, ?_, ⟨rfl, rfl, rfl, Nat.le_refl _, fun _ _ _ => rfl⟩⟩
    rw [List.append_nil]
    exact hown
  · obtain ⟨v', w', hr, h1, h2, h3⟩ := run_append_own (P := Tryd.prog) w B 23 ty 29 i0 _ 4 40 Tryd.underlying23 hi hz0 hz1 hz2 rfl (by decide) v l.length (tkcells l) hown ⟨g, 0, none⟩ rs.length c (tkcells rs) (by rw [tkcells_length]) (fun j u hj => by
      have ea : (⟨g, 0, none⟩ : Addr).add j = ⟨g, j, none⟩ := by unfold Addr.add; split <;> simp_all
      rw [ea]
      exact hcells j u hj) (tkcells_one rs) (by unfold maxLen; omega) (by omega) hB
    refine ⟨v', w', hr, ?_, h2⟩
    unfold OwT
    rw [tkcells_app, List.length_append]
    exact h1
theorem OwT.lta2 {w : World} {B : Nat} {v : Value} {l : List Tk} (h : OwT w B v l) : ∃ a cap, v = .slice a l.length cap ∧ LtA w a l ∧ (a = none → cap = 0) := by
  obtain ⟨a, cap, rfl, hf⟩ := h.form
  refine ⟨a, cap, rfl, ?_⟩
  rcases hf with ⟨h1, h2, h3⟩ | ⟨g, h1, _, h3, _, h5⟩
  · exact ⟨.inl ⟨h1, h2⟩, fun _ => h3⟩
  · exact ⟨.inr ⟨g, h1, h3, h5⟩, fun e => by rw [h1] at e; cases e⟩
theorem LtA.grown {w w' : World} {a : Option Addr} {ts : List Tk} {row : Option Nat} (h : LtA w a ts) (hg : w.grownBy w' row) (hne : ∀ b, a = some ⟨b, 0, none⟩ → row ≠ some b) : LtA w' a ts := by
  rcases h with h | ⟨g, h1, h2, h3⟩
  · exact .inl h
  · exact .inr ⟨g, h1, Nat.lt_of_lt_of_le h2 hg.size, fun j u hj => (World.cell?_of_block (a := ⟨g, j, none⟩) (hg.block g h2 (fun e => hne g h1 e.symm))).trans (h3 j u hj)⟩
theorem LtA.lt {w : World} {a : Option Addr} {ts : List Tk} (h : LtA w a ts) : ∀ b, a = some ⟨b, 0, none⟩ → b < w.heap.size := by
  intro b hb
  rcases h with ⟨h, _⟩ | ⟨g, h1, h2, h3⟩
  · rw [h] at hb; cases hb
  · rw [h1] at hb; injection hb with hb; injection hb with hb; omega
theorem lexGo_err : ∀ (n : Nat) (l : List Nat) (er : Nat), lexGo n l = .error er → 0 < er
  | 0, l, er, h => by cases h
  | n + 1, l, er, h => by
    rw [lexGo_succ] at h
    cases hd : l.drop (runL blL l) with
    | nil => rw [hd] at h; cases h
    | cons c r =>
      rw [hd] at h
      simp only at h
      cases ht : tokL (c :: r) with
      | error e =>
        rw [ht] at h
        injection h with h
        rw [← h]
        exact (tokL_err _ (by simp) e ht).1
      | ok x =>
        rw [ht] at h
        simp only at h
        cases hu : lexGo n ((c :: r).drop x.2) with
        | error e =>
          rw [hu] at h
          injection h with h
          rw [← h]
          exact lexGo_err n _ e hu
        | ok us => rw [hu] at h; cases h
theorem toksE_err (l : List Nat) (er : Nat) (h : toksE l = .error er) : 0 < er := by
  unfold toksE at h
  split at h
  · injection h with h; omega
  · exact lexGo_err _ _ _ h
theorem sl_app (s t : ByteArray) : sl (s ++ t) = sl s ++ sl t := by
  unfold sl
  rw [ByteArray.data_append, Array.toList_append, List.map_append]
theorem sl_join (s t : ByteArray) : sl (s ++ ⟨#[32]⟩ ++ t) = sl s ++ 32 :: sl t := by
  rw [sl_app, sl_app, List.append_assoc]
  rfl
theorem toks_join {a b : List Nat} {ts us : List Tk} (h1 : toksE a = .ok ts) (h2 : toksE b = .ok us) (hl : a.length + 1 + b.length ≤ 4000) : toksE (a ++ 32 :: b) = .ok (ts ++ us) := by
  unfold toksE at h1 h2 ⊢
  split at h1
  · cases h1
  · split at h2
    · cases h2
    · rw [if_neg (by simp; omega), lexL_join rfl a b ts h1, h2]

end Go.Proofs.YtlhipnklljjahaaDoor
