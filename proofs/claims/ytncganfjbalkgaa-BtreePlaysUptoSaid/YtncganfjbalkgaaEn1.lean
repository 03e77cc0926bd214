/-
  Lists of entries (a key, a number) in memory; the document's place of a key in one (haspref07.Place): a contract over the translation.
  Conditions: the list lies in memory.
-/
import Derived.Test.YtncganfjbalkgaaFrm
import Derived.Test.YtncganfjbalkgaaVl
namespace Go.Proofs.Ytncganfjbalkgaa
open Go.RowKit Go.Joins Go.ChangeShapes Go.WideShapes
set_option linter.unusedVariables false

/-- an entry: its key's bytes, its number -/
abbrev Ent := List Nat × Int
/-- an entry as it lies: its key's slice, its number -/
abbrev Ev := Value × Int
def ecells : List Ev → List Value
  | [] => []
  | e :: r => [e.1, .int .i64 e.2] ++ ecells r
theorem ecells_length (l : List Ev) : (ecells l).length = l.length * 2 := by
  induction l with
  | nil => rfl
  | cons v r ih => simp [ecells, ih]; omega
theorem ecells_app (l r : List Ev) : ecells (l ++ r) = ecells l ++ ecells r := by
  induction l with
  | nil => rfl
  | cons v l ih => simp only [List.cons_append, ecells, ih, List.append_assoc]
theorem ecells_at (l : List Ev) (i : Nat) (v : Ev) (h : l[i]? = some v) : (ecells l)[i * 2]? = some v.1 ∧ (ecells l)[i * 2 + 1]? = some (.int .i64 v.2) := by
  induction l generalizing i with
  | nil => simp at h
  | cons u l ih =>
    unfold ecells
    cases i with
    | zero =>
      simp only [List.getElem?_cons_zero, Option.some.injEq] at h
      subst h
      exact ⟨rfl, rfl⟩
    | succ i =>
      rw [List.getElem?_cons_succ] at h
      obtain ⟨h1, h2⟩ := ih i h
      have e : ∀ j, ([u.1, Value.int .i64 u.2] ++ ecells l)[(i + 1) * 2 + j]? = (ecells l)[i * 2 + j]? := by
        intro j
        rw [List.getElem?_append_right (by simp; omega)]
        congr 1
        simp
        omega
      exact ⟨(e 0).trans h1, (e 1).trans h2⟩

/-- a key as it lies, in blocks of R -/
def KeyAt (w : World) (R : Bl) (u : Value) (k : List Nat) : Prop := ∃ (a : Option Addr) (b off cap : Nat), u = .slice a k.length cap ∧ (k.length = 0 ∨ (a = some ⟨b, off, none⟩ ∧ R b)) ∧ IsB w b off k
theorem KeyAt.step {w w1 : World} {R F : Bl} {u : Value} {k : List Nat} (h : KeyAt w R u k) (hf : Frm F w w1) (hd : ∀ k, R k → ¬ F k) : KeyAt w1 R u k := by
  obtain ⟨a, b, off, cap, e, h1, h2⟩ := h
  refine ⟨a, b, off, cap, e, h1, hf.isB h2 (fun hl => ?_)⟩
  rcases h1 with h1 | h1
  · omega
  · exact hd _ h1.2
theorem KeyAt.mono {w : World} {R R' : Bl} {u : Value} {k : List Nat} (h : KeyAt w R u k) (hr : ∀ k, R k → R' k) : KeyAt w R' u k := by
  obtain ⟨a, b, off, cap, e, h1, h2⟩ := h
  exact ⟨a, b, off, cap, e, h1.imp_right (fun h => ⟨h.1, hr _ h.2⟩), h2⟩
theorem KeyAt.one {w : World} {R : Bl} {u : Value} {k : List Nat} (h : KeyAt w R u k) : u.oneCell' = true := by
  obtain ⟨a, b, off, cap, rfl, -⟩ := h
  rfl
/-- entries as they lie, and what they are -/
structure EntsAt (w : World) (R : Bl) (L : List Ev) (l : List Ent) : Prop where
  len : L.length = l.length
  at' : ∀ (i : Nat) (p : Ev) (e : Ent), L[i]? = some p → l[i]? = some e → KeyAt w R p.1 e.1 ∧ p.2 = e.2
theorem EntsAt.step {w w1 : World} {R F : Bl} {L : List Ev} {l : List Ent} (h : EntsAt w R L l) (hf : Frm F w w1) (hd : ∀ k, R k → ¬ F k) : EntsAt w1 R L l :=
  ⟨h.len, fun i p e hp he => ⟨(h.at' i p e hp he).1.step hf hd, (h.at' i p e hp he).2⟩⟩
theorem EntsAt.mono {w : World} {R R' : Bl} {L : List Ev} {l : List Ent} (h : EntsAt w R L l) (hr : ∀ k, R k → R' k) : EntsAt w R' L l :=
  ⟨h.len, fun i p e hp he => ⟨(h.at' i p e hp he).1.mono hr, (h.at' i p e hp he).2⟩⟩
theorem EntsAt.nil (w : World) (R : Bl) : EntsAt w R [] [] := ⟨rfl, fun i p e hp => by simp at hp⟩
theorem EntsAt.app {w : World} {R : Bl} {L M : List Ev} {l m : List Ent} (h : EntsAt w R L l) (h2 : EntsAt w R M m) : EntsAt w R (L ++ M) (l ++ m) := by
  refine ⟨by rw [List.length_append, List.length_append, h.len, h2.len], fun i p e hp he => ?_⟩
  by_cases c : i < L.length
  · rw [List.getElem?_append_left c] at hp
    rw [List.getElem?_append_left (by rw [← h.len]; exact c)] at he
    exact h.at' i p e hp he
  · rw [List.getElem?_append_right (by omega)] at hp
    rw [List.getElem?_append_right (by rw [← h.len]; omega), ← h.len] at he
    exact h2.at' _ p e hp he
theorem EntsAt.take {w : World} {R : Bl} {L : List Ev} {l : List Ent} (h : EntsAt w R L l) (k : Nat) : EntsAt w R (L.take k) (l.take k) := by
  refine ⟨by rw [List.length_take, List.length_take, h.len], fun i p e hp he => ?_⟩
  rw [List.getElem?_take] at hp he
  split at hp
  · rename_i c
    rw [if_pos c] at he
    exact h.at' i p e hp he
  · cases hp
theorem EntsAt.drop {w : World} {R : Bl} {L : List Ev} {l : List Ent} (h : EntsAt w R L l) (k : Nat) : EntsAt w R (L.drop k) (l.drop k) := by
  refine ⟨by rw [List.length_drop, List.length_drop, h.len], fun i p e hp he => ?_⟩
  rw [List.getElem?_drop] at hp he
  exact h.at' _ p e hp he
theorem EntsAt.one {w : World} {R : Bl} {u : Value} {k : List Nat} (id : Int) (h : KeyAt w R u k) : EntsAt w R [(u, id)] [(k, id)] := by
  refine ⟨rfl, fun i p e hp he => ?_⟩
  cases i with
  | zero =>
    simp only [List.getElem?_cons_zero, Option.some.injEq] at hp he
    subst hp he
    exact ⟨h, rfl⟩
  | succ i => simp at hp
theorem EntsAt.cells_one {w : World} {R : Bl} : ∀ {L : List Ev} {l : List Ent}, EntsAt w R L l → ∀ u ∈ ecells L, u.oneCell' = true
  | [], _, _ => by intro u hu; cases hu
  | p :: L, [], h => by have := h.len; simp at this
  | p :: L, e :: l, h => by
    intro u hu
    unfold ecells at hu
    rcases List.mem_append.1 hu with h1 | h1
    · simp only [List.mem_cons, List.not_mem_nil, or_false] at h1
      rcases h1 with rfl | rfl
      · exact ((h.at' 0 p e rfl rfl).1).one
      · rfl
    · exact EntsAt.cells_one (w := w) (R := R) (L := L) (l := l) ⟨by have := h.len; simpa using this, fun i p e hp he => h.at' (i + 1) p e hp he⟩ u h1

/-- a list of entries of the call's own -/
def OwE (w : World) (base : Nat) (v : Value) (L : List Ev) : Prop := w.ownsRow base 42 2 v L.length (ecells L) ∧ v ≠ .slice none 0 0
/-- the list of entries in memory: in blocks of R, behind B -/
structure MEx (B : Nat) (w : World) (R : Bl) (v : Value) (L : List Ev) (l : List Ent) : Prop where
  own : OwE w B v L
  ents : EntsAt w R L l
  rv : ∀ k, v.ownBlock = some k → R k
  rb : ∀ k, R k → B ≤ k ∧ k < w.heap.size
theorem Frm.owE {F : Bl} {w w1 : World} (h : Frm F w w1) {base : Nat} {v : Value} {L : List Ev} (ho : OwE w base v L) (hf : ∀ k, v.ownBlock = some k → ¬ F k) : OwE w1 base v L := ⟨h.ownsRow ho.1 hf, ho.2⟩
theorem MEx.step {B : Nat} {w w1 : World} {R F : Bl} {v : Value} {L : List Ev} {l : List Ent} (h : MEx B w R v L l) (hf : Frm F w w1) (hd : ∀ k, R k → ¬ F k) : MEx B w1 R v L l :=
  ⟨hf.owE h.own (fun k hk => hd k (h.rv k hk)), h.ents.step hf hd, h.rv, fun k hk => ⟨(h.rb k hk).1, Nat.lt_of_lt_of_le (h.rb k hk).2 hf.size⟩⟩
theorem MEx.below {B : Nat} {w w1 : World} {R : Bl} {v : Value} {L : List Ev} {l : List Ent} (h : MEx B w R v L l) (hb : Below w.heap.size w w1) : MEx B w1 R v L l := h.step (Frm.of_below (F := fun _ => False) hb) (fun _ _ h => h)
theorem OwE.form {w : World} {base : Nat} {v : Value} {L : List Ev} (h : OwE w base v L) : ∃ g cap, v = .slice (some ⟨g, 0, none⟩) L.length cap ∧ base ≤ g ∧ g < w.heap.size ∧ (∀ o, w.frozen? ⟨g, o, none⟩ = false) ∧
    ∀ (i : Nat) (p : Ev), L[i]? = some p → w.cell? ⟨g, i * 2, none⟩ = some p.1 ∧ w.cell? ⟨g, i * 2 + 1, none⟩ = some (.int .i64 p.2) := by
  obtain ⟨⟨h1, h2⟩, h3⟩ := h
  rcases h2 with ⟨e, _⟩ | ⟨g, cap, cur, e, hb, hg, hn, hc, hs, ht⟩
  · exact absurd e h3
  · have hc : ∀ (j : Nat) (u : Value), (ecells L)[j]? = some u → w.cell? ⟨g, j, none⟩ = some u := by
      intro j u hj
      rw [cell_of_block hg j]
      rw [← ht, List.getElem?_take] at hj
      split at hj
      · rw [← Array.getElem?_toList]; exact hj
      · cases hj
    exact ⟨g, cap, e, hb, (Array.getElem?_eq_some_iff.1 hg).1, fun o => unfrozen_of_block hg o, fun i p hp => ⟨hc _ _ (ecells_at L i p hp).1, hc _ _ (ecells_at L i p hp).2⟩⟩

/-- the place of the first entry that isn't ahead of a key, and whether it is of that key -/
def ePlN : List Ent → List Nat → Nat → Nat × Bool
  | [], _, i => (i, false)
  | e :: r, k, i => if 0 ≤ ordB e.1 k then (i, decide (ordB e.1 k = 0)) else ePlN r k (i + 1)
def ePl (l : List Ent) (k : List Nat) : Nat × Bool := ePlN l k 0
theorem ePlN_le : ∀ (l : List Ent) (k : List Nat) (i : Nat), i ≤ (ePlN l k i).1 ∧ (ePlN l k i).1 ≤ i + l.length ∧ ((ePlN l k i).2 = true → (ePlN l k i).1 < i + l.length)
  | [], k, i => ⟨Nat.le_refl _, by simp [ePlN], by simp [ePlN]⟩
  | e :: r, k, i => by
    unfold ePlN
    split
    · exact ⟨Nat.le_refl _, by simp, by simp⟩
    · have := ePlN_le r k (i + 1)
      rw [List.length_cons]
      refine ⟨by omega, by omega, fun h => ?_⟩
      have := this.2.2 h
      omega
theorem ePl_le (l : List Ent) (k : List Nat) : (ePl l k).1 ≤ l.length ∧ ((ePl l k).2 = true → (ePl l k).1 < l.length) := by
  have := ePlN_le l k 0
  unfold ePl
  refine ⟨by omega, fun h => ?_⟩
  have := this.2.2 h
  omega

set_option maxHeartbeats 1000000 in
/-- haspref07.Place -/
theorem refplace_any (B : Nat) (w : World) (R : Bl) (v : Value) (L : List Ev) (l : List Ent) (h : MEx B w R v L l) (hn : l.length ≤ maxLen) (hk9 : ∀ e ∈ l, e.1.length ≤ maxLen)
    (a : Option Addr) (b off cap : Nat) (k : List Nat) (hm : k.length ≤ maxLen) (ha : k.length = 0 ∨ a = some ⟨b, off, none⟩) (hA : IsB w b off k) :
    Calls Try.prog 17 #[v, .slice a k.length cap] w fun e w' => e = .returned (.tuple #[.int .i64 (((ePl l k).1 : Nat) : Int), .bool (ePl l k).2]) ∧ Below w.heap.size w w' := by
  obtain ⟨T, hT⟩ : ∃ T, ePl l k = T := ⟨_, rfl⟩
  rw [hT]
  obtain ⟨T1, T2⟩ := T
  have HT := Lib.hid hT
  have H := Lib.hid (fun wx (hb : Below w.heap.size w wx) => And.intro (h.below hb) (hA.below hb))
  have HO := Lib.hid (fun wx (hb : Below w.heap.size w wx) (i : Nat) (p : Ev) (e : Ent) (hp : L[i]? = some p) (he : l[i]? = some e) => by
    obtain ⟨⟨a1, b1, off1, cap1, e1, h1, h2⟩, -⟩ := (h.below hb).ents.at' i p e hp he
    have := refOrder_any a1 a b1 off1 cap1 b off cap e.1 k (hk9 e (List.mem_of_getElem? he)) hm wx (h1.imp_right (fun h => h.1)) ha h2 (hA.below hb)
    rw [← e1] at this
    exact this)
  obtain ⟨g, capv, rfl, -⟩ := h.own.form
  obtain ⟨n, en⟩ : ∃ n, L.length = n := ⟨_, rfl⟩
  have hn9 : n ≤ 9223372036854775807 := by have := h.ents.len; unfold maxLen at hn; omega
  have EN := Lib.hid en
  have EL := Lib.hid (h.ents.len.symm.trans en)
  rw [en] at H ⊢
  clear hT h en hn hk9 ha hA
  go_enter Try.func17, Try.ntmps17
  go_wp2
  go_loopw [6, 7] (fun i o wr => ∃ j : Nat, j ≤ n ∧ i = .int .i64 j ∧ Hid (ePlN (l.drop j) k j = (T1, T2)) ∧ Below w.heap.size w wr) (fun i _ _ => n - (intOf i).toNat)
  case atStart => exact ⟨0, Nat.zero_le _, rfl, HT.out, Below.refl _ _⟩
  case round =>
    obtain ⟨j, hj, rfl, HF, hb⟩ := hrel
    have HB := Lib.hid hb
    by_cases c : j < n
    · have c1 : (j : Int) < (n : Int) := by omega
      have hp : L[j]? = some (L[j]'(by rw [EN.out]; exact c)) := List.getElem?_eq_getElem _
      have he : l[j]? = some (l[j]'(by rw [EL.out]; exact c)) := List.getElem?_eq_getElem _
      generalize L[j]'(by rw [EN.out]; exact c) = p at *
      generalize l[j]'(by rw [EL.out]; exact c) = e at *
      have hord := HO.out wr hb j p e hp he
      obtain ⟨g', capv', e1, -, -, -, hc⟩ := (H.out wr hb).1.own.form
      injection e1 with e1 e2 e3
      injection e1 with e1
      injection e1 with e1
      subst e1
      have d0 := (hc j p hp).1
      have hf := HF.out
      rw [List.drop_eq_getElem_cons (by rw [EL.out]; exact c)] at hf
      rw [show l[j]'(by rw [EL.out]; exact c) = e from Option.some.inj ((List.getElem?_eq_getElem _).symm.trans he)] at hf
      unfold ePlN at hf
      obtain ⟨u, num⟩ := p
      obtain ⟨z, hz⟩ : ∃ z, ordB e.1 k = z := ⟨_, rfl⟩
      rw [hz] at hf hord
      dsimp only at d0 hord
      have HORD := Lib.hid hord
      clear e2 e3 hp he hc hz hord hb HF
      by_cases q : 0 ≤ z
      · rw [if_pos q] at hf
        have h1 := congrArg Prod.fst hf
        have h2 := congrArg Prod.snd hf
        dsimp only at h1 h2
        subst h1 h2
        clear hf
        go_wp2_with (first | (go_at_call 28; refine HORD.out.mono ?_; rintro e w' ⟨rfl, b2⟩; have HB2 := Lib.hid b2; clear b2))
        go_ret2
        exact ⟨rfl, stepB HB.out HB2.out⟩
      · rw [if_neg q] at hf
        have HR := Lib.hid hf
        have q1 : decide (0 ≤ z) = false := by simpa using q
        clear hf
        go_wp2_with (first | (go_at_call 28; refine HORD.out.mono ?_; rintro e w' ⟨rfl, b2⟩; have HB2 := Lib.hid b2; clear b2))
        go_roundw
        case rel => exact ⟨j + 1, by omega, by go_num, HR, stepB HB.out HB2.out⟩
        case measure => simp [intOf]; omega
    · obtain rfl : j = n := by omega
      have hf := HF.out
      rw [List.drop_eq_nil_of_le (by rw [EL.out]; exact Nat.le_refl _)] at hf
      have h1 := congrArg Prod.fst hf
      have h2 := congrArg Prod.snd hf
      dsimp only [ePlN] at h1 h2
      subst h1 h2
      clear hf HF hb
      go_wp2
      go_ret2
      exact ⟨rfl, HB.out⟩

end Go.Proofs.Ytncganfjbalkgaa
