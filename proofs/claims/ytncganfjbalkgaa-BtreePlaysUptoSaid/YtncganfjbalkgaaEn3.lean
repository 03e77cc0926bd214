/-
  The document's list of entries: Drop (haspref07): a contract over the translation.
  Conditions: the list lies in memory.
-/
import Derived.Test.YtncganfjbalkgaaEn2
namespace Go.Proofs.Ytncganfjbalkgaa
open Go.RowKit Go.Joins Go.ChangeShapes Go.WideShapes
set_option linter.unusedVariables false

def del {α : Type} (L : List α) (a q : Nat) : List α := (L.take q).take a ++ (L.take q).drop (a + 1)
theorem del_next {α : Type} {L : List α} {q a : Nat} {x : α} (h : L[q]? = some x) (hn : q ≠ a) : del L a (q + 1) = del L a q ++ [x] := by
  have hq : q < L.length := (List.getElem?_eq_some_iff.1 h).1
  have e : L.take (q + 1) = L.take q ++ [x] := by rw [List.take_add_one, h]; rfl
  have hl : (L.take q).length = q := by rw [List.length_take]; omega
  unfold del
  rw [e]
  generalize L.take q = T at *
  by_cases c : q < a
  · rw [List.take_of_length_le (by rw [List.length_append, hl, List.length_singleton]; omega), List.drop_eq_nil_of_le (by rw [List.length_append, hl, List.length_singleton]; omega), List.take_of_length_le (by omega), List.drop_eq_nil_of_le (by omega), List.append_nil, List.append_nil]
  · rw [List.take_append_of_le_length (by omega), List.drop_append_of_le_length (by omega), List.append_assoc]
theorem del_skip {α : Type} {L : List α} {q : Nat} {x : α} (h : L[q]? = some x) : del L q (q + 1) = del L q q := by
  have hq : q < L.length := (List.getElem?_eq_some_iff.1 h).1
  have e : L.take (q + 1) = L.take q ++ [x] := by rw [List.take_add_one, h]; rfl
  have hl : (L.take q).length = q := by rw [List.length_take]; omega
  unfold del
  rw [e]
  generalize L.take q = T at *
  rw [List.take_append_of_le_length (by omega), List.drop_eq_nil_of_le (by rw [List.length_append, hl, List.length_singleton]; omega), List.drop_eq_nil_of_le (by omega)]
theorem del_len {α : Type} (L : List α) (a q : Nat) : (del L a q).length ≤ q := by
  unfold del
  rw [List.length_append, List.length_take, List.length_drop, List.length_take]
  omega
theorem del_end {α : Type} (L : List α) (a q : Nat) (h : L.length ≤ q) : del L a q = L.take a ++ L.drop (a + 1) := by
  unfold del
  rw [List.take_of_length_le (i := q) h]
theorem drop_end {B : Nat} {w wf : World} {R : Bl} {v v' : Value} {L : List Ev} {l : List Ent} {j : Nat} (hB : B ≤ w.heap.size) (h : MEx B wf R v L l)
    (hen : EnE w wf w.heap.size v' (L.take j ++ L.drop (j + 1))) :
    MEx B wf (fun b => R b ∨ v'.ownBlock = some b) v' (L.take j ++ L.drop (j + 1)) (l.take j ++ l.drop (j + 1)) ∧ New w R (fun b => R b ∨ v'.ownBlock = some b) := by
  refine ⟨⟨⟨ownsRow_le hen.own.1 hB, hen.own.2⟩, ?_, fun b hb => .inr hb, ?_⟩, ?_⟩
  · exact ((h.ents.mono (fun b hb => .inl hb)).take j).app ((h.ents.mono (fun b hb => .inl hb)).drop (j + 1))
  · intro b hb
    rcases hb with hb | hb
    · exact h.rb b hb
    · have := hen.own.1.lt b hb; exact ⟨by omega, this.2⟩
  · intro b hb
    rcases hb with hb | hb
    · exact .inl hb
    · exact .inr (hen.own.1.lt b hb).1

set_option maxRecDepth 100000 in
set_option maxHeartbeats 4000000 in
/-- haspref07.Drop -/
theorem refedrop_any (B : Nat) (w : World) (hB : B ≤ w.heap.size) (R : Bl) (v : Value) (L : List Ev) (l : List Ent) (h : MEx B w R v L l) (hn : l.length ≤ 4294967296) (hk9 : ∀ e ∈ l, e.1.length ≤ maxLen)
    (a : Option Addr) (b off cap : Nat) (k : List Nat) (hm : k.length ≤ 17592186044416) (ha : k.length = 0 ∨ a = some ⟨b, off, none⟩) (hA : IsB w b off k) :
    Calls Try.prog 15 #[v, .slice a k.length cap] w fun e w' => ∃ v' R' L', e = .returned (.tuple #[v', .bool (ePl l k).2]) ∧ Below w.heap.size w w' ∧ MEx B w' R' v' L' (eDel l k) ∧ New w R R' := by
  have hpl := refplace_any B w R v L l h (by unfold maxLen; omega) hk9 a b off cap k (by unfold maxLen; omega) ha hA
  generalize hP : (fun (e : Ending) (w' : World) => ∃ v' R' L', e = .returned (.tuple #[v', .bool (ePl l k).2]) ∧ Below w.heap.size w w' ∧ MEx B w' R' v' L' (eDel l k) ∧ New w R R') = P
  have hpost : ∀ (v' : Value) (R' : Bl) (L' : List Ev) (w' : World), Below w.heap.size w w' → MEx B w' R' v' L' (eDel l k) → New w R R' → P (.returned (.tuple #[v', .bool (ePl l k).2])) w' := by
    intro v' R' L' w' h1 h2 h3; rw [← hP]; exact ⟨v', R', L', rfl, h1, h2, h3⟩
  have hle := ePl_le l k
  have hP1 : eDel l k = if (ePl l k).2 then l.take (ePl l k).1 ++ l.drop ((ePl l k).1 + 1) else l := rfl
  obtain ⟨T, hT⟩ : ∃ T, ePl l k = T := ⟨_, rfl⟩
  rw [hT] at hpl hpost hle hP1
  obtain ⟨at0, there⟩ := T
  dsimp only at hpl hpost hle hP1
  have HPL := Lib.hid hpl
  have H := Lib.hid (fun wx (hb : Below w.heap.size w wx) => h.below hb)
  cases there
  case false =>
    rw [if_neg (by simp)] at hP1
    rw [hP1] at hpost
    have HP := Lib.hid hpost
    clear hpl hpost hP hT hP1 hle h hk9 ha hA
    go_enter Try.func15, Try.ntmps15
    go_wp2_with (first | (go_at_call 17; refine HPL.out.mono ?_; rintro e w1 ⟨rfl, b1⟩; have HB1 := Lib.hid b1; clear b1))
    exact HP.out _ R L _ HB1.out (H.out _ HB1.out) (New.refl _ _)
  case true =>
    rw [if_pos rfl] at hP1
    rw [hP1] at hpost
    have HP := Lib.hid hpost
    obtain ⟨g, capv, rfl, -⟩ := h.own.form
    obtain ⟨n, en⟩ : ∃ n, L.length = n := ⟨_, rfl⟩
    have EN := Lib.hid en
    have EL := Lib.hid (h.ents.len.symm.trans en)
    rw [h.ents.len.symm.trans en] at hn hle
    have hlt1 := hle.2 rfl
    have HN := Lib.hid hn
    rw [en] at HPL H ⊢
    clear hpl hpost hP hT hP1 hle h hk9 ha hA en hn
    go_enter Try.func15, Try.ntmps15
    go_wp2_with (first | (go_at_call 17; refine HPL.out.mono ?_; rintro e w1 ⟨rfl, b1⟩; have HE0 := Lib.hid (EnE.made w w1 w.heap.size b1 b1.size); clear b1))
    go_loopw [8, 9] (fun v i wr => ∃ q : Nat, q ≤ n ∧ i = .int .i64 q ∧ EnE w wr w.heap.size v (del L at0 q)) (fun _ i _ => n - (intOf i).toNat)
    case atStart => exact ⟨0, Nat.zero_le _, rfl, by have : del L at0 0 = [] := by simp [del]
                                                     rw [this]; exact HE0.out⟩
    case round =>
      obtain ⟨q, hq, rfl, hen⟩ := hrel
      have hn4 := HN.out
      by_cases c : q < n
      · have c2 : (q : Int) < (n : Int) := by omega
        have hp : L[q]? = some (L[q]'(by rw [EN.out]; omega)) := List.getElem?_eq_getElem _
        generalize L[q]'(by rw [EN.out]; omega) = p at *
        obtain ⟨pu, pn⟩ := p
        have hh := H.out wr hen.bel
        obtain ⟨g', capv', e1, -, -, -, hc⟩ := hh.own.form
        injection e1 with e1 e2 e3
        injection e1 with e1
        injection e1 with e1
        subst e1
        obtain ⟨d0, d1⟩ := hc q _ hp
        dsimp only at d0 d1
        have HE2 := Lib.hid hen
        have HPN := Lib.hid (show pu.oneCell' = true by
          obtain ⟨x, hx⟩ : ∃ x, l[q]? = some x := ⟨l[q]'(by rw [EL.out]; omega), List.getElem?_eq_getElem _⟩
          exact (hh.ents.at' q _ x hp hx).1.one)
        have HX := Lib.hid hp
        have HL := Lib.hid (show (del L at0 q).length + 1 ≤ 4294967297 by have := del_len L at0 q; omega)
        clear hen hp hh e2 e3 hc
        by_cases z : q = at0
        · subst z
          have z1 : ((q : Int) != (q : Int)) = false := by simp
          go_wp2
          go_roundw
          case rel => exact ⟨q + 1, by omega, by go_num, by rw [del_skip HX.out]; exact HE2.out⟩
          case measure => simp [intOf]; omega
        · have z1 : ((q : Int) != (at0 : Int)) = true := by simp; omega
          go_wp2_with (first | (at_builtin; refine wp_pushE rfl _ _ rfl w.heap.size _ _ rfl (HE2.out.own.alloc _) ⟨wr.heap.size, 0, none⟩ 1 (pu, pn) rfl (newsE wr pu pn) HPN.out HL.out (HE2.out.alloc _).sz ?_; intro v1 w2 hown1 hgrow1; have HE3 := Lib.hid ((HE2.out.alloc _).push hown1 hgrow1); clear hown1 hgrow1))
          go_roundw
          case rel => exact ⟨q + 1, by omega, by go_num, by rw [del_next HX.out z]; exact HE3.out⟩
          case measure => simp [intOf]; omega
      · obtain rfl : q = n := by omega
        have hh := H.out wr hen.bel
        rw [del_end L at0 q (by rw [EN.out]; exact Nat.le_refl _)] at hen
        have HF := Lib.hid (drop_end hB hh hen)
        have HBF := Lib.hid hen.bel
        clear hen hh
        go_wp2
        exact HP.out _ _ _ _ HBF.out HF.out.1 HF.out.2

end Go.Proofs.Ytncganfjbalkgaa
