/-
  The document's lists of entries: Same (haspref07): a contract over the translation.
  Conditions: the lists lie in memory.
-/
import Derived.Test.YtncganfjbalkgaaEn1
import Derived.Test.YtncganfjbalkgaaBulk
import Derived.BigQuiet
namespace Go.Proofs.Ytncganfjbalkgaa
open Go.RowKit Go.Joins Go.ChangeShapes Go.WideShapes
set_option linter.unusedVariables false

theorem KeyAt.str {w : World} {R : Bl} {u : Value} {k : List Nat} (h : KeyAt w R u k) : (convert 29 9 u).run Try.prog w = .ok (.string (strB k)) w := by
  obtain ⟨a, b, off, cap, rfl, h1, h2⟩ := h
  exact str_arg (h1.imp_right (fun h => h.1)) (fun e => by
    rcases h1 with h | h
    · exact h
    · rw [e] at h; exact absurd h.1 (by simp)) h2
theorem KeyAt.strN {w : World} {R : Bl} {u : Value} {k : List Nat} (h : KeyAt w R u k) (n : Nat) : (convert 29 9 u).run Try.prog (w.drewN n) = .ok (.string (strB k)) (w.drewN n) :=
  (h.step (Frm.of_below (F := fun _ => False) (show Below w.heap.size w (w.drewN n) from ⟨rfl, rfl, rfl, Nat.le_refl _, fun _ _ => rfl⟩)) (fun _ _ h => h)).str
theorem bytes_ne {s t : ByteArray} (h : s ≠ t) : (s.toList == t.toList) = false := beq_eq_false_iff_ne.2 (fun e => h (by
  rw [Go.ByteArray.toList_eq, Go.ByteArray.toList_eq] at e
  exact ByteArray.ext (Array.toList_inj.1 e)))
theorem KeyAt.lt {w : World} {R : Bl} {u : Value} {k : List Nat} (h : KeyAt w R u k) : ∀ x ∈ k, x < 256 := by
  obtain ⟨a, b, off, cap, rfl, h1, h2⟩ := h
  exact h2.lt

set_option maxHeartbeats 2000000 in
/-- haspref07.Same -/
theorem refsame_any (B B' : Nat) (w : World) (R R' : Bl) (v v' : Value) (L L' : List Ev) (l l' : List Ent) (h : MEx B w R v L l) (h' : MEx B' w R' v' L' l') (hn : l.length ≤ maxLen) (hn' : l'.length ≤ maxLen) :
    Calls Try.prog 29 #[v, v'] w fun e w' => e = .returned (.bool (decide (l = l'))) ∧ Below w.heap.size w w' := by
  obtain ⟨T, hT⟩ : ∃ T, decide (l = l') = T := ⟨_, rfl⟩
  rw [hT]
  have HT := Lib.hid hT
  have H := Lib.hid (fun wx (hb : Below w.heap.size w wx) => And.intro (h.below hb) (h'.below hb))
  obtain ⟨g, capv, rfl, -⟩ := h.own.form
  obtain ⟨g', capv', rfl, -⟩ := h'.own.form
  obtain ⟨n, en⟩ : ∃ n, L.length = n := ⟨_, rfl⟩
  obtain ⟨n', en'⟩ : ∃ n', L'.length = n' := ⟨_, rfl⟩
  have hn9 : n ≤ 9223372036854775807 := by have := h.ents.len; unfold maxLen at hn; omega
  have hn9' : n' ≤ 9223372036854775807 := by have := h'.ents.len; unfold maxLen at hn'; omega
  have EN := Lib.hid en
  have EN' := Lib.hid en'
  have EL := Lib.hid (h.ents.len.symm.trans en)
  have EL' := Lib.hid (h'.ents.len.symm.trans en')
  rw [en, en'] at H ⊢
  clear hT h h' hn hn' en en'
  by_cases hne : n = n'
  · subst hne
    have hc0 : ((n : Int) != (n : Int)) = false := by simp
    go_enter Try.func29, Try.ntmps29
    go_wp2
    go_loopw [5] (fun i wr => ∃ j : Nat, j ≤ n ∧ i = .int .i64 j ∧ Hid (∀ q, q < j → l[q]? = l'[q]?) ∧ Below w.heap.size w wr) (fun i _ => n - (intOf i).toNat)
    case atStart => exact ⟨0, Nat.zero_le _, rfl, fun q hq => absurd hq (by omega), Below.refl _ _⟩
    case round =>
      obtain ⟨j, hj, rfl, HK, hb⟩ := hrel
      have HB := Lib.hid hb
      by_cases c : j < n
      · have c1 : (j : Int) < (n : Int) := by omega
        have hp : L[j]? = some (L[j]'(by rw [EN.out]; exact c)) := List.getElem?_eq_getElem _
        have he : l[j]? = some (l[j]'(by rw [EL.out]; exact c)) := List.getElem?_eq_getElem _
        have hp' : L'[j]? = some (L'[j]'(by rw [EN'.out]; exact c)) := List.getElem?_eq_getElem _
        have he' : l'[j]? = some (l'[j]'(by rw [EL'.out]; exact c)) := List.getElem?_eq_getElem _
        generalize L[j]'(by rw [EN.out]; exact c) = p at *
        generalize l[j]'(by rw [EL.out]; exact c) = e at *
        generalize L'[j]'(by rw [EN'.out]; exact c) = p' at *
        generalize l'[j]'(by rw [EL'.out]; exact c) = e' at *
        obtain ⟨m1, m2⟩ := H.out wr hb
        obtain ⟨k1, i1⟩ := m1.ents.at' j p e hp he
        obtain ⟨k2, i2⟩ := m2.ents.at' j p' e' hp' he'
        obtain ⟨ga, ca, e1, -, -, -, hc⟩ := m1.own.form
        injection e1 with e1 e2 e3
        injection e1 with e1
        injection e1 with e1
        subst e1
        obtain ⟨gb, cb, e1, -, -, -, hc'⟩ := m2.own.form
        injection e1 with e1 e4 e5
        injection e1 with e1
        injection e1 with e1
        subst e1
        obtain ⟨d0, d1⟩ := hc j p hp
        obtain ⟨d2, d3⟩ := hc' j p' hp'
        obtain ⟨u, x⟩ := p
        obtain ⟨u', x'⟩ := p'
        obtain ⟨k, y⟩ := e
        obtain ⟨k', y'⟩ := e'
        dsimp only at d0 d1 d2 d3 k1 k2 i1 i2
        subst i1 i2
        have s1 := k1.strN
        have s2 := k2.strN
        have HI := Lib.hid (show strB k = strB k' → k = k' from strB_inj k1.lt k2.lt)
        have HE := Lib.hid he
        have HE' := Lib.hid he'
        clear e2 e3 e4 e5 hp hp' he he' hc hc' m1 m2 k1 k2 hb
        by_cases q1 : x = x'
        · subst q1
          have t1 : (x != x) = false := by simp
          by_cases q2 : k = k'
          · subst q2
            have HK2 : Hid (∀ q, q < j + 1 → l[q]? = l'[q]?) := fun q hq => by
              by_cases e : q = j
              · rw [e, HE.out, HE'.out]
              · exact HK.out q (by omega)
            clear HK
            go_wp2
            go_quiet (fail)
            go_wp2
            go_roundw
            case rel => exact ⟨j + 1, by omega, by go_num, HK2, HB.out.trans ⟨rfl, rfl, rfl, Nat.le_refl _, fun _ _ => rfl⟩⟩
            case measure => simp [intOf]; omega
          · have t2 : ((strB k).toList == (strB k').toList) = false := bytes_ne (fun e => q2 (HI.out e))
            have hTf : T = false := by
              rw [← HT.out]
              refine decide_eq_false (fun e => q2 ?_)
              have h1 := HE.out
              rw [e, HE'.out] at h1
              exact (congrArg Prod.fst (Option.some.inj h1)).symm
            subst hTf
            go_wp2
            go_quiet (fail)
            go_wp2
            go_ret
            exact ⟨rfl, HB.out.trans ⟨rfl, rfl, rfl, Nat.le_refl _, fun _ _ => rfl⟩⟩
        · have t1 : (x != x') = true := by simpa using q1
          have hTf : T = false := by
            rw [← HT.out]
            refine decide_eq_false (fun e => q1 ?_)
            have h1 := HE.out
            rw [e, HE'.out] at h1
            exact (congrArg Prod.snd (Option.some.inj h1)).symm
          subst hTf
          go_wp2
          go_quiet (fail)
          go_wp2
          go_ret
          exact ⟨rfl, HB.out.trans ⟨rfl, rfl, rfl, Nat.le_refl _, fun _ _ => rfl⟩⟩
      · obtain rfl : j = n := by omega
        have hTt : T = true := by
          rw [← HT.out]
          refine decide_eq_true (List.ext_getElem? fun q => ?_)
          by_cases e : q < j
          · exact HK.out q e
          · rw [List.getElem?_eq_none (by rw [EL.out]; omega), List.getElem?_eq_none (by rw [EL'.out]; omega)]
        subst hTt
        clear hb
        go_wp2
        go_ret
        exact ⟨rfl, HB.out⟩
  · have hTf : T = false := by
      rw [← HT.out]
      exact decide_eq_false (fun e => hne (by rw [← EL.out, ← EL'.out, e]))
    subst hTf
    have h1 : ((n : Int) != (n' : Int)) = true := by simp; omega
    go_enter Try.func29, Try.ntmps29
    go_wp2
    go_ret
    exact ⟨rfl, Below.refl _ _⟩

end Go.Proofs.Ytncganfjbalkgaa
