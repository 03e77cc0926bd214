/-
  Whether two lists of tokens are one (haspref12.Same): contracts over the translation.
  Conditions: the lists lie in memory.
-/
import Derived.Test.YtlhipnklljjahaaDoorLx23
import Derived.Deep.QuietTactic
import Derived.Deep.DeepCutAuto
namespace Go.Proofs.YtlhipnklljjahaaDoor
set_option maxRecDepth 100000
open Go.RowKit Go.Joins Go.ChangeShapes Go.WideShapes
set_option linter.unusedVariables false
set_option linter.unusedSimpArgs false

/-- a list of tokens lies there -/
def LtA (w : World) (a : Option Addr) (ts : List Tk) : Prop := (a = none ∧ ts = []) ∨ ∃ g, a = some ⟨g, 0, none⟩ ∧ g < w.heap.size ∧ ∀ j u, (tkcells ts)[j]? = some u → w.cell? ⟨g, j, none⟩ = some u
theorem OwT.lta {w : World} {B : Nat} {v : Value} {l : List Tk} (h : OwT w B v l) : ∃ a cap, v = .slice a l.length cap ∧ LtA w a l := by
  obtain ⟨a, cap, rfl, hf⟩ := h.form
  refine ⟨a, cap, rfl, ?_⟩
  rcases hf with ⟨h1, h2, _⟩ | ⟨g, h1, _, h3, _, h5⟩
  · exact .inl ⟨h1, h2⟩
  · exact .inr ⟨g, h1, h3, h5⟩
theorem LtA.below {w w' : World} {a : Option Addr} {ts : List Tk} (h : LtA w a ts) (hb : Below w.heap.size w w') : LtA w' a ts := by
  rcases h with h | ⟨g, h1, h2, h3⟩
  · exact .inl h
  · exact .inr ⟨g, h1, Nat.lt_of_lt_of_le h2 hb.size, fun j u hj => (hb.cell (p := ⟨g, j, none⟩) h2).trans (h3 j u hj)⟩
theorem LtA.frm {F : Bl} {w w' : World} {a : Option Addr} {ts : List Tk} (h : LtA w a ts) (f : Frm F w w') (hne : ∀ b, a = some ⟨b, 0, none⟩ → ¬ F b) : LtA w' a ts := by
  rcases h with h | ⟨g, h1, h2, h3⟩
  · exact .inl h
  · exact .inr ⟨g, h1, Nat.lt_of_lt_of_le h2 f.size, fun j u hj => (f.cell h2 (hne g h1) j).trans (h3 j u hj)⟩
theorem LtA.at {w : World} {a : Option Addr} {ts : List Tk} (h : LtA w a ts) {i : Nat} {t : Tk} (hi : ts[i]? = some t) : ∃ g, a = some ⟨g, 0, none⟩ ∧ w.cell? ⟨g, i * 4, none⟩ = some (.int .i64 (t.kind : Int)) ∧ w.cell? ⟨g, i * 4 + 1, none⟩ = some (.string (strB t.text)) ∧ w.cell? ⟨g, i * 4 + 2, none⟩ = some (.int .i64 (t.num : Int)) ∧ w.cell? ⟨g, i * 4 + 3, none⟩ = some (.int .i64 (t.scale : Int)) := by
  rcases h with ⟨_, rfl⟩ | ⟨g, h1, h2, h3⟩
  · simp at hi
  · obtain ⟨c1, c2, c3, c4⟩ := tkcells_at ts i t hi
    exact ⟨g, h1, h3 _ _ c1, h3 _ _ c2, h3 _ _ c3, h3 _ _ c4⟩
theorem tk_eq (t u : Tk) (h1 : ∀ x ∈ t.text, x < 256) (h2 : ∀ x ∈ u.text, x < 256) : (((t.kind : Int) == (u.kind : Int)) && ((strB t.text).toList == (strB u.text).toList) && ((t.num : Int) == (u.num : Int)) && ((t.scale : Int) == (u.scale : Int))) = decide (t = u) := by
  by_cases h : t = u
  · subst h
    simp
  · rw [decide_eq_false h]
    apply Bool.eq_false_iff.2
    intro hc
    simp only [Bool.and_eq_true, beq_iff_eq] at hc
    obtain ⟨⟨⟨a, b⟩, c⟩, d⟩ := hc
    apply h
    cases t with
    | mk k1 x1 n1 s1 =>
      cases u with
      | mk k2 x2 n2 s2 =>
        simp only at a b c d h1 h2
        rw [ByteArray.toList_eq, ByteArray.toList_eq] at b
        have e := Array.toList_inj.1 b
        have e2 : strB x1 = strB x2 := by
          cases hx : strB x1 with
          | mk p => cases hy : strB x2 with
            | mk q => rw [hx, hy] at e; simp at e; rw [e]
        have := strB_inj h1 h2 e2
        subst this
        congr 1 <;> omega
theorem ts_step {ts us : List Tk} {i : Nat} (h : ts.take i = us.take i) {t u : Tk} (h1 : ts[i]? = some t) (h2 : us[i]? = some u) : (t = u → ts.take (i + 1) = us.take (i + 1)) ∧ (ts = us → t = u) := by
  refine ⟨fun e => ?_, fun e => ?_⟩
  · rw [List.take_add_one, List.take_add_one, h, h1, h2, e]
  · subst e
    rw [h1] at h2
    injection h2
set_option maxHeartbeats 4000000 in
theorem rsame_any (w : World) (ts us : List Tk) (a1 a2 : Option Addr) (c1 c2 : Nat) (h1 : LtA w a1 ts) (h2 : LtA w a2 us) (r1 : ∀ t ∈ ts, TkR t) (r2 : ∀ t ∈ us, TkR t) (hl1 : ts.length ≤ 4294967296) (hl2 : us.length ≤ 4294967296) :
    Calls Tryd.prog 7 #[.slice a1 ts.length c1, .slice a2 us.length c2] w fun e w' => e = .returned (.bool (decide (ts = us))) ∧ Below w.heap.size w w' := by
  obtain ⟨R, hR⟩ : ∃ R, decide (ts = us) = R := ⟨_, rfl⟩
  rw [hR]
  have HR := Lib.hid hR
  have H12 := Lib.hid (And.intro h1 h2)
  obtain ⟨n, hn⟩ : ∃ n, ts.length = n := ⟨_, rfl⟩
  obtain ⟨m, hm⟩ : ∃ m, us.length = m := ⟨_, rfl⟩
  have HNM := Lib.hid (And.intro hn hm)
  rw [hn] at hl1 ⊢
  rw [hm] at hl2 ⊢
  have HRR := Lib.hid (And.intro r1 r2)
  clear hR h1 h2 hn hm r1 r2
  by_cases hnm : n = m
  · subst hnm
    have hne : ((n : Int) != (n : Int)) = false := by simp
    go_enter Tryd.func7, Tryd.ntmps7
    go_wp2_with fail
    go_loopw [5] (fun i wr => ∃ k : Nat, k ≤ n ∧ i = .int .i64 (k : Int) ∧ Hid (ts.take k = us.take k) ∧ Below w.heap.size w wr) (fun i _ => n - (intOf i).toNat)
    case atStart => exact ⟨0, Nat.zero_le _, rfl, Lib.hid rfl, Below.refl _ _⟩
    case round =>
      obtain ⟨k, hk, rfl, HT, hb⟩ := hrel
      by_cases hkn : k < n
      · have hkn2 : (k : Int) < (n : Int) := by omega
        have ht : ts[k]? = some (ts[k]'(by rw [HNM.out.1]; exact hkn)) := List.getElem?_eq_getElem _
        have hu : us[k]? = some (us[k]'(by rw [HNM.out.2]; exact hkn)) := List.getElem?_eq_getElem _
        generalize ts[k]'(by rw [HNM.out.1]; exact hkn) = t at *
        generalize us[k]'(by rw [HNM.out.2]; exact hkn) = u at *
        obtain ⟨g1, rfl, x0, x1, x2, x3⟩ := (H12.out.1.below hb).at ht
        obtain ⟨g2, rfl, y0, y1, y2, y3⟩ := (H12.out.2.below hb).at hu
        have hte := tk_eq t u (HRR.out.1 t (List.mem_of_getElem? ht)).2.2.2.2 (HRR.out.2 u (List.mem_of_getElem? hu)).2.2.2.2
        obtain ⟨s1, s2⟩ := ts_step HT.out ht hu
        have HS1 := Lib.hid s1
        have HS2 := Lib.hid s2
        have HB := Lib.hid hb
        clear s1 s2 ht hu hb
        have w5' : IntKind.i64.wrap ((k : Int) + 1) = (k : Int) + 1 := by rw [IntKind.wrap_i64]; omega
        obtain ⟨b1, e1⟩ : ∃ b1, ((t.kind : Int) == (u.kind : Int)) = b1 := ⟨_, rfl⟩
        obtain ⟨b2, e2⟩ : ∃ b2, ((strB t.text).toList == (strB u.text).toList) = b2 := ⟨_, rfl⟩
        obtain ⟨b3, e3⟩ : ∃ b3, ((t.num : Int) == (u.num : Int)) = b3 := ⟨_, rfl⟩
        obtain ⟨b4, e4⟩ : ∃ b4, ((t.scale : Int) == (u.scale : Int)) = b4 := ⟨_, rfl⟩
        rw [e1, e2, e3, e4] at hte
        obtain ⟨q, hq⟩ : ∃ q : Prop, (t = u) = q := ⟨_, rfl⟩
        have HTE := Lib.hid hte
        clear hte hq
        cases b1 <;> cases b2 <;> cases b3 <;> cases b4
        all_goals
          go_wp2_with fail
          go_quiet (fail)
          go_wp2_with fail
        all_goals first
          | (go_ret
             have hne : ¬ t = u := of_decide_eq_false HTE.out.symm
             have hR := HR.out
             rw [decide_eq_false (fun e => hne (HS2.out e))] at hR
             exact ⟨by rw [← hR]; rfl, HB.out.trans ⟨rfl, rfl, rfl, Nat.le_refl _, fun _ _ => rfl⟩⟩)
          | exact ⟨⟨k + 1, by omega, by congr 1, Lib.hid (HS1.out (of_decide_eq_true HTE.out.symm)), HB.out.trans ⟨rfl, rfl, rfl, Nat.le_refl _, fun _ _ => rfl⟩⟩, by simp [intOf]; omega⟩
      · have hkn2 : decide ((k : Int) < (n : Int)) = false := by simp; omega
        obtain rfl : k = n := by omega
        have hRt : R = true := by
          have := HT.out
          rw [List.take_of_length_le (by rw [HNM.out.1]; exact Nat.le_refl _), List.take_of_length_le (by rw [HNM.out.2]; exact Nat.le_refl _)] at this
          rw [← HR.out, decide_eq_true this]
        have HB := Lib.hid hb
        clear hb
        go_wp2_with fail
        go_ret
        exact ⟨by rw [hRt]; rfl, HB.out⟩
  · have hne : ((n : Int) != (m : Int)) = true := by simp; omega
    have hRf : R = false := by
      rw [← HR.out]
      exact decide_eq_false (fun e => hnm (by rw [← HNM.out.1, ← HNM.out.2, e]))
    go_enter Tryd.func7, Tryd.ntmps7
    go_wp2_with fail
    go_ret
    exact ⟨by rw [hRf]; rfl, Below.refl _ _⟩

end Go.Proofs.YtlhipnklljjahaaDoor
