/-
  What package keys' calls answer, as slices: the words for their contracts; the document's key of any right list.
  Conditions: none.
-/
import Derived.Test.YtpknoclnmhomiabKey6
import Derived.Test.YtpknoclnmhomiabKey8
namespace Go.Proofs.Ytpknoclnmhomiab
open Go.RowKit Go.Joins Go.ChangeShapes Go.WideShapes
set_option linter.unusedVariables false

/-- new bytes that a call answers: nil, or a slice of its own -/
def OutB (w : World) (B : Nat) (v : Value) (l : List Nat) : Prop := (v = .slice none 0 0 ∧ l = []) ∨ OwB w B v l
theorem OutB.below {w w' : World} {B : Nat} {v : Value} {l : List Nat} (h : OutB w B v l) (hb : Below w.heap.size w w') : OutB w' B v l := h.imp id (fun x => x.below hb)
theorem OutB.str {w : World} {B : Nat} {v : Value} {l : List Nat} (h : OutB w B v l) : (convert 27 9 v).run Try.prog w = .ok (.string (strB l)) w := by
  rcases h with ⟨rfl, rfl⟩ | h
  · exact run_convert_bytes_nil w 27 5 Try.underlying27 Try.underlying5 0 0 9 Try.underlying9
  · exact str_own h
theorem OwB.caps {w : World} {base g n cap : Nat} {l : List Nat} (h : OwB w base (.slice (some ⟨g, 0, none⟩) n cap) l) : l.length ≤ cap ∧ cap ≤ maxLen := by
  rcases h.1.2 with ⟨e, _⟩ | ⟨g', cap', cur, e, _, _, hn, hc, _⟩
  · cases e
  · injection e with e1 e2 e3
    subst e3
    exact ⟨hn, hc⟩
theorem OutB.form {w : World} {B : Nat} {v : Value} {l : List Nat} (h : OutB w B v l) (hl : ∀ x ∈ l, x < 256) : ∃ (a : Option Addr) (g cap : Nat), v = .slice a l.length cap ∧ (l.length = 0 ∨ a = some ⟨g, 0, none⟩) ∧ IsB w g 0 l ∧ l.length ≤ cap ∧ cap ≤ maxLen := by
  rcases h with ⟨rfl, rfl⟩ | h
  · exact ⟨none, 0, 0, rfl, .inl rfl, ⟨fun h => absurd h (by simp), fun i x hx => absurd hx (by simp), fun x hx => absurd hx (by simp)⟩, Nat.le_refl _, by decide⟩
  · obtain ⟨g, cap, rfl, hg, _⟩ := h.isB hl
    exact ⟨_, g, cap, rfl, .inr rfl, hg, h.caps⟩
/-- bytes that stay: the text of them, from a world on -/
def CvS (w : World) (v : Value) (s : ByteArray) : Prop := ∀ w', Below w.heap.size w w' → (convert 27 9 v).run Try.prog w' = .ok (.string s) w'
theorem OutB.cvs {w : World} {B : Nat} {v : Value} {l : List Nat} (h : OutB w B v l) : CvS w v (strB l) := fun w' hb => (h.below hb).str
theorem CvS.now {w : World} {v : Value} {s : ByteArray} (h : CvS w v s) : (convert 27 9 v).run Try.prog w = .ok (.string s) w := h w (Below.refl _ _)
theorem CvS.step {w w1 : World} {v : Value} {s : ByteArray} (h : CvS w v s) (hb : Below w.heap.size w w1) : CvS w1 v s := fun w' hb' => h w' (hb.trans (hb'.mono hb.size))
/-- new values that a call answers -/
def OutV (w : World) (B : Nat) (v : Value) (l : List Vt) : Prop := (v = .slice none 0 0 ∧ l = []) ∨ OwV w B v l
theorem OutV.below {w w' : World} {B : Nat} {v : Value} {l : List Vt} (h : OutV w B v l) (hb : Below w.heap.size w w') : OutV w' B v l := h.imp id (fun x => x.below hb)
theorem OutV.form {w : World} {B : Nat} {v : Value} {l : List Vt} (h : OutV w B v l) : ∃ (a : Option Addr) (g cap : Nat), v = .slice a l.length cap ∧ (l.length = 0 ∨ a = some ⟨g, 0, none⟩) ∧ IsV w g 0 l.length (kF l) (nF l) (sF l) ∧ (0 < l.length → B ≤ g) := by
  rcases h with ⟨rfl, rfl⟩ | h
  · exact ⟨none, 0, 0, rfl, .inl rfl, ⟨fun h => absurd h (by simp), fun i hi => absurd hi (by simp), fun i hi => absurd hi (by simp), fun i hi => absurd hi (by simp)⟩, fun h => absurd h (by simp)⟩
  · obtain ⟨g, cap, e, hb, hg⟩ := h.isV
    exact ⟨_, g, cap, e, .inr rfl, hg, fun _ => hb⟩
/-- an outcome of Decode -/
def DecR (W : World) (X : List Vt × Int) (e : Ending) (w' : World) : Prop :=
  ∃ v, e = .returned (.tuple #[v, .int .i64 X.2]) ∧ (X.2 = 0 → OutV w' W.heap.size v X.1) ∧ (X.2 ≠ 0 → ∃ a c, v = .slice a 0 c) ∧ Below W.heap.size W w'
theorem DecOk.decR {W : World} {X : List Vt × Int} {e : Ending} {w' : World} (h : DecOk W X e w') : DecR W X e w' := by
  obtain ⟨v, h1, h2, h3, h4⟩ := h
  exact ⟨v, h1, fun h => .inr (h2 h), h3, h4⟩

theorem decF_len : ∀ (n : Nat) (l : List Nat), l.length ≤ n → (decF n l).1.length ≤ l.length
  | 0, l, h => by
    have : l = [] := List.length_eq_zero_iff.1 (by omega)
    subst this
    exact Nat.le_refl _
  | n + 1, [], _ => Nat.le_refl _
  | n + 1, c :: r, h => by
    rw [List.length_cons] at h
    have hl := decOne_len c r
    have ih := decF_len n (decOne (c :: r)).2.2 (by omega)
    show (if (decOne (c :: r)).1 = 0 then vcons (decOne (c :: r)).2.1 (decF n (decOne (c :: r)).2.2) else ([], (decOne (c :: r)).1)).1.length ≤ _
    split
    · unfold vcons
      split
      · simp only [List.length_cons]; omega
      · simp
    · simp
theorem decK_len (l : List Nat) : (decK l).1.length ≤ l.length := decF_len _ l (Nat.le_refl _)
/-- an outcome of Decode, as a slice -/
theorem DecR.form {W : World} {X : List Vt × Int} {e : Ending} {w' : World} (h : DecR W X e w') (hX : X.2 ≠ 0 → X.1 = []) :
    ∃ (a : Option Addr) (g cap : Nat), e = .returned (.tuple #[.slice a X.1.length cap, .int .i64 X.2]) ∧ (X.1.length = 0 ∨ a = some ⟨g, 0, none⟩) ∧ IsV w' g 0 X.1.length (kF X.1) (nF X.1) (sF X.1) ∧
      (0 < X.1.length → W.heap.size ≤ g ∧ w'.ownsRow W.heap.size 43 3 (.slice a X.1.length cap) X.1.length (vlcells X.1)) ∧ Below W.heap.size W w' := by
  obtain ⟨v, rfl, h2, h3, h4⟩ := h
  by_cases c : X.2 = 0
  · have ho := h2 c
    obtain ⟨a, g, cap, rfl, f1, f2, f3⟩ := ho.form
    refine ⟨a, g, cap, rfl, f1, f2, fun hn => ⟨f3 hn, ?_⟩, h4⟩
    rcases ho with ⟨_, e0⟩ | ho
    · rw [e0] at hn; exact absurd hn (by simp)
    · exact ho.1
  · obtain ⟨a, cap, rfl⟩ := h3 c
    have e0 := hX c
    refine ⟨a, 0, cap, by rw [e0]; rfl, .inl (by rw [e0]; rfl), ?_, fun hn => by rw [e0] at hn; exact absurd hn (by simp), h4⟩
    rw [e0]
    exact ⟨fun h => absurd h (by simp), fun i hi => absurd hi (by simp), fun i hi => absurd hi (by simp), fun i hi => absurd hi (by simp)⟩

theorem vlist_kF : ∀ (l : List Vt), vlist (kF l) (nF l) (sF l) l.length = l := by
  intro l
  apply List.ext_getElem?
  intro i
  by_cases hi : i < l.length
  · unfold vlist
    rw [List.getElem?_map, List.getElem?_range hi]
    rw [List.getElem?_eq_getElem hi]
    simp [kF, nF, sF, List.getD_eq_getElem?_getD, List.getElem?_eq_getElem hi]
  · rw [List.getElem?_eq_none (by rw [vlist_length]; omega), List.getElem?_eq_none (by omega)]
theorem keyB_L (l : List Vt) : keyB (kF l) (nF l) (sF l) l.length = keyL l := by rw [keyB_list, vlist_kF]

end Go.Proofs.Ytpknoclnmhomiab
