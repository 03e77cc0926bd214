/-
  The document's token (haspref12), all sorts: contracts over the translation.
  Conditions: none.
-/
import Derived.Test.YtlhipnklljjahaaDoorLx27
namespace Go.Proofs.YtlhipnklljjahaaDoor
set_option maxRecDepth 100000
open Go.RowKit Go.Joins Go.ChangeShapes Go.WideShapes
set_option linter.unusedVariables false
set_option linter.unusedSimpArgs false

theorem RTok.open {x : Except Nat (Tk × Nat)} {i : Nat} {w w1 w2 : World} {e : Ending} (h : RTok x i w1 e w2) (hb : Below w.heap.size w w1) (hs : w.heap.size ≤ w1.heap.size) :
    ∃ k s n sc j er, e = .returned (.tuple #[Tkv k s n sc, .int .i64 j, .int .i64 er]) ∧ Below w1.heap.size w1 w2 ∧
      RTok x i w (.returned (.tuple #[Tkv k s n sc, .int .i64 j, .int .i64 er])) ((((w2.setCell ⟨w.heap.size, 0, none⟩ (.int .i64 k)).setCell ⟨w.heap.size, 1, none⟩ (.string s)).setCell ⟨w.heap.size, 2, none⟩ (.int .i64 n)).setCell ⟨w.heap.size, 3, none⟩ (.int .i64 sc)) := by
  obtain ⟨b, h⟩ := h
  have b2 := hb.trans (b.mono hs)
  cases x with
  | error er =>
    obtain ⟨j, rfl⟩ := h
    exact ⟨_, _, _, _, _, _, rfl, b, box4_below b2 (Nat.le_refl _) _ _ _ _, j, rfl⟩
  | ok y =>
    obtain ⟨t, k⟩ := y
    have h : e = _ := h
    subst h
    exact ⟨_, _, _, _, _, _, rfl, b, box4_below b2 (Nat.le_refl _) _ _ _ _, rfl⟩
theorem rtok_txt {r : List Nat} {i : Nat} {w : World} {e : Ending} {w' : World} (h : RTok (txtR r) (i + 1) w e w') : RTok (txtE r) i w e w' := by
  unfold txtR at h
  unfold txtE
  cases ht : textL r with
  | none => rw [ht] at h; exact h
  | some x =>
    rw [ht] at h
    simp only at h ⊢
    by_cases c : x.1.length > 200
    · rw [if_pos c] at h ⊢; exact h
    · rw [if_neg c] at h ⊢
      obtain ⟨h1, h2⟩ := h
      refine ⟨h1, ?_⟩
      have h2 : e = .returned (.tuple #[Tkv 4 (strB x.1) 0 0, .int .i64 ((i + 1 + x.2 : Nat) : Int), .int .i64 0]) := h2
      rw [h2, show i + 1 + x.2 = i + (x.2 + 1) by omega]
      rfl
def sgnC : List Nat := [40, 41, 44, 46, 42, 43, 45, 47, 37, 61, 60, 62]
theorem sgn_yes : ∀ k, k < 12 → [40, 41, 44, 46, 42, 43, 45, 47, 37, 61, 60, 62].contains (sgnC.getD k 0) = true := by decide
theorem sgn_no (c : Nat) (h : ∀ j, j < 12 → sgnC.getD j 0 ≠ c) : [40, 41, 44, 46, 42, 43, 45, 47, 37, 61, 60, 62].contains c = false := by
  cases hc : [40, 41, 44, 46, 42, 43, 45, 47, 37, 61, 60, 62].contains c with
  | false => rfl
  | true =>
    have hm : c ∈ sgnC := List.contains_iff_mem.1 hc
    obtain ⟨i, hi⟩ := List.getElem?_of_mem hm
    have hlt : i < sgnC.length := (List.getElem?_eq_some_iff.1 hi).1
    exact absurd (by rw [List.getD_eq_getElem?_getD, hi]; rfl) (h i hlt)
theorem ext_strB (s : ByteArray) (i n : Nat) (h : i + n ≤ s.size) : s.extract i (i + n) = strB (((sl s).drop i).take n) := by
  have h1 : (s.extract i (i + n)).data.toList = (strB (((sl s).drop i).take n)).data.toList := by
    rw [strB_data]
    unfold sl
    rw [ByteArray.data_extract, Array.toList_extract, List.extract_eq_take_drop, ← List.map_drop, ← List.map_take, List.map_map]
    rw [show i + n - i = n by omega]
    conv => lhs; rw [← List.map_id (List.take n (List.drop i s.data.toList))]
    exact List.map_congr_left fun x _ => by simp
  have h2 := Array.toList_inj.1 h1
  cases hs : strB (((sl s).drop i).take n) with
  | mk d =>
    rw [hs] at h2
    cases hx : s.extract i (i + n) with
    | mk e => rw [hx] at h2; simp at h2; rw [h2]
theorem slice_str (s : ByteArray) (i n : Nat) (h : i + n ≤ s.size) (hi lo : Int) (hl : lo = (i : Int)) (hh : hi = (i : Int) + (n : Int)) (w : World) :
    (Instr.slice 9 (.string s) (some (.int .i64 lo)) (some (.int .i64 hi)) none).run Tryd.prog w = .ok (.string (strB (((sl s).drop i).take n))) w := by
  subst hl hh
  rw [run_slice_string (P := Tryd.prog) (w := w) 9 s .i64 .i64 _ _ Tryd.underlying9 (by omega) (by omega) (by omega), ← ext_strB s i n h]
  congr 3
theorem sgn_at : ∀ k, (h : k < 12) → ((⟨#[40, 41, 44, 46, 42, 43, 45, 47, 37, 61, 60, 62]⟩ : ByteArray)[k]'h).toNat = sgnC.getD k 0 := by decide
end Go.Proofs.YtlhipnklljjahaaDoor
