/-
  Contract over the translation: the document's key of a list of right values (haspref05.Encode).
  Conditions: the list lies in memory; its values are right.
-/
import Derived.Test.YtpknoclnmhomiabKey1
import Derived.Deep.DeepCutAuto
import Derived.Deep.QuietTactic
import Derived.BigQuiet
namespace Go.Proofs.Ytpknoclnmhomiab
open Go.RowKit Go.Joins Go.ChangeShapes Go.WideShapes
set_option linter.unusedVariables false

/-- a text's bytes in a key, but for its end -/
def esc : List Nat → List Nat
  | [] => []
  | c :: r => (if c = 0 then [0, 255] else [c]) ++ esc r
theorem esc_app (l r : List Nat) : esc (l ++ r) = esc l ++ esc r := by
  induction l with
  | nil => rfl
  | cons c l ih => simp only [List.cons_append, esc, ih, List.append_assoc]
theorem esc_le (l : List Nat) : (esc l).length ≤ 2 * l.length := by
  induction l with
  | nil => simp [esc]
  | cons c l ih =>
    unfold esc
    rw [List.length_append, List.length_cons]
    split <;> simp <;> omega
theorem sl_at (s : ByteArray) (q : Nat) (h : q < s.size) : (sl s)[q]? = some (s[q]'h).toNat := by
  unfold sl
  rw [List.getElem?_map, Array.getElem?_toList, Array.getElem?_eq_getElem h]
  rfl
theorem esc_take (s : ByteArray) (q : Nat) (h : q < s.size) : esc ((sl s).take (q + 1)) = esc ((sl s).take q) ++ (if (s[q]'h).toNat = 0 then [0, 255] else [(s[q]'h).toNat]) := by
  rw [List.take_add_one, sl_at s q h, esc_app]
  simp only [Option.toList_some, esc, List.append_nil]
/-- a value's bytes -/
def vb (k n : Int) (s : ByteArray) : List Nat :=
  (k + 1).toNat :: (if k = 1 then [(n % 256).toNat] else if k = 2 then be8 (n + 9223372036854775808).toNat else if k = 3 then be8 (risV n).toNat else if k = 4 then esc (sl s) ++ [0, 1] else [])
theorem vb0 (n : Int) (s : ByteArray) : vb 0 n s = [1] := rfl
theorem vb1 (n : Int) (s : ByteArray) : vb 1 n s = [2] ++ [(n % 256).toNat] := rfl
theorem vb2 (n : Int) (s : ByteArray) : vb 2 n s = [3] ++ be8 (n + 9223372036854775808).toNat := rfl
theorem vb3 (n : Int) (s : ByteArray) : vb 3 n s = [4] ++ be8 (risV n).toNat := rfl
theorem vb4 (n : Int) (s : ByteArray) : vb 4 n s = [5] ++ (esc (sl s) ++ [0, 1]) := rfl
theorem ris_in {n : Int} (h : InI n) : 0 ≤ risV n ∧ risV n < 18446744073709551616 := by
  unfold InI at h
  unfold risV
  repeat' split
  all_goals omega
theorem vb_le (k n : Int) (s : ByteArray) : (vb k n s).length ≤ 2 * s.size + 9 := by
  have h := esc_le (sl s)
  rw [sl_length] at h
  unfold vb
  rw [List.length_cons]
  repeat' split
  all_goals first | (simp [be8]; done) | (simp; omega)
/-- a list's key -/
def keyB (kf nf : Nat → Int) (sf : Nat → ByteArray) : Nat → List Nat
  | 0 => []
  | m + 1 => keyB kf nf sf m ++ vb (kf m) (nf m) (sf m)
theorem keyB_le (kf nf : Nat → Int) (sf : Nat → ByteArray) : ∀ m, (∀ i, i < m → (sf i).size ≤ 200) → (keyB kf nf sf m).length ≤ m * 409
  | 0, _ => by simp [keyB]
  | m + 1, h => by
    have h1 := keyB_le kf nf sf m (fun i hi => h i (by omega))
    have h2 := vb_le (kf m) (nf m) (sf m)
    have h3 := h m (by omega)
    unfold keyB
    rw [List.length_append]
    omega

end Go.Proofs.Ytpknoclnmhomiab
