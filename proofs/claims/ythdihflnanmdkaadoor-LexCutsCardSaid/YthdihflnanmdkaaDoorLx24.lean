/-
  The document's byte at a place, and its number (haspref12): contracts over the translation.
  Conditions: none.
-/
import Derived.Test.YthdihflnanmdkaaDoorLx23
namespace Go.Proofs.YthdihflnanmdkaaDoor
set_option maxRecDepth 100000
open Go.RowKit Go.Joins Go.ChangeShapes Go.WideShapes
set_option linter.unusedVariables false
set_option linter.unusedSimpArgs false

theorem slx_at (s : ByteArray) (q : Nat) (h : q < s.size) : (sl s)[q]? = some (s[q]'h).toNat := by
  unfold sl
  rw [List.getElem?_map, Array.getElem?_toList, Array.getElem?_eq_getElem h]
  rfl
theorem slx_get (s : ByteArray) (q : Nat) (h : q < s.size) : (sl s).getD q 0 = (s[q]'h).toNat := by
  rw [List.getD_eq_getElem?_getD, slx_at s q h]
  rfl
theorem slx_lt (s : ByteArray) (q : Nat) : (sl s).getD q 0 < 256 := by
  by_cases h : q < s.size
  · rw [slx_get s q h]; exact (s[q]'h).toNat_lt
  · rw [List.getD_eq_getElem?_getD, List.getElem?_eq_none (by rw [sl_length]; omega)]
    decide
set_option maxHeartbeats 1000000 in
theorem rat_any (s : ByteArray) (i : Nat) (w : World) : Calls Tryd.prog 25 #[.string s, .int .i64 (i : Int)] w fun e w' => e = .returned (.int .u8 ((sl s).getD i 0 : Nat)) ∧ w = w' := by
  by_cases h : i < s.size
  · have hx := slx_get s i h
    have hi : (i : Int) < (s.size : Int) := by omega
    rw [hx]
    clear hx
    go_enter Tryd.func25, Tryd.ntmps25
    go_wp2_with fail
    all_goals first | (go_ret; exact ⟨rfl, rfl⟩) | (exfalso; omega)
  · have hi : decide ((i : Int) < (s.size : Int)) = false := by simp; omega
    rw [List.getD_eq_getElem?_getD, List.getElem?_eq_none (by rw [sl_length]; omega)]
    go_enter Tryd.func25, Tryd.ntmps25
    go_wp2_with fail
    go_ret
    exact ⟨rfl, rfl⟩

end Go.Proofs.YthdihflnanmdkaaDoor
