/-
  The reader's number (layer 12): contracts over the translation.
  Conditions: the reader lies in memory; the library's error for a number that is too great is laid.
-/
import Derived.Test.YtlhipnklljjahaaDoorLx18
namespace Go.Proofs.YtlhipnklljjahaaDoor
set_option maxRecDepth 100000
open Go.RowKit Go.Joins Go.ChangeShapes Go.WideShapes
set_option linter.unusedVariables false
set_option linter.unusedSimpArgs false

theorem strB_len (l : List Nat) : (strB l).size = l.length := by unfold strB; rw [strOfNums_size, List.length_map]
/-- the library's error is laid -/
def ErrR (w : World) : Prop := ∃ ev, w.cell? ⟨3, 0, none⟩ = some ev ∧ (ev = .nilIface ∨ ∃ te pe, ev = .iface te pe)
theorem ErrR.lt {w : World} (h : ErrR w) : 3 < w.heap.size := by
  obtain ⟨ev, h, _⟩ := h
  exact Lib.lt_of_cell h
theorem ErrR.below {w w1 : World} (h : ErrR w) (hb : Below w.heap.size w w1) : ErrR w1 := by
  have hl := h.lt
  obtain ⟨ev, h1, h2⟩ := h
  exact ⟨ev, (hb.cell (p := ⟨3, 0, none⟩) hl).trans h1, h2⟩
theorem ErrR.frm {F : Bl} {w w1 : World} (h : ErrR w) (hb : Frm F w w1) (hf : ¬ F 3) : ErrR w1 := by
  have hl := h.lt
  obtain ⟨ev, h1, h2⟩ := h
  exact ⟨ev, (hb.cell hl hf 0).trans h1, h2⟩
/-- digits read: the number and no error, or some error -/
theorem parse_b {l : List Nat} (hd : ∀ x ∈ l, dgL x = true) (h0 : 0 < l.length) (hl : l.length ≤ 8589934592) {w : World} (hE : ErrR w) :
    Calls Tryd.prog 31 #[.string (strB l), .int .i64 10, .int .i64 64] w fun e w' => Below w.heap.size w w' ∧ ∃ n ev, e = .returned (.tuple #[.int .i64 n, ev]) ∧
      ((decL l ≤ 9223372036854775807 ∧ n = (decL l : Int) ∧ ev = .nilIface) ∨ (9223372036854775807 < decL l ∧ ∃ t p, ev = .iface t p)) := by
  have hp := parse_dec l hd h0
  rw [← strB_data] at hp
  by_cases c : 9223372036854775807 < decL l
  · rw [if_pos c] at hp
    obtain ⟨ev, h1, h2⟩ := hE
    refine (Go.Proofs.Any.strconv_ParseInt_10_at64_range piLays (strB l) (by rw [strB_len]; omega) hp ev w h1 h2).mono ?_
    rintro e w' ⟨N, rfl, _, _, hb⟩
    exact ⟨hb, _, _, rfl, .inr ⟨c, _, _, rfl⟩⟩
  · rw [if_neg c] at hp
    refine (Go.Proofs.Any.strconv_ParseInt_10_at64_ok piLays (strB l) (by rw [strB_len]; omega) _ hp w).mono ?_
    rintro e w' ⟨rfl, hb⟩
    refine ⟨?_, _, _, rfl, .inl ⟨by omega, rfl, rfl⟩⟩
    rcases hb with rfl | ⟨t, rfl⟩
    · exact Below.refl _ _
    · exact Lib.bytesWorld_below _ _ _
def numE (l : List Nat) : Except Nat (Tk × Nat) :=
  if fracL (l.drop (runL dgL l)) then
    (if runL dgL l + runL dgL (l.drop (runL dgL l + 1)) > 15 then .error 11
     else .ok (⟨3, [], decL (l.take (runL dgL l) ++ (l.drop (runL dgL l + 1)).take (runL dgL (l.drop (runL dgL l + 1)))), runL dgL (l.drop (runL dgL l + 1))⟩, runL dgL l + 1 + runL dgL (l.drop (runL dgL l + 1))))
  else (if runL dgL l > 19 ∨ 9223372036854775807 < decL (l.take (runL dgL l)) then .error 11 else .ok (⟨2, [], decL (l.take (runL dgL l)), 0⟩, runL dgL l))
/-- a box of a token -/
abbrev TBox (w : World) (g : Nat) (k n sc : Int) (s : ByteArray) : Prop := w.heap[g]? = some (.cells #[.int .i64 k, .string s, .int .i64 n, .int .i64 sc] 29 (0, 0))
theorem TBox.cells {w : World} {g : Nat} {k n sc : Int} {s : ByteArray} (h : TBox w g k n sc s) : (w.cell? ⟨g, 0, none⟩ = some (.int .i64 k) ∧ w.cell? ⟨g, 1, none⟩ = some (.string s) ∧ w.cell? ⟨g, 2, none⟩ = some (.int .i64 n) ∧ w.cell? ⟨g, 3, none⟩ = some (.int .i64 sc)) ∧
    w.frozen? ⟨g, 0, none⟩ = false ∧ w.frozen? ⟨g, 1, none⟩ = false ∧ w.frozen? ⟨g, 2, none⟩ = false ∧ w.frozen? ⟨g, 3, none⟩ = false := by
  refine ⟨⟨?_, ?_, ?_, ?_⟩, unfrozen_of_block h 0, unfrozen_of_block h 1, unfrozen_of_block h 2, unfrozen_of_block h 3⟩ <;> rw [cell_of_block h] <;> rfl
theorem TBox.lt {w : World} {g : Nat} {k n sc : Int} {s : ByteArray} (h : TBox w g k n sc s) : g < w.heap.size := (Array.getElem?_eq_some_iff.1 h).1
theorem TBox.below {w w1 : World} {g : Nat} {k n sc : Int} {s : ByteArray} (h : TBox w g k n sc s) (hb : Below w.heap.size w w1) : TBox w1 g k n sc s := (hb.block _ h.lt).trans h
theorem TBox.frm {F : Bl} {w w1 : World} {g : Nat} {k n sc : Int} {s : ByteArray} (h : TBox w g k n sc s) (hb : Frm F w w1) (hf : ¬ F g) : TBox w1 g k n sc s := (hb.heap h.lt hf).trans h

end Go.Proofs.YtlhipnklljjahaaDoor
