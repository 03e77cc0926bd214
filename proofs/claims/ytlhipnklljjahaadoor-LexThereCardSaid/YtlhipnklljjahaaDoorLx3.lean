/-
  The reserved words, and the document's sorts of bytes (layer 12): contracts over the translation.
  Conditions: none.
-/
import Derived.Test.YtlhipnklljjahaaDoorLx2
namespace Go.Proofs.YtlhipnklljjahaaDoor
set_option maxRecDepth 100000
open Go.RowKit Go.Joins Go.ChangeShapes Go.WideShapes
set_option linter.unusedVariables false
set_option linter.unusedSimpArgs false

/-- the reserved words -/
def resW : List (List UInt8) := [[97, 110, 100], [97, 115], [98, 101, 103, 105, 110], [98, 111, 111, 108], [98, 121], [99, 111, 109, 109, 105, 116], [99, 114, 101, 97, 116, 101], [100, 101, 108, 101, 116, 101], [100, 101, 115, 99], [100, 114, 111, 112], [102, 97, 108, 115, 101], [102, 114, 111, 109], [105, 110, 100, 101, 120], [105, 110, 102, 105, 110, 105, 116, 121], [105, 110, 110, 101, 114], [105, 110, 115, 101, 114, 116], [105, 110, 116], [105, 110, 116, 111], [105, 115], [106, 111, 105, 110], [110, 97, 110], [110, 111, 116], [110, 117, 108, 108], [111, 110], [111, 114], [111, 114, 100, 101, 114], [114, 101, 97, 108], [114, 111, 108, 108, 98, 97, 99, 107], [115, 101, 108, 101, 99, 116], [115, 101, 116], [116, 97, 98, 108, 101], [116, 101, 120, 116], [116, 114, 117, 101], [117, 110, 105, 113, 117, 101], [117, 112, 100, 97, 116, 101], [118, 97, 108, 117, 101, 115], [119, 104, 101, 114, 101]]
def resB (s : ByteArray) : Bool := resW.any fun x => s.toList == x
set_option maxHeartbeats 4000000 in
theorem res_any (s : ByteArray) (w : World) : Calls Tryd.prog 8 #[.string s] w fun e w' => e = .returned (.bool (resB s)) ∧ w = w' := by
  obtain ⟨r, hr⟩ : ∃ r, resB s = r := ⟨_, rfl⟩
  rw [hr]
  have HR := Lib.hid hr
  clear hr
  go_enter Tryd.func8, Tryd.ntmps8
  go_wp2
  all_goals
    have hr := HR.out
    unfold resB resW at hr
    first
      | (exfalso; simp_all; done)
      | (go_ret; refine ⟨?_, rfl⟩; simp only [List.any_cons, List.any_nil, *, Bool.false_or, Bool.true_or, Bool.or_true, Bool.or_false] at hr; subst hr; rfl)

def smI (c : Nat) : Nat := if 65 ≤ c ∧ c ≤ 90 then c + 32 else c
def ltL (c : Nat) : Bool := c == 95 || (decide (97 ≤ smI c) && decide (smI c ≤ 122))
theorem smI_lt {c : Nat} (hc : c < 256) : smI c < 256 := by unfold smI; split <;> omega
/-- the document's letters are the program's -/
theorem ltL_eq (c : Nat) : ltL c = bwL c := by
  unfold ltL bwL smL cpL smI
  by_cases h : 65 ≤ c ∧ c ≤ 90
  · rw [if_pos h]
    have h1 : decide (97 ≤ c + 32) = true := by simp; omega
    have h2 : decide (c + 32 ≤ 122) = true := by simp; omega
    have h3 : decide (65 ≤ c) = true := by simpa using h.1
    have h4 : decide (c ≤ 90) = true := by simpa using h.2
    rw [h1, h2, h3, h4]
    simp
  · rw [if_neg h]
    have h3 : (decide (65 ≤ c) && decide (c ≤ 90)) = false := by
      by_cases a : 65 ≤ c
      · have : ¬ c ≤ 90 := fun b => h ⟨a, b⟩
        simp [this]
      · simp [a]
    rw [h3]
    cases (c == 95) <;> cases (decide (97 ≤ c) && decide (c ≤ 122)) <;> rfl

end Go.Proofs.YtlhipnklljjahaaDoor
