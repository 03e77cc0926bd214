/-
  The reserved words, and the document's sorts of bytes (layer 12): contracts over the translation.
  Conditions: none.
-/
import Derived.Test.YthdihflnanmdkabDoorLx2
namespace Go.Proofs.YthdihflnanmdkabDoor
set_option maxRecDepth 100000
open Go.RowKit Go.Joins Go.ChangeShapes Go.WideShapes
set_option linter.unusedVariables false
set_option linter.unusedSimpArgs false

/-- the reserved words -/
def resW : List (List UInt8) := [[97, 110, 100], [97, 115], [98, 101, 103, 105, 110], [98, 111, 111, 108], [98, 121], [99, 111, 109, 109, 105, 116], [99, 114, 101, 97, 116, 101], [100, 101, 108, 101, 116, 101], [100, 101, 115, 99], [100, 114, 111, 112], [102, 97, 108, 115, 101], [102, 114, 111, 109], [105, 110, 100, 101, 120], [105, 110, 102, 105, 110, 105, 116, 121], [105, 110, 110, 101, 114], [105, 110, 115, 101, 114, 116], [105, 110, 116], [105, 110, 116, 111], [105, 115], [106, 111, 105, 110], [110, 97, 110], [110, 111, 116], [110, 117, 108, 108], [111, 110], [111, 114], [111, 114, 100, 101, 114], [114, 101, 97, 108], [114, 111, 108, 108, 98, 97, 99, 107], [115, 101, 108, 101, 99, 116], [115, 101, 116], [116, 97, 98, 108, 101], [116, 101, 120, 116], [116, 114, 117, 101], [117, 110, 105, 113, 117, 101], [117, 112, 100, 97, 116, 101], [118, 97, 108, 117, 101, 115], [119, 104, 101, 114, 101]]
def resB (s : ByteArray) : Bool := resW.any fun x => s.toList == x
set_option maxHeartbeats 4000000 in
theorem res_any (s : ByteArray) (w : World) : Calls Tryd.prog 7 #[.string s] w fun e w' => e = .returned (.bool (resB s)) ∧ w = w' := by
  obtain ⟨r, hr⟩ : ∃ r, resB s = r := ⟨_, rfl⟩
  rw [hr]
  have HR := Lib.hid hr
  clear hr
  go_enter Tryd.func7, Tryd.ntmps7
  go_wp2
  all_goals
    have hr := HR.out
    unfold resB resW at hr
    first
      | (exfalso; simp_all; done)
      | (go_ret; refine ⟨?_, rfl⟩; simp only [List.any_cons, List.any_nil, *, Bool.false_or, Bool.true_or, Bool.or_true, Bool.or_false] at hr; subst hr; rfl)

def smI (c : Nat) : Nat := if 65 ≤ c ∧ c ≤ 90 then c + 32 else c
def ltL (c : Nat) : Bool := c == 95 || (decide (97 ≤ smI c) && decide (smI c ≤ 122))
set_option maxHeartbeats 1000000 in
theorem rdigit_any : Sort8 19 dgL := by
  intro c w hc
  have e1 : decide ((48 : Int) ≤ (c : Int)) = decide (48 ≤ c) := lei 48 c
  have e2 : decide ((c : Int) ≤ (57 : Int)) = decide (c ≤ 57) := lei c 57
  unfold dgL
  cases h1 : decide (48 ≤ c) <;> cases h2 : decide (c ≤ 57) <;> rw [h1] at e1 <;> rw [h2] at e2 <;> clear h1 h2
  all_goals
    go_enter Tryd.func19, Tryd.ntmps19
    go_wp2
    go_ret
    exact ⟨rfl, rfl⟩
set_option maxHeartbeats 1000000 in
theorem rsmall_any (c : Nat) (hc : c < 256) (w : World) : Calls Tryd.prog 18 #[.int .u8 (c : Int)] w fun e w' => e = .returned (.int .u8 (smI c : Nat)) ∧ w = w' := by
  have e1 : decide ((65 : Int) ≤ (c : Int)) = decide (65 ≤ c) := lei 65 c
  have e2 : decide ((c : Int) ≤ (90 : Int)) = decide (c ≤ 90) := lei c 90
  by_cases h1 : 65 ≤ c
  · by_cases h2 : c ≤ 90
    · have hs : smI c = c + 32 := by unfold smI; rw [if_pos ⟨h1, h2⟩]
      rw [decide_eq_true h1] at e1
      rw [decide_eq_true h2] at e2
      have e3 : IntKind.u8.wrap ((c : Int) + 32) = ((c + 32 : Nat) : Int) := by rw [IntKind.wrap_u8]; omega
      rw [hs]
      clear hs
      go_enter Tryd.func18, Tryd.ntmps18
      go_wp2
      go_ret
      exact ⟨by simp, rfl⟩
    · have hs : smI c = c := by unfold smI; rw [if_neg (fun h => h2 h.2)]
      rw [decide_eq_true h1] at e1
      rw [decide_eq_false h2] at e2
      rw [hs]
      clear hs
      go_enter Tryd.func18, Tryd.ntmps18
      go_wp2
      go_ret
      exact ⟨rfl, rfl⟩
  · have hs : smI c = c := by unfold smI; rw [if_neg (fun h => h1 h.1)]
    rw [decide_eq_false h1] at e1
    rw [hs]
    clear hs
    go_enter Tryd.func18, Tryd.ntmps18
    go_wp2
    go_ret
    exact ⟨rfl, rfl⟩
theorem smI_lt {c : Nat} (hc : c < 256) : smI c < 256 := by unfold smI; split <;> omega
set_option maxHeartbeats 2000000 in
theorem rletter_any : Sort8 17 ltL := by
  intro c w hc
  have HS := Lib.hid (rsmall_any c hc w)
  have e1 : ((c : Int) == (95 : Int)) = (c == 95) := eqi c 95
  obtain ⟨d, hd⟩ : ∃ d, smI c = d := ⟨_, rfl⟩
  unfold ltL
  rw [hd] at HS ⊢
  have e2 : decide ((97 : Int) ≤ (d : Int)) = decide (97 ≤ d) := lei 97 d
  have e3 : decide ((d : Int) ≤ (122 : Int)) = decide (d ≤ 122) := lei d 122
  cases h1 : (c == 95) <;> cases h2 : decide (97 ≤ d) <;> cases h3 : decide (d ≤ 122) <;> rw [h1] at e1 <;> rw [h2] at e2 <;> rw [h3] at e3 <;> clear h1 h2 h3 hd
  all_goals
    go_enter Tryd.func17, Tryd.ntmps17
    go_wp2_with (first | (go_at_call 18; refine HS.out.mono ?_; rintro e w' ⟨rfl, rfl⟩))
    go_ret
    exact ⟨rfl, rfl⟩
/-- the document's letters are the program's -/
theorem ltL_eq (c : Nat) : ltL c = bwL c := by
  unfold ltL bwL smL cpL smI
  by_cases h : 65 ≤ c ∧ c ≤ 90
  · rw [if_pos h]
    have h1 : decide (97 ≤ c + 32) = true := by simp; omega
    have h2 : decide (c + 32 ≤ 122) = true := by simp; omega
    have h3 : decide (65 ≤ c) = true := by simpa using h.1
    have h4 : decide (c ≤ 90) = true := by simpa using h.2
    rw [h1, h2, h3, h4]
    simp
  · rw [if_neg h]
    have h3 : (decide (65 ≤ c) && decide (c ≤ 90)) = false := by
      by_cases a : 65 ≤ c
      · have : ¬ c ≤ 90 := fun b => h ⟨a, b⟩
        simp [this]
      · simp [a]
    rw [h3]
    cases (c == 95) <;> cases (decide (97 ≤ c) && decide (c ≤ 122)) <;> rfl

end Go.Proofs.YthdihflnanmdkabDoor
