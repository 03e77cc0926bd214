/-
  The law's example on tokens (hasplaw12): contracts over the translation.
  Conditions: the library's error for a number that is too great is laid.
-/
import Derived.Test.YtlhipnklljjahaaDoorLx23
import Derived.Deep.QuietTactic
namespace Go.Proofs.YtlhipnklljjahaaDoor
set_option maxRecDepth 100000
open Go.RowKit Go.Joins Go.ChangeShapes Go.WideShapes
set_option linter.unusedVariables false
set_option linter.unusedSimpArgs false

def exA : ByteArray := ⟨#[83, 69, 76, 69, 67, 84, 32, 97, 46, 66, 60, 62, 39, 105, 116, 39, 39, 115, 39, 32, 55, 46, 53, 48]⟩
def exB : ByteArray := ⟨#[49, 50, 46, 120]⟩
theorem exA_toks : toksE (sl exA) = .ok [⟨1, [115, 101, 108, 101, 99, 116], 0, 0⟩, ⟨1, [97], 0, 0⟩, ⟨5, [46], 0, 0⟩, ⟨1, [98], 0, 0⟩, ⟨5, [60, 62], 0, 0⟩, ⟨4, [105, 116, 39, 115], 0, 0⟩, ⟨3, [], 750, 2⟩] := by rfl
theorem exB_toks : toksE (sl exB) = .ok [⟨2, [], 12, 0⟩, ⟨5, [46], 0, 0⟩, ⟨1, [120], 0, 0⟩] := by rfl
theorem ex_res : resB ⟨#[97, 110, 100]⟩ = true := by
  simp only [resB, ByteArray.toList_eq]
  rfl
theorem ex_nres : resB ⟨#[97, 49]⟩ = false := by
  simp only [resB, ByteArray.toList_eq]
  rfl
theorem ex_name : nameB ⟨#[97, 49]⟩ = true := by
  unfold nameB
  rw [ex_nres]
  rfl
theorem ex_nname : nameB ⟨#[97, 110, 100]⟩ = false := by
  unfold nameB
  rw [ex_res]
  rfl
set_option maxHeartbeats 4000000 in
theorem speaks12_any (w : World) (hE : ErrR w) : Calls Tryd.prog 4 #[] w fun e w' => e = .returned (.bool true) ∧ Below w.heap.size w w' := by
  have h1 := tokens_any exA w hE
  rw [exA_toks] at h1
  have H1 := Lib.hid h1
  have H2 := Lib.hid (fun (wx : World) (hb : Below w.heap.size w wx) => tokens_any exB wx (hE.below hb))
  have HR := Lib.hid (fun (wx : World) => res_any ⟨#[97, 110, 100]⟩ wx)
  have HN := Lib.hid (fun (wx : World) => name_any ⟨#[97, 49]⟩ wx)
  have HM := Lib.hid (fun (wx : World) => name_any ⟨#[97, 110, 100]⟩ wx)
  rw [exB_toks] at H2
  rw [ex_res] at HR
  rw [ex_name] at HN
  rw [ex_nname] at HM
  clear h1 hE
  unfold exA at H1
  unfold exB at H2
  go_enter Tryd.func4, Tryd.ntmps4
  go_wp2_with fail
  try go_at_call 5
  refine H1.out.mono ?_
  rintro e w1 ⟨b1, v1, rfl, o1⟩
  have H2' := Lib.hid (H2.out w1 b1)
  have B1 := Lib.hid b1
  have O1 := Lib.hid o1
  clear b1 o1
  go_wp2_with fail
  try go_at_call 5
  refine H2'.out.mono ?_
  rintro e w2 ⟨b2, v2, rfl, o2⟩
  obtain ⟨a1, cap1, rfl, hf1⟩ := (O1.out.below b2).form
  obtain ⟨a2, cap2, rfl, hf2⟩ := o2.form
  rcases hf1 with ⟨_, e, _⟩ | ⟨g1, rfl, _, _, _, hc1⟩
  · cases e
  have c0 : w2.cell? ⟨g1, 0, none⟩ = some (.int .i64 1) := hc1 0 _ rfl
  have c1 : w2.cell? ⟨g1, 1, none⟩ = some (.string ⟨#[115, 101, 108, 101, 99, 116]⟩) := hc1 1 _ rfl
  have c2 : w2.cell? ⟨g1, 2, none⟩ = some (.int .i64 0) := hc1 2 _ rfl
  have c3 : w2.cell? ⟨g1, 3, none⟩ = some (.int .i64 0) := hc1 3 _ rfl
  have d1 : w2.cell? ⟨g1, 21, none⟩ = some (.string ⟨#[105, 116, 39, 115]⟩) := hc1 21 _ rfl
  have e0 : w2.cell? ⟨g1, 24, none⟩ = some (.int .i64 3) := hc1 24 _ rfl
  have e1 : w2.cell? ⟨g1, 25, none⟩ = some (.string ⟨#[]⟩) := hc1 25 _ rfl
  have e2 : w2.cell? ⟨g1, 26, none⟩ = some (.int .i64 750) := hc1 26 _ rfl
  have e3 : w2.cell? ⟨g1, 27, none⟩ = some (.int .i64 2) := hc1 27 _ rfl
  have HB := Lib.hid (B1.out.trans (b2.mono B1.out.size))
  clear hc1 hf2 o2 b2
  go_wp2_with fail
  try go_at_call 8
  refine (HR.out _).mono ?_
  rintro e w' ⟨rfl, rfl⟩
  go_wp2_with fail
  try go_at_call 9
  refine (HN.out _).mono ?_
  rintro e w3 ⟨rfl, b3⟩
  go_wp2_with fail
  try go_at_call 9
  refine (HM.out _).mono ?_
  rintro e w4 ⟨rfl, b4⟩
  have HB4 := Lib.hid (HB.out.trans ((b3.trans (b4.mono b3.size)).mono HB.out.size))
  clear b3 b4
  go_wp2_with fail
  go_ret
  exact ⟨rfl, HB4.out⟩

end Go.Proofs.YtlhipnklljjahaaDoor
