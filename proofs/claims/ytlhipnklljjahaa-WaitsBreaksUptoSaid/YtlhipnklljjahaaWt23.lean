/-
  The law's own words about waiting (hasplaw11): speaks: a contract over the translation.
  Conditions: none.
-/
import Derived.Test.YtlhipnklljjahaaWt22
namespace Go.Proofs.Ytlhipnklljjahaa
open Go.RowKit Go.Joins Go.ChangeShapes Go.WideShapes
set_option linter.unusedVariables false
set_option linter.unnecessarySimpa false
set_option linter.unusedSimpArgs false

theorem isN_made (w : World) (l : List Int) (cs : Array Value) (h : cs.toList = icells l) : IsN (w.alloc (.cells cs 3)) w.heap.size 0 l := by
  refine ⟨fun _ => (Array.getElem?_eq_some_iff.1 (heap_alloc_new w _)).1, fun i x hx => ?_⟩
  rw [cell_of_block (heap_alloc_new w _), Nat.zero_add, ← Array.getElem?_toList, h]
  exact icells_at hx
theorem isEg_made (w : World) (l : List Eg) (cs : Array Value) (h : cs.toList = edcells l) : IsEg (w.alloc (.cells cs 27)) w.heap.size 0 l := by
  refine ⟨fun _ => (Array.getElem?_eq_some_iff.1 (heap_alloc_new w _)).1, fun i x y hx => ?_, fun i x y hx => ?_⟩
  · rw [cell_of_block (heap_alloc_new w _), Nat.zero_add, ← Array.getElem?_toList, h]
    exact (edcells_at l i _ hx).1
  · rw [cell_of_block (heap_alloc_new w _), Nat.zero_add, ← Array.getElem?_toList, h]
    exact (edcells_at l i _ hx).2
def E11 : List Eg := [(1, 2), (2, 3), (3, 1), (2, 4)]
theorem res11 : Res (Sx E11) 2 [(2, Sx E11 2)] [2] [2, 3, 1] := by
  rw [show Sx E11 2 = [3, 4] by decide]
  refine .enter 2 3 [4] [] [2] _ (by decide) (by decide) ?_
  rw [show Sx E11 3 = [1] by decide]
  refine .enter 3 1 [] _ [3, 2] _ (by decide) (by decide) ?_
  rw [show Sx E11 1 = [2] by decide]
  exact .found 1 [2] [(3, []), (2, [4])] [1, 3, 2] (by decide)
theorem res11e : Res (Sx E11) 4 [(4, Sx E11 4)] [4] [] := by
  rw [show Sx E11 4 = [] by decide]
  exact .pop 4 [] [4] [] (by decide) (.none _)
theorem rch11 : ∃ x, Rch (Sx E11) x x := ⟨2, .step 2 3 2 (by decide) (.step 3 1 2 (by decide) (.one 1 2 (by decide)))⟩
set_option maxRecDepth 100000 in
set_option maxHeartbeats 2000000 in
theorem speaks11_any (W : World) : Calls Try.prog 7 #[] W fun e w' => e = .returned (.bool true) ∧ Below W.heap.size W w' := by
  generalize hP : (fun (e : Ending) (w' : World) => e = .returned (.bool true) ∧ Below W.heap.size W w') = PP
  have HP := Lib.hid hP
  clear hP
  obtain ⟨bb, hbb⟩ : ∃ x, W.heap.size = x := ⟨_, rfl⟩
  obtain ⟨w1, hw1⟩ : ∃ x, W.alloc (.cells #[.int .i64 1, .int .i64 2, .int .i64 2, .int .i64 3, .int .i64 3, .int .i64 1, .int .i64 2, .int .i64 4] 27) = x := ⟨_, rfl⟩
  have hE : IsEg w1 bb 0 E11 := by rw [← hw1, ← hbb]; exact isEg_made W E11 _ rfl
  have B1 := Lib.hid (show Below W.heap.size W w1 by rw [← hw1]; exact (Below.refl _ _).alloc (Nat.le_refl _) _)
  have HC := Lib.hid (fun (wx : World) (hb : Below w1.heap.size w1 wx) (a : Int) => cyc_any wx bb 0 4 E11 (hE.below hb) (by decide) a)
  have HA := Lib.hid (fun (wx : World) (hb : Below w1.heap.size w1 wx) => any_any wx bb 0 4 E11 (hE.below hb) (by decide))
  have HW1 := Lib.hid hw1
  have HBB := Lib.hid hbb
  clear hE hw1 hbb
  go_enter Try.func7, Try.ntmps7
  go_wp2_with fail
  try rw [HW1.out, HBB.out]
  refine (HC.out w1 (Below.refl _ _) 2).mono ?_
  rintro e w2 ⟨v1, o1, rfl, r1, q1, b2⟩
  obtain rfl := Res.one r1 _ res11
  obtain ⟨A1, b1, f1, c1, rfl, -, -, hz1, hn1⟩ := QI.isN q1
  have B2 := Lib.hid b2
  obtain ⟨w3, hw3⟩ : ∃ x, w2.alloc (.cells #[.int .i64 2, .int .i64 3, .int .i64 1] 3) = x := ⟨_, rfl⟩
  have b3 : Below w2.heap.size w2 w3 := by rw [← hw3]; exact (Below.refl _ _).alloc (Nat.le_refl _) _
  have hn3 : IsN w3 w2.heap.size 0 [2, 3, 1] := by rw [← hw3]; exact isN_made w2 _ _ rfl
  have HSI := Lib.hid (sameints_any A1 (some ⟨w2.heap.size, 0, none⟩) b1 f1 c1 w2.heap.size 0 3 [2, 3, 1] [2, 3, 1] (by decide) (by decide) w3 hz1 (.inr rfl) (hn1.below b3) hn3)
  have B3 := Lib.hid (btr b2 b3)
  have HW3 := Lib.hid hw3
  clear r1 q1 hn1 hz1 b2 b3 hn3 hw3
  go_wp2_with fail
  try rw [HW3.out]
  refine HSI.out.mono ?_
  rintro e w4 ⟨rfl, b4⟩
  have B4 := Lib.hid (btr B3.out b4)
  simp only [decide_true]
  clear b4 HSI
  go_wp2_with fail
  refine (HC.out w4 B4.out 4).mono ?_
  rintro e w5 ⟨v2, o2, rfl, r2, q2, b5⟩
  obtain rfl := Res.one r2 _ res11e
  obtain ⟨A2, b2, f2, c2, rfl, -, -, hz2, hn2⟩ := QI.isN q2
  have B5 := Lib.hid (btr B4.out b5)
  clear r2 q2 hz2 hn2 b5
  go_wp2_with fail
  refine (HA.out w5 B5.out).mono ?_
  rintro e w6 ⟨t, rfl, ht, b6⟩
  obtain rfl : t = true := ht.2 rch11
  have B6 := Lib.hid (btr B5.out b6)
  clear ht b6
  obtain ⟨w7, hw7⟩ : ∃ x, w6.alloc (.cells #[.int .i64 2, .int .i64 3, .int .i64 1] 3) = x := ⟨_, rfl⟩
  have b7 : Below w6.heap.size w6 w7 := by rw [← hw7]; exact (Below.refl _ _).alloc (Nat.le_refl _) _
  have hn7 : IsN w7 w6.heap.size 0 [2, 3, 1] := by rw [← hw7]; exact isN_made w6 _ _ rfl
  have HV := Lib.hid (victim_any (some ⟨w6.heap.size, 0, none⟩) w6.heap.size 0 3 [2, 3, 1] (by decide) (.inr rfl) w7 hn7)
  have HF := Lib.hid (show PP (.returned (.bool true)) w7 by
    rw [← HP.out]
    exact ⟨rfl, btr B1.out (btr B6.out b7)⟩)
  have HW7 := Lib.hid hw7
  clear b7 hn7 hw7
  go_wp2_with fail
  try rw [HW7.out]
  refine HV.out.mono ?_
  rintro e w8 ⟨z, rfl, hz, rfl⟩
  obtain rfl : (3 : Int) = z := VicS.one (l := [2, 3, 1]) (.inr ⟨by decide, by decide⟩) hz
  go_wp2_with fail
  exact HF.out

end Go.Proofs.Ytlhipnklljjahaa
