/-
  The law's example: contracts over the translation.
  Conditions: the listed variable holds what is laid.
-/
import Derived.Test.YtgndbhgpdcelpaaDoorCv17
namespace Go.Proofs.YtgndbhgpdcelpaaDoor
set_option maxRecDepth 100000
open Go.RowKit Go.Joins Go.ChangeShapes Go.WideShapes
set_option linter.unusedVariables false
set_option linter.unusedSimpArgs false

def nS : SlV := ⟨none, 0, 0⟩
/-- the example's instructions -/
def exL (lock idx : Int) : List Ins := [⟨1, 0, 0, lock, 0, ⟨#[116]⟩, 0, nS, nS, false, false, nS, 0, nS⟩, ⟨2, 0, 0, 0, 0, ⟨#[116]⟩, idx, nS, nS, false, false, nS, 0, nS⟩, ⟨3, 0, 4, 3, 3, ⟨#[]⟩, 0, nS, nS, false, false, nS, 0, nS⟩, ⟨8, 0, 2, 0, 0, ⟨#[]⟩, 0, nS, nS, false, false, nS, 0, nS⟩, ⟨12, 0, 0, 0, 0, ⟨#[]⟩, 0, nS, nS, false, false, nS, 0, nS⟩]
theorem ex_fin (lock idx : Int) (w : World) (cs : Array Value) (T : TypeId) : RowA ((w.alloc (.cells cs T)).alloc (.cells (KI.cells (exL lock idx)).toArray 33)) (some ⟨w.heap.size + 1, 0, none⟩) (exL lock idx) ∧ Below w.heap.size w ((w.alloc (.cells cs T)).alloc (.cells (KI.cells (exL lock idx)).toArray 33)) := by
  have b1 : Below w.heap.size w (w.alloc (.cells cs T)) := (Below.refl _ _).alloc (Nat.le_refl _) _
  have b2 : Below (w.alloc (.cells cs T)).heap.size (w.alloc (.cells cs T)) ((w.alloc (.cells cs T)).alloc (.cells (KI.cells (exL lock idx)).toArray 33)) := (Below.refl _ _).alloc (Nat.le_refl _) _
  obtain ⟨a, c, e, h⟩ := RowA.own (OwR.made (K := KI) (w.alloc (.cells cs T)) (Nat.le_refl _) (exL lock idx) (by show 5 ≤ maxLen; decide))
  injection e with e1 e2 e3
  rw [show (w.alloc (.cells cs T)).heap.size = w.heap.size + 1 by simp] at e1
  rw [← e1] at h
  exact ⟨h, btr b1 b2 b1.size⟩
set_option maxHeartbeats 4000000 in
theorem example_any (lock idx : Int) (w : World) : Calls Tryd.prog 10 #[.int .i64 lock, .int .i64 idx] w fun e w' => ∃ a, e = .returned (.agg #[.string ⟨#[]⟩, .slice a 5 5]) ∧ RowA w' a (exL lock idx) ∧ Below w.heap.size w w' := by
  generalize hP : (fun (e : Ending) (w' : World) => ∃ a, e = .returned (.agg #[.string ⟨#[]⟩, .slice a 5 5]) ∧ RowA w' a (exL lock idx) ∧ Below w.heap.size w w') = P
  have HP := Lib.hid hP
  clear hP
  go_enter Tryd.func10, Tryd.ntmps10
  go_wp2_with fail
  refine bodyPost_ret (v := .agg #[.string ⟨#[]⟩, .slice (some ⟨w.heap.size + 1, 0, none⟩) 5 5]) (by simp [results, Tryd.results10, go_sem]) rfl ?_
  rw [← HP.out]
  exact ⟨_, rfl, (ex_fin lock idx w _ _).1, (ex_fin lock idx w _ _).2⟩
set_option maxRecDepth 100000 in
theorem ex_1 : ckB ⟨#[]⟩ (exL 1 0) = true := by decide +kernel
set_option maxRecDepth 100000 in
theorem ex_2 : ckB ⟨#[]⟩ (exL 1 (-1)) = false := by decide +kernel
set_option maxRecDepth 100000 in
theorem ex_3 : ckB ⟨#[]⟩ (exL 3 (-1)) = true := by decide +kernel
set_option maxHeartbeats 4000000 in
theorem speaks22_any (w : World) (hT : TabB w 0 cvL) : Calls Tryd.prog 7 #[] w fun e w' => e = .returned (.bool true) ∧ Below w.heap.size w w' := by
  have HT := Lib.hid (fun (V : World) (hV : Below w.heap.size w V) => hT.below hV)
  have HE := Lib.hid (fun (V : World) (l k : Int) => example_any l k V)
  have HC := Lib.hid (fun (V : World) (hV : Below w.heap.size w V) (a : Option Addr) (l k : Int) (h : RowA V a (exL l k)) => check_any V (hT.below hV) ⟨#[]⟩ a 5 (exL l k) h (by show 5 ≤ _; decide) (Nat.le_refl 5))
  clear hT
  go_enter Tryd.func7, Tryd.ntmps7
  go_wp2_with fail
  refine (HE.out w 1 0).mono ?_
  rintro e w1 ⟨a1, rfl, hr1, hb1⟩
  have HB1 := Lib.hid hb1
  have HC1 := Lib.hid (HC.out w1 hb1 a1 1 0 hr1)
  rw [ex_1] at HC1
  clear hr1 hb1
  go_wp2_with fail
  refine HC1.out.mono ?_
  rintro e w2 ⟨rfl, hb2⟩
  have HB2 := Lib.hid (btr HB1.out hb2 HB1.out.size)
  clear hb2 HC1
  rw [show erI true = 0 from rfl]
  go_wp2_with fail
  refine (HE.out w2 1 (-1)).mono ?_
  rintro e w3 ⟨a3, rfl, hr3, hb3⟩
  have HB3 := Lib.hid (btr HB2.out hb3 HB2.out.size)
  have HC3 := Lib.hid (HC.out w3 HB3.out a3 1 (-1) hr3)
  rw [ex_2] at HC3
  clear hr3 hb3
  go_wp2_with fail
  refine HC3.out.mono ?_
  rintro e w4 ⟨rfl, hb4⟩
  have HB4 := Lib.hid (btr HB3.out hb4 HB3.out.size)
  clear hb4 HC3
  rw [show erI false = 240 from rfl]
  go_wp2_with fail
  refine (HE.out w4 3 (-1)).mono ?_
  rintro e w5 ⟨a5, rfl, hr5, hb5⟩
  have HB5 := Lib.hid (btr HB4.out hb5 HB4.out.size)
  have HC5 := Lib.hid (HC.out w5 HB5.out a5 3 (-1) hr5)
  rw [ex_3] at HC5
  clear hr5 hb5
  go_wp2_with fail
  refine HC5.out.mono ?_
  rintro e w6 ⟨rfl, hb6⟩
  have HB6 := Lib.hid (btr HB5.out hb6 HB5.out.size)
  clear hb6 HC5
  rw [show erI true = 0 from rfl]
  go_wp2_with fail
  go_ret
  exact ⟨rfl, HB6.out⟩

end Go.Proofs.YtgndbhgpdcelpaaDoor
