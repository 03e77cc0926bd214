/-
  Texts of mine put together, in build order.
  Conditions: as each declaration says.
-/
import Derived.Test.YtofnkfjhmjecjaaGreatDoorZp21
import Derived.Test.YtofnkfjhmjecjaaGreatDoorZp22
namespace Go.Proofs.YtofnkfjhmjecjaaGreatDoor
set_option maxRecDepth 100000
open Go.RowKit Go.Joins Go.ChangeShapes Go.WideShapes Go.Great
set_option linter.unusedVariables false
set_option linter.unusedSimpArgs false
def s6 (l : List (List Nat)) : Array Value := (l.map fun w => Value.string (strB w)).toArray
def i6 (l : List Int) : Array Value := (l.map fun z => Value.int .i64 z).toArray
def lvW : Array Value := s6 [wOr, wAnd, [], [], [], []]
def lvO : Array Value := i6 [18, 17, 0, 0, 0, 0]
def sgW : Array Value := s6 [[43], [45], [124, 124], [42], [47], [37]]
def sgO : Array Value := i6 [7, 8, 12, 9, 10, 11]
def zs6 : Array Value := (List.replicate 6 (Value.string ByteArray.empty)).toArray
def zi6 : Array Value := (List.replicate 6 (Value.int .i64 0)).toArray
set_option maxHeartbeats 8000000 in
theorem level_d0 {w : World} {pb : Nat} {ts : List Tk} {s : DS} (h : DsM w pb ts s) :
  Calls Tryz.prog 176 #[.pointer (some ⟨pb, 0, none⟩), .int .i64 0] w fun e w' => e = .returned (.int .i64 ((dLevel ts 0 s).1 : Int)) ∧ Dp w w' pb ts (dLevel ts 0 s).2 := by
 obtain ⟨R, hR⟩ : ∃ R, dLevel ts 0 s = R := ⟨_, rfl⟩
 rw [hR]
 generalize hP : (fun (e : Ending) (w' : World) => e = .returned (.int .i64 (R.1 : Int)) ∧ Dp w w' pb ts R.2) = P
 have HP := Lib.hid hP
 have HR := Lib.hid (show (if dIs ts 1 wOr s = true then (18, s.next) else (0, s)) = R from hR)
 have hna := Bx.new w lvW 194
 have ba : Below w.heap.size w (w.alloc (.cells lvW 194)) := (Below.refl _ _).alloc (Nat.le_refl _) _
 obtain ⟨wa, hwa⟩ : ∃ wa, w.alloc (.cells lvW 194) = wa := ⟨_, rfl⟩
 rw [hwa] at ba hna
 have hnb := Bx.new wa lvO 195
 have bb : Below wa.heap.size wa (wa.alloc (.cells lvO 195)) := (Below.refl _ _).alloc (Nat.le_refl _) _
 obtain ⟨wb, hwb⟩ : ∃ wb, wa.alloc (.cells lvO 195) = wb := ⟨_, rfl⟩
 rw [hwb] at bb hnb
 have bw := ba.trans (bb.mono ba.size)
 have HD := Lib.hid ((Dp.refl h).below bw)
 have HG := Lib.hid (got_d HD.out.ds 1 wOr (by decide))
 have ha := hna.below bb
 have kw : wb.cell? ⟨w.heap.size, 0, none⟩ = some (.string (strB wOr)) := ha.cell rfl
 obtain ⟨T, hT⟩ : ∃ T, strB wOr = T := ⟨_, rfl⟩
 rw [hT] at kw HG
 have HB := Lib.hid hnb
 have hpa : pb < wa.heap.size := Nat.lt_of_lt_of_le h.lt ba.size
 have e1 : ((1 : Nat) : Int) = 1 := rfl
 rw [e1] at HG
 clear hP hR h hna hnb ba bb bw ha hT e1
 go_enter Tryz.func176, Tryz.ntmps176
 go_upto_region 1 with fail
 refine wp_region_lit ?_
 refine arr_one 194 lvW zs6 11 5 _ rfl rfl rfl (by kernel_rfl) rfl rfl (by kernel_rfl) rfl rfl rfl rfl rfl (by kernel_rfl) (by kernel_rfl) (by kernel_rfl) ?_
 rw [hwa]
 refine wpList_nil ?_
 simp only [Act.put, List.setIfInBounds_toArray, List.set_cons_zero, List.set_cons_succ]
 go_upto_region 2 with fail
 refine wp_region_lit ?_
 refine arr_one 195 lvO zi6 12 6 _ rfl rfl rfl (by kernel_rfl) rfl rfl (by kernel_rfl) rfl rfl rfl rfl rfl (by kernel_rfl) (by kernel_rfl) (by kernel_rfl) ?_
 rw [hwb]
 refine wpList_nil ?_
 simp only [Act.put, List.setIfInBounds_toArray, List.set_cons_zero, List.set_cons_succ]
 by_cases c : dIs ts 1 wOr s = true
 ·have hg : dGot ts 1 wOr s = (true, s.next) := by unfold dGot; rw [if_pos c]
  have hRR : R = (18, s.next) := by rw [← HR.out, if_pos c]
  rw [hg] at HG
  have HRR := Lib.hid hRR
  clear hRR c HR hg
  go_wp2_with fail
  try go_at_call 48
  refine HG.out.mono ?_
  rintro e w1 ⟨rfl, b1⟩
  have kv : w1.cell? ⟨wa.heap.size, 0, none⟩ = some (.int .i64 18) := (Bx.frm HB.out b1.fr (fun e => by have : wa.heap.size = pb := e; omega)).cell rfl
  have HF := Lib.hid (show P (.returned (.int .i64 18)) w1 by rw [← HP.out, HRR.out]; exact ⟨rfl, HD.out.trans b1⟩)
  clear b1 HP HRR
  go_wp2_with fail
  exact HF.out
 ·have hg : dGot ts 1 wOr s = (false, s) := by unfold dGot; rw [if_neg c]
  have hRR : R = (0, s) := by rw [← HR.out, if_neg c]
  rw [hg] at HG
  have HRR := Lib.hid hRR
  clear hRR c HR hg
  go_wp2_with fail
  try go_at_call 48
  refine HG.out.mono ?_
  rintro e w1 ⟨rfl, b1⟩
  have HF := Lib.hid (show P (.returned (.int .i64 0)) w1 by rw [← HP.out, HRR.out]; exact ⟨rfl, HD.out.trans b1⟩)
  clear b1 HP HRR
  go_wp2_with fail
  exact HF.out
set_option maxHeartbeats 8000000 in
theorem level_d1 {w : World} {pb : Nat} {ts : List Tk} {s : DS} (h : DsM w pb ts s) :
  Calls Tryz.prog 176 #[.pointer (some ⟨pb, 0, none⟩), .int .i64 1] w fun e w' => e = .returned (.int .i64 ((dLevel ts 1 s).1 : Int)) ∧ Dp w w' pb ts (dLevel ts 1 s).2 := by
 obtain ⟨R, hR⟩ : ∃ R, dLevel ts 1 s = R := ⟨_, rfl⟩
 rw [hR]
 generalize hP : (fun (e : Ending) (w' : World) => e = .returned (.int .i64 (R.1 : Int)) ∧ Dp w w' pb ts R.2) = P
 have HP := Lib.hid hP
 have HR := Lib.hid (show (if dIs ts 1 wAnd s = true then (17, s.next) else (0, s)) = R from hR)
 have hna := Bx.new w lvW 194
 have ba : Below w.heap.size w (w.alloc (.cells lvW 194)) := (Below.refl _ _).alloc (Nat.le_refl _) _
 obtain ⟨wa, hwa⟩ : ∃ wa, w.alloc (.cells lvW 194) = wa := ⟨_, rfl⟩
 rw [hwa] at ba hna
 have hnb := Bx.new wa lvO 195
 have bb : Below wa.heap.size wa (wa.alloc (.cells lvO 195)) := (Below.refl _ _).alloc (Nat.le_refl _) _
 obtain ⟨wb, hwb⟩ : ∃ wb, wa.alloc (.cells lvO 195) = wb := ⟨_, rfl⟩
 rw [hwb] at bb hnb
 have bw := ba.trans (bb.mono ba.size)
 have HD := Lib.hid ((Dp.refl h).below bw)
 have HG := Lib.hid (got_d HD.out.ds 1 wAnd (by decide))
 have ha := hna.below bb
 have kw : wb.cell? ⟨w.heap.size, 1, none⟩ = some (.string (strB wAnd)) := ha.cell rfl
 obtain ⟨T, hT⟩ : ∃ T, strB wAnd = T := ⟨_, rfl⟩
 rw [hT] at kw HG
 have HB := Lib.hid hnb
 have hpa : pb < wa.heap.size := Nat.lt_of_lt_of_le h.lt ba.size
 have e1 : ((1 : Nat) : Int) = 1 := rfl
 rw [e1] at HG
 clear hP hR h hna hnb ba bb bw ha hT e1
 go_enter Tryz.func176, Tryz.ntmps176
 go_upto_region 1 with fail
 refine wp_region_lit ?_
 refine arr_one 194 lvW zs6 11 5 _ rfl rfl rfl (by kernel_rfl) rfl rfl (by kernel_rfl) rfl rfl rfl rfl rfl (by kernel_rfl) (by kernel_rfl) (by kernel_rfl) ?_
 rw [hwa]
 refine wpList_nil ?_
 simp only [Act.put, List.setIfInBounds_toArray, List.set_cons_zero, List.set_cons_succ]
 go_upto_region 2 with fail
 refine wp_region_lit ?_
 refine arr_one 195 lvO zi6 12 6 _ rfl rfl rfl (by kernel_rfl) rfl rfl (by kernel_rfl) rfl rfl rfl rfl rfl (by kernel_rfl) (by kernel_rfl) (by kernel_rfl) ?_
 rw [hwb]
 refine wpList_nil ?_
 simp only [Act.put, List.setIfInBounds_toArray, List.set_cons_zero, List.set_cons_succ]
 by_cases c : dIs ts 1 wAnd s = true
 ·have hg : dGot ts 1 wAnd s = (true, s.next) := by unfold dGot; rw [if_pos c]
  have hRR : R = (17, s.next) := by rw [← HR.out, if_pos c]
  rw [hg] at HG
  have HRR := Lib.hid hRR
  clear hRR c HR hg
  go_wp2_with fail
  try go_at_call 48
  refine HG.out.mono ?_
  rintro e w1 ⟨rfl, b1⟩
  have kv : w1.cell? ⟨wa.heap.size, 1, none⟩ = some (.int .i64 17) := (Bx.frm HB.out b1.fr (fun e => by have : wa.heap.size = pb := e; omega)).cell rfl
  have HF := Lib.hid (show P (.returned (.int .i64 17)) w1 by rw [← HP.out, HRR.out]; exact ⟨rfl, HD.out.trans b1⟩)
  clear b1 HP HRR
  go_wp2_with fail
  exact HF.out
 ·have hg : dGot ts 1 wAnd s = (false, s) := by unfold dGot; rw [if_neg c]
  have hRR : R = (0, s) := by rw [← HR.out, if_neg c]
  rw [hg] at HG
  have HRR := Lib.hid hRR
  clear hRR c HR hg
  go_wp2_with fail
  try go_at_call 48
  refine HG.out.mono ?_
  rintro e w1 ⟨rfl, b1⟩
  have HF := Lib.hid (show P (.returned (.int .i64 0)) w1 by rw [← HP.out, HRR.out]; exact ⟨rfl, HD.out.trans b1⟩)
  clear b1 HP HRR
  go_wp2_with fail
  exact HF.out
set_option maxHeartbeats 8000000 in
theorem level_d4 {w : World} {pb : Nat} {ts : List Tk} {s : DS} (h : DsM w pb ts s) :
  Calls Tryz.prog 176 #[.pointer (some ⟨pb, 0, none⟩), .int .i64 4] w fun e w' => e = .returned (.int .i64 ((dLevel ts 4 s).1 : Int)) ∧ Dp w w' pb ts (dLevel ts 4 s).2 := by
 obtain ⟨R, hR⟩ : ∃ R, dLevel ts 4 s = R := ⟨_, rfl⟩
 rw [hR]
 generalize hP : (fun (e : Ending) (w' : World) => e = .returned (.int .i64 (R.1 : Int)) ∧ Dp w w' pb ts R.2) = P
 have HP := Lib.hid hP
 have HR := Lib.hid (show (if dIs ts 5 [43] s = true then (7, s.next) else if dIs ts 5 [45] s = true then (8, s.next) else if dIs ts 5 [124, 124] s = true then (12, s.next) else (0, s)) = R from hR)
 have hna := Bx.new w lvW 194
 have ba : Below w.heap.size w (w.alloc (.cells lvW 194)) := (Below.refl _ _).alloc (Nat.le_refl _) _
 obtain ⟨wa, hwa⟩ : ∃ wa, w.alloc (.cells lvW 194) = wa := ⟨_, rfl⟩
 rw [hwa] at ba hna
 have hnb := Bx.new wa lvO 195
 have bb : Below wa.heap.size wa (wa.alloc (.cells lvO 195)) := (Below.refl _ _).alloc (Nat.le_refl _) _
 obtain ⟨wb, hwb⟩ : ∃ wb, wa.alloc (.cells lvO 195) = wb := ⟨_, rfl⟩
 rw [hwb] at bb hnb
 have hnc := Bx.new wb sgW 194
 have bc : Below wb.heap.size wb (wb.alloc (.cells sgW 194)) := (Below.refl _ _).alloc (Nat.le_refl _) _
 obtain ⟨wc, hwc⟩ : ∃ wc, wb.alloc (.cells sgW 194) = wc := ⟨_, rfl⟩
 rw [hwc] at bc hnc
 have hnd := Bx.new wc sgO 195
 have bd : Below wc.heap.size wc (wc.alloc (.cells sgO 195)) := (Below.refl _ _).alloc (Nat.le_refl _) _
 obtain ⟨wd, hwd⟩ : ∃ wd, wc.alloc (.cells sgO 195) = wd := ⟨_, rfl⟩
 rw [hwd] at bd hnd
 have bac := ba.trans (bb.mono ba.size)
 have bad := bac.trans (bc.mono bac.size)
 have bw := bad.trans (bd.mono bad.size)
 have HD := Lib.hid ((Dp.refl h).below bw)
 have HB := Lib.hid (And.intro (hnc.below bd) hnd)
 have hpa : pb < wb.heap.size ∧ pb < wc.heap.size := ⟨Nat.lt_of_lt_of_le h.lt bac.size, Nat.lt_of_lt_of_le h.lt bad.size⟩
 have HPA := Lib.hid hpa
 clear hP hR h hna hnb hnc hnd ba bb bc bd bac bad bw hpa
 go_enter Tryz.func176, Tryz.ntmps176
 go_upto_region 1 with fail
 refine wp_region_lit ?_
 refine arr_one 194 lvW zs6 11 5 _ rfl rfl rfl (by kernel_rfl) rfl rfl (by kernel_rfl) rfl rfl rfl rfl rfl (by kernel_rfl) (by kernel_rfl) (by kernel_rfl) ?_
 rw [hwa]
 refine wpList_nil ?_
 simp only [Act.put, List.setIfInBounds_toArray, List.set_cons_zero, List.set_cons_succ]
 go_upto_region 2 with fail
 refine wp_region_lit ?_
 refine arr_one 195 lvO zi6 12 6 _ rfl rfl rfl (by kernel_rfl) rfl rfl (by kernel_rfl) rfl rfl rfl rfl rfl (by kernel_rfl) (by kernel_rfl) (by kernel_rfl) ?_
 rw [hwb]
 refine wpList_nil ?_
 simp only [Act.put, List.setIfInBounds_toArray, List.set_cons_zero, List.set_cons_succ]
 go_upto_region 7 with fail
 refine wp_region_lit ?_
 refine arr_one 194 sgW zs6 23 7 _ rfl rfl rfl (by kernel_rfl) rfl rfl (by kernel_rfl) rfl rfl rfl rfl rfl (by kernel_rfl) (by kernel_rfl) (by kernel_rfl) ?_
 rw [hwc]
 refine wpList_nil ?_
 simp only [Act.put, List.setIfInBounds_toArray, List.set_cons_zero, List.set_cons_succ]
 go_upto_region 8 with fail
 refine wp_region_lit ?_
 refine arr_one 195 sgO zi6 24 8 _ rfl rfl rfl (by kernel_rfl) rfl rfl (by kernel_rfl) rfl rfl rfl rfl rfl (by kernel_rfl) (by kernel_rfl) (by kernel_rfl) ?_
 rw [hwd]
 refine wpList_nil ?_
 simp only [Act.put, List.setIfInBounds_toArray, List.set_cons_zero, List.set_cons_succ]
 go_wp2_with fail
 go_loopw [9] (fun i wr => ∃ (j : Nat), j ≤ 3 ∧ i = .int .i64 (j : Int) ∧ Hid (Dp wd wr pb ts s ∧ (0 < j → dIs ts 5 [43] s = false) ∧ (1 < j → dIs ts 5 [45] s = false) ∧ (2 < j → dIs ts 5 [124, 124] s = false))) (fun i _ => 3 - (intOf i).toNat)
 case atStart => exact ⟨0, by omega, rfl, Lib.hid ⟨Dp.refl HD.out.ds, (fun h => absurd h (by omega)), (fun h => absurd h (by omega)), (fun h => absurd h (by omega))⟩⟩
 case round =>
  obtain ⟨j, hj, rfl, HJ⟩ := hrel
  have hj4 : j = 0 ∨ j = 1 ∨ j = 2 ∨ j = 3 := by omega
  have hW := HJ.out.1
  have kW := Bx.frm HB.out.1 hW.fr (fun e => by have h1 : wb.heap.size = pb := e; have := HPA.out.1; omega)
  have HW := Lib.hid (HD.out.trans hW)
  have HDS := Lib.hid hW.ds
  clear hj
  rcases hj4 with rfl | rfl | rfl | rfl
  ·have hG := got_d HDS.out 5 [43] (by decide)
   have kv : wr.cell? ⟨wb.heap.size, 0, none⟩ = some (.string (strB [43])) := kW.cell rfl
   obtain ⟨T, hT⟩ : ∃ T, strB [43] = T := ⟨_, rfl⟩
   have e1 : ((5 : Nat) : Int) = 5 := rfl
   rw [hT, e1] at hG
   rw [hT] at kv
   have HG := Lib.hid hG
   clear hT hG kW hW e1
   by_cases c : dIs ts 5 [43] s = true
   ·have hg : dGot ts 5 [43] s = (true, s.next) := by unfold dGot; rw [if_pos c]
    have hRR : R = (7, s.next) := by rw [← HR.out, if_pos c]
    rw [hg] at HG
    have HRR := Lib.hid hRR
    clear hRR c HR hg
    go_wp2_with fail
    try go_at_call 48
    refine HG.out.mono ?_
    rintro e w1 ⟨rfl, b1⟩
    have kv2 : w1.cell? ⟨wc.heap.size, 0, none⟩ = some (.int .i64 7) := (Bx.frm (Bx.frm HB.out.2 HJ.out.1.fr (fun e => by have h1 : wc.heap.size = pb := e; have := HPA.out.2; omega)) b1.fr (fun e => by have h1 : wc.heap.size = pb := e; have := HPA.out.2; omega)).cell rfl
    have HF := Lib.hid (show P (.returned (.int .i64 7)) w1 by rw [← HP.out, HRR.out]; exact ⟨rfl, HW.out.trans b1⟩)
    clear b1 HP HRR
    go_wp2_with fail
    exact HF.out
   ·have hg : dGot ts 5 [43] s = (false, s) := by unfold dGot; rw [if_neg c]
    rw [hg] at HG
    have HCF := Lib.hid (show dIs ts 5 [43] s = false by simpa using c)
    clear c hg
    go_wp2_with fail
    try go_at_call 48
    refine HG.out.mono ?_
    rintro e w1 ⟨rfl, b1⟩
    have HB1 := Lib.hid (HJ.out.1.trans b1)
    clear b1
    go_wp2_with fail
    refine ⟨⟨1, by omega, rfl, Lib.hid ⟨HB1.out, (fun _ => HCF.out), (fun h => absurd h (by omega)), (fun h => absurd h (by omega))⟩⟩, by simp [intOf]⟩
  ·have hG := got_d HDS.out 5 [45] (by decide)
   have kv : wr.cell? ⟨wb.heap.size, 1, none⟩ = some (.string (strB [45])) := kW.cell rfl
   obtain ⟨T, hT⟩ : ∃ T, strB [45] = T := ⟨_, rfl⟩
   have e1 : ((5 : Nat) : Int) = 5 := rfl
   rw [hT, e1] at hG
   rw [hT] at kv
   have HG := Lib.hid hG
   clear hT hG kW hW e1
   by_cases c : dIs ts 5 [45] s = true
   ·have hg : dGot ts 5 [45] s = (true, s.next) := by unfold dGot; rw [if_pos c]
    have hRR : R = (8, s.next) := by rw [← HR.out, if_neg (by rw [HJ.out.2.1 (by omega)]; decide), if_pos c]
    rw [hg] at HG
    have HRR := Lib.hid hRR
    clear hRR c HR hg
    go_wp2_with fail
    try go_at_call 48
    refine HG.out.mono ?_
    rintro e w1 ⟨rfl, b1⟩
    have kv2 : w1.cell? ⟨wc.heap.size, 1, none⟩ = some (.int .i64 8) := (Bx.frm (Bx.frm HB.out.2 HJ.out.1.fr (fun e => by have h1 : wc.heap.size = pb := e; have := HPA.out.2; omega)) b1.fr (fun e => by have h1 : wc.heap.size = pb := e; have := HPA.out.2; omega)).cell rfl
    have HF := Lib.hid (show P (.returned (.int .i64 8)) w1 by rw [← HP.out, HRR.out]; exact ⟨rfl, HW.out.trans b1⟩)
    clear b1 HP HRR
    go_wp2_with fail
    exact HF.out
   ·have hg : dGot ts 5 [45] s = (false, s) := by unfold dGot; rw [if_neg c]
    rw [hg] at HG
    have HCF := Lib.hid (show dIs ts 5 [45] s = false by simpa using c)
    clear c hg
    go_wp2_with fail
    try go_at_call 48
    refine HG.out.mono ?_
    rintro e w1 ⟨rfl, b1⟩
    have HB1 := Lib.hid (HJ.out.1.trans b1)
    clear b1
    go_wp2_with fail
    refine ⟨⟨2, by omega, rfl, Lib.hid ⟨HB1.out, (fun _ => HJ.out.2.1 (by omega)), (fun _ => HCF.out), (fun h => absurd h (by omega))⟩⟩, by simp [intOf]⟩
  ·have hG := got_d HDS.out 5 [124, 124] (by decide)
   have kv : wr.cell? ⟨wb.heap.size, 2, none⟩ = some (.string (strB [124, 124])) := kW.cell rfl
   obtain ⟨T, hT⟩ : ∃ T, strB [124, 124] = T := ⟨_, rfl⟩
   have e1 : ((5 : Nat) : Int) = 5 := rfl
   rw [hT, e1] at hG
   rw [hT] at kv
   have HG := Lib.hid hG
   clear hT hG kW hW e1
   by_cases c : dIs ts 5 [124, 124] s = true
   ·have hg : dGot ts 5 [124, 124] s = (true, s.next) := by unfold dGot; rw [if_pos c]
    have hRR : R = (12, s.next) := by rw [← HR.out, if_neg (by rw [HJ.out.2.1 (by omega)]; decide), if_neg (by rw [HJ.out.2.2.1 (by omega)]; decide), if_pos c]
    rw [hg] at HG
    have HRR := Lib.hid hRR
    clear hRR c HR hg
    go_wp2_with fail
    try go_at_call 48
    refine HG.out.mono ?_
    rintro e w1 ⟨rfl, b1⟩
    have kv2 : w1.cell? ⟨wc.heap.size, 2, none⟩ = some (.int .i64 12) := (Bx.frm (Bx.frm HB.out.2 HJ.out.1.fr (fun e => by have h1 : wc.heap.size = pb := e; have := HPA.out.2; omega)) b1.fr (fun e => by have h1 : wc.heap.size = pb := e; have := HPA.out.2; omega)).cell rfl
    have HF := Lib.hid (show P (.returned (.int .i64 12)) w1 by rw [← HP.out, HRR.out]; exact ⟨rfl, HW.out.trans b1⟩)
    clear b1 HP HRR
    go_wp2_with fail
    exact HF.out
   ·have hg : dGot ts 5 [124, 124] s = (false, s) := by unfold dGot; rw [if_neg c]
    rw [hg] at HG
    have HCF := Lib.hid (show dIs ts 5 [124, 124] s = false by simpa using c)
    clear c hg
    go_wp2_with fail
    try go_at_call 48
    refine HG.out.mono ?_
    rintro e w1 ⟨rfl, b1⟩
    have HB1 := Lib.hid (HJ.out.1.trans b1)
    clear b1
    go_wp2_with fail
    refine ⟨⟨3, by omega, rfl, Lib.hid ⟨HB1.out, (fun _ => HJ.out.2.1 (by omega)), (fun _ => HJ.out.2.2.1 (by omega)), (fun _ => HCF.out)⟩⟩, by simp [intOf]⟩
  ·have hRR : R = (0, s) := by rw [← HR.out, if_neg (by rw [HJ.out.2.1 (by omega)]; decide), if_neg (by rw [HJ.out.2.2.1 (by omega)]; decide), if_neg (by rw [HJ.out.2.2.2 (by omega)]; decide)]
   have HF := Lib.hid (show P (.returned (.int .i64 0)) wr by rw [← HP.out, hRR]; exact ⟨rfl, HW.out⟩)
   clear hRR HP HR kW hW
   go_wp2_with fail
   exact HF.out
set_option maxHeartbeats 8000000 in
theorem level_d5 {w : World} {pb : Nat} {ts : List Tk} {s : DS} (h : DsM w pb ts s) :
  Calls Tryz.prog 176 #[.pointer (some ⟨pb, 0, none⟩), .int .i64 5] w fun e w' => e = .returned (.int .i64 ((dLevel ts 5 s).1 : Int)) ∧ Dp w w' pb ts (dLevel ts 5 s).2 := by
 obtain ⟨R, hR⟩ : ∃ R, dLevel ts 5 s = R := ⟨_, rfl⟩
 rw [hR]
 generalize hP : (fun (e : Ending) (w' : World) => e = .returned (.int .i64 (R.1 : Int)) ∧ Dp w w' pb ts R.2) = P
 have HP := Lib.hid hP
 have HR := Lib.hid (show (if dIs ts 5 [42] s = true then (9, s.next) else if dIs ts 5 [47] s = true then (10, s.next) else if dIs ts 5 [37] s = true then (11, s.next) else (0, s)) = R from hR)
 have hna := Bx.new w lvW 194
 have ba : Below w.heap.size w (w.alloc (.cells lvW 194)) := (Below.refl _ _).alloc (Nat.le_refl _) _
 obtain ⟨wa, hwa⟩ : ∃ wa, w.alloc (.cells lvW 194) = wa := ⟨_, rfl⟩
 rw [hwa] at ba hna
 have hnb := Bx.new wa lvO 195
 have bb : Below wa.heap.size wa (wa.alloc (.cells lvO 195)) := (Below.refl _ _).alloc (Nat.le_refl _) _
 obtain ⟨wb, hwb⟩ : ∃ wb, wa.alloc (.cells lvO 195) = wb := ⟨_, rfl⟩
 rw [hwb] at bb hnb
 have hnc := Bx.new wb sgW 194
 have bc : Below wb.heap.size wb (wb.alloc (.cells sgW 194)) := (Below.refl _ _).alloc (Nat.le_refl _) _
 obtain ⟨wc, hwc⟩ : ∃ wc, wb.alloc (.cells sgW 194) = wc := ⟨_, rfl⟩
 rw [hwc] at bc hnc
 have hnd := Bx.new wc sgO 195
 have bd : Below wc.heap.size wc (wc.alloc (.cells sgO 195)) := (Below.refl _ _).alloc (Nat.le_refl _) _
 obtain ⟨wd, hwd⟩ : ∃ wd, wc.alloc (.cells sgO 195) = wd := ⟨_, rfl⟩
 rw [hwd] at bd hnd
 have bac := ba.trans (bb.mono ba.size)
 have bad := bac.trans (bc.mono bac.size)
 have bw := bad.trans (bd.mono bad.size)
 have HD := Lib.hid ((Dp.refl h).below bw)
 have HB := Lib.hid (And.intro (hnc.below bd) hnd)
 have hpa : pb < wb.heap.size ∧ pb < wc.heap.size := ⟨Nat.lt_of_lt_of_le h.lt bac.size, Nat.lt_of_lt_of_le h.lt bad.size⟩
 have HPA := Lib.hid hpa
 clear hP hR h hna hnb hnc hnd ba bb bc bd bac bad bw hpa
 go_enter Tryz.func176, Tryz.ntmps176
 go_upto_region 1 with fail
 refine wp_region_lit ?_
 refine arr_one 194 lvW zs6 11 5 _ rfl rfl rfl (by kernel_rfl) rfl rfl (by kernel_rfl) rfl rfl rfl rfl rfl (by kernel_rfl) (by kernel_rfl) (by kernel_rfl) ?_
 rw [hwa]
 refine wpList_nil ?_
 simp only [Act.put, List.setIfInBounds_toArray, List.set_cons_zero, List.set_cons_succ]
 go_upto_region 2 with fail
 refine wp_region_lit ?_
 refine arr_one 195 lvO zi6 12 6 _ rfl rfl rfl (by kernel_rfl) rfl rfl (by kernel_rfl) rfl rfl rfl rfl rfl (by kernel_rfl) (by kernel_rfl) (by kernel_rfl) ?_
 rw [hwb]
 refine wpList_nil ?_
 simp only [Act.put, List.setIfInBounds_toArray, List.set_cons_zero, List.set_cons_succ]
 go_upto_region 7 with fail
 refine wp_region_lit ?_
 refine arr_one 194 sgW zs6 23 7 _ rfl rfl rfl (by kernel_rfl) rfl rfl (by kernel_rfl) rfl rfl rfl rfl rfl (by kernel_rfl) (by kernel_rfl) (by kernel_rfl) ?_
 rw [hwc]
 refine wpList_nil ?_
 simp only [Act.put, List.setIfInBounds_toArray, List.set_cons_zero, List.set_cons_succ]
 go_upto_region 8 with fail
 refine wp_region_lit ?_
 refine arr_one 195 sgO zi6 24 8 _ rfl rfl rfl (by kernel_rfl) rfl rfl (by kernel_rfl) rfl rfl rfl rfl rfl (by kernel_rfl) (by kernel_rfl) (by kernel_rfl) ?_
 rw [hwd]
 refine wpList_nil ?_
 simp only [Act.put, List.setIfInBounds_toArray, List.set_cons_zero, List.set_cons_succ]
 go_wp2_with fail
 go_loopw [9] (fun i wr => ∃ (j : Nat), j ≤ 3 ∧ i = .int .i64 (j : Int) ∧ Hid (Dp wd wr pb ts s ∧ (0 < j → dIs ts 5 [42] s = false) ∧ (1 < j → dIs ts 5 [47] s = false) ∧ (2 < j → dIs ts 5 [37] s = false))) (fun i _ => 3 - (intOf i).toNat)
 case atStart => exact ⟨0, by omega, rfl, Lib.hid ⟨Dp.refl HD.out.ds, (fun h => absurd h (by omega)), (fun h => absurd h (by omega)), (fun h => absurd h (by omega))⟩⟩
 case round =>
  obtain ⟨j, hj, rfl, HJ⟩ := hrel
  have hj4 : j = 0 ∨ j = 1 ∨ j = 2 ∨ j = 3 := by omega
  have hW := HJ.out.1
  have kW := Bx.frm HB.out.1 hW.fr (fun e => by have h1 : wb.heap.size = pb := e; have := HPA.out.1; omega)
  have HW := Lib.hid (HD.out.trans hW)
  have HDS := Lib.hid hW.ds
  clear hj
  rcases hj4 with rfl | rfl | rfl | rfl
  ·have hG := got_d HDS.out 5 [42] (by decide)
   have kv : wr.cell? ⟨wb.heap.size, 3, none⟩ = some (.string (strB [42])) := kW.cell rfl
   obtain ⟨T, hT⟩ : ∃ T, strB [42] = T := ⟨_, rfl⟩
   have e1 : ((5 : Nat) : Int) = 5 := rfl
   rw [hT, e1] at hG
   rw [hT] at kv
   have HG := Lib.hid hG
   clear hT hG kW hW e1
   by_cases c : dIs ts 5 [42] s = true
   ·have hg : dGot ts 5 [42] s = (true, s.next) := by unfold dGot; rw [if_pos c]
    have hRR : R = (9, s.next) := by rw [← HR.out, if_pos c]
    rw [hg] at HG
    have HRR := Lib.hid hRR
    clear hRR c HR hg
    go_wp2_with fail
    try go_at_call 48
    refine HG.out.mono ?_
    rintro e w1 ⟨rfl, b1⟩
    have kv2 : w1.cell? ⟨wc.heap.size, 3, none⟩ = some (.int .i64 9) := (Bx.frm (Bx.frm HB.out.2 HJ.out.1.fr (fun e => by have h1 : wc.heap.size = pb := e; have := HPA.out.2; omega)) b1.fr (fun e => by have h1 : wc.heap.size = pb := e; have := HPA.out.2; omega)).cell rfl
    have HF := Lib.hid (show P (.returned (.int .i64 9)) w1 by rw [← HP.out, HRR.out]; exact ⟨rfl, HW.out.trans b1⟩)
    clear b1 HP HRR
    go_wp2_with fail
    exact HF.out
   ·have hg : dGot ts 5 [42] s = (false, s) := by unfold dGot; rw [if_neg c]
    rw [hg] at HG
    have HCF := Lib.hid (show dIs ts 5 [42] s = false by simpa using c)
    clear c hg
    go_wp2_with fail
    try go_at_call 48
    refine HG.out.mono ?_
    rintro e w1 ⟨rfl, b1⟩
    have HB1 := Lib.hid (HJ.out.1.trans b1)
    clear b1
    go_wp2_with fail
    refine ⟨⟨1, by omega, rfl, Lib.hid ⟨HB1.out, (fun _ => HCF.out), (fun h => absurd h (by omega)), (fun h => absurd h (by omega))⟩⟩, by simp [intOf]⟩
  ·have hG := got_d HDS.out 5 [47] (by decide)
   have kv : wr.cell? ⟨wb.heap.size, 4, none⟩ = some (.string (strB [47])) := kW.cell rfl
   obtain ⟨T, hT⟩ : ∃ T, strB [47] = T := ⟨_, rfl⟩
   have e1 : ((5 : Nat) : Int) = 5 := rfl
   rw [hT, e1] at hG
   rw [hT] at kv
   have HG := Lib.hid hG
   clear hT hG kW hW e1
   by_cases c : dIs ts 5 [47] s = true
   ·have hg : dGot ts 5 [47] s = (true, s.next) := by unfold dGot; rw [if_pos c]
    have hRR : R = (10, s.next) := by rw [← HR.out, if_neg (by rw [HJ.out.2.1 (by omega)]; decide), if_pos c]
    rw [hg] at HG
    have HRR := Lib.hid hRR
    clear hRR c HR hg
    go_wp2_with fail
    try go_at_call 48
    refine HG.out.mono ?_
    rintro e w1 ⟨rfl, b1⟩
    have kv2 : w1.cell? ⟨wc.heap.size, 4, none⟩ = some (.int .i64 10) := (Bx.frm (Bx.frm HB.out.2 HJ.out.1.fr (fun e => by have h1 : wc.heap.size = pb := e; have := HPA.out.2; omega)) b1.fr (fun e => by have h1 : wc.heap.size = pb := e; have := HPA.out.2; omega)).cell rfl
    have HF := Lib.hid (show P (.returned (.int .i64 10)) w1 by rw [← HP.out, HRR.out]; exact ⟨rfl, HW.out.trans b1⟩)
    clear b1 HP HRR
    go_wp2_with fail
    exact HF.out
   ·have hg : dGot ts 5 [47] s = (false, s) := by unfold dGot; rw [if_neg c]
    rw [hg] at HG
    have HCF := Lib.hid (show dIs ts 5 [47] s = false by simpa using c)
    clear c hg
    go_wp2_with fail
    try go_at_call 48
    refine HG.out.mono ?_
    rintro e w1 ⟨rfl, b1⟩
    have HB1 := Lib.hid (HJ.out.1.trans b1)
    clear b1
    go_wp2_with fail
    refine ⟨⟨2, by omega, rfl, Lib.hid ⟨HB1.out, (fun _ => HJ.out.2.1 (by omega)), (fun _ => HCF.out), (fun h => absurd h (by omega))⟩⟩, by simp [intOf]⟩
  ·have hG := got_d HDS.out 5 [37] (by decide)
   have kv : wr.cell? ⟨wb.heap.size, 5, none⟩ = some (.string (strB [37])) := kW.cell rfl
   obtain ⟨T, hT⟩ : ∃ T, strB [37] = T := ⟨_, rfl⟩
   have e1 : ((5 : Nat) : Int) = 5 := rfl
   rw [hT, e1] at hG
   rw [hT] at kv
   have HG := Lib.hid hG
   clear hT hG kW hW e1
   by_cases c : dIs ts 5 [37] s = true
   ·have hg : dGot ts 5 [37] s = (true, s.next) := by unfold dGot; rw [if_pos c]
    have hRR : R = (11, s.next) := by rw [← HR.out, if_neg (by rw [HJ.out.2.1 (by omega)]; decide), if_neg (by rw [HJ.out.2.2.1 (by omega)]; decide), if_pos c]
    rw [hg] at HG
    have HRR := Lib.hid hRR
    clear hRR c HR hg
    go_wp2_with fail
    try go_at_call 48
    refine HG.out.mono ?_
    rintro e w1 ⟨rfl, b1⟩
    have kv2 : w1.cell? ⟨wc.heap.size, 5, none⟩ = some (.int .i64 11) := (Bx.frm (Bx.frm HB.out.2 HJ.out.1.fr (fun e => by have h1 : wc.heap.size = pb := e; have := HPA.out.2; omega)) b1.fr (fun e => by have h1 : wc.heap.size = pb := e; have := HPA.out.2; omega)).cell rfl
    have HF := Lib.hid (show P (.returned (.int .i64 11)) w1 by rw [← HP.out, HRR.out]; exact ⟨rfl, HW.out.trans b1⟩)
    clear b1 HP HRR
    go_wp2_with fail
    exact HF.out
   ·have hg : dGot ts 5 [37] s = (false, s) := by unfold dGot; rw [if_neg c]
    rw [hg] at HG
    have HCF := Lib.hid (show dIs ts 5 [37] s = false by simpa using c)
    clear c hg
    go_wp2_with fail
    try go_at_call 48
    refine HG.out.mono ?_
    rintro e w1 ⟨rfl, b1⟩
    have HB1 := Lib.hid (HJ.out.1.trans b1)
    clear b1
    go_wp2_with fail
    refine ⟨⟨3, by omega, rfl, Lib.hid ⟨HB1.out, (fun _ => HJ.out.2.1 (by omega)), (fun _ => HJ.out.2.2.1 (by omega)), (fun _ => HCF.out)⟩⟩, by simp [intOf]⟩
  ·have hRR : R = (0, s) := by rw [← HR.out, if_neg (by rw [HJ.out.2.1 (by omega)]; decide), if_neg (by rw [HJ.out.2.2.1 (by omega)]; decide), if_neg (by rw [HJ.out.2.2.2 (by omega)]; decide)]
   have HF := Lib.hid (show P (.returned (.int .i64 0)) wr by rw [← HP.out, hRR]; exact ⟨rfl, HW.out⟩)
   clear hRR HP HR kW hW
   go_wp2_with fail
   exact HF.out
end Go.Proofs.YtofnkfjhmjecjaaGreatDoor

namespace Go.Proofs.YtofnkfjhmjecjaaGreatDoor
set_option maxRecDepth 100000
open Go.RowKit Go.Joins Go.ChangeShapes Go.WideShapes Go.Great
set_option linter.unusedVariables false
set_option linter.unusedSimpArgs false
def cmpN : Nat → List Nat
 | 0 => [61]
 | 1 => [60, 62]
 | 2 => [60]
 | 3 => [60, 61]
 | 4 => [62]
 | _ => [62, 61]
def cmpW : Array Value := s6 [[61], [60, 62], [60], [60, 61], [62], [62, 61]]
theorem cmpN_lt (j : Nat) (hj : j < 6) : ∀ x ∈ cmpN j, x < 256 := by
 have h : j = 0 ∨ j = 1 ∨ j = 2 ∨ j = 3 ∨ j = 4 ∨ j = 5 := by omega
 rcases h with rfl | rfl | rfl | rfl | rfl | rfl <;> decide
theorem cmpW_at {j : Nat} (hj : j < 6) : cmpW[j]? = some (.string (strB (cmpN j))) := by
 have h : j = 0 ∨ j = 1 ∨ j = 2 ∨ j = 3 ∨ j = 4 ∨ j = 5 := by omega
 rcases h with rfl | rfl | rfl | rfl | rfl | rfl <;> rfl
theorem cmpd_eq (ts : List Tk) (s : DS) : dWhich ts cmpD s = if dIs ts 5 (cmpN 0) s = true then (1, s.next) else if dIs ts 5 (cmpN 1) s = true then (2, s.next) else if dIs ts 5 (cmpN 2) s = true then (3, s.next) else if dIs ts 5 (cmpN 3) s = true then (4, s.next) else if dIs ts 5 (cmpN 4) s = true then (5, s.next) else if dIs ts 5 (cmpN 5) s = true then (6, s.next) else (0, s) := rfl
theorem cmpd_yes {ts : List Tk} {s : DS} {j : Nat} (hj : j < 6) (h : ∀ q, q < j → dIs ts 5 (cmpN q) s = false) (hy : dIs ts 5 (cmpN j) s = true) : dWhich ts cmpD s = (j + 1, s.next) := by
 rw [cmpd_eq]
 have h6 : j = 0 ∨ j = 1 ∨ j = 2 ∨ j = 3 ∨ j = 4 ∨ j = 5 := by omega
 rcases h6 with rfl | rfl | rfl | rfl | rfl | rfl
 ·rw [if_pos hy]
 ·rw [if_neg (by rw [h 0 (by omega)]; decide), if_pos hy]
 ·rw [if_neg (by rw [h 0 (by omega)]; decide), if_neg (by rw [h 1 (by omega)]; decide), if_pos hy]
 ·rw [if_neg (by rw [h 0 (by omega)]; decide), if_neg (by rw [h 1 (by omega)]; decide), if_neg (by rw [h 2 (by omega)]; decide), if_pos hy]
 ·rw [if_neg (by rw [h 0 (by omega)]; decide), if_neg (by rw [h 1 (by omega)]; decide), if_neg (by rw [h 2 (by omega)]; decide), if_neg (by rw [h 3 (by omega)]; decide), if_pos hy]
 ·rw [if_neg (by rw [h 0 (by omega)]; decide), if_neg (by rw [h 1 (by omega)]; decide), if_neg (by rw [h 2 (by omega)]; decide), if_neg (by rw [h 3 (by omega)]; decide), if_neg (by rw [h 4 (by omega)]; decide), if_pos hy]
theorem cmpd_no {ts : List Tk} {s : DS} (h : ∀ q, q < 6 → dIs ts 5 (cmpN q) s = false) : dWhich ts cmpD s = (0, s) := by
 rw [cmpd_eq]
 rw [if_neg (by rw [h 0 (by omega)]; decide), if_neg (by rw [h 1 (by omega)]; decide), if_neg (by rw [h 2 (by omega)]; decide), if_neg (by rw [h 3 (by omega)]; decide), if_neg (by rw [h 4 (by omega)]; decide), if_neg (by rw [h 5 (by omega)]; decide)]
def TsD (ts : List Tk) (n pb : Nat) : Prop := ∀ (w : World) (s : DS) (r : Ex × DS), DsM w pb ts s → s.opn ≤ 40 → dT ts n s = some r →
  Calls Tryz.prog 174 #[.pointer (some ⟨pb, 0, none⟩)] w (EndX w pb ts s r)
set_option maxHeartbeats 16000000 in
theorem test_d {ts : List Tk} {n pb : Nat} (hx : ExD ts n pb) : TsD ts (n + 1) pb := by
 intro w s r h ho hr
 rw [dT] at hr
 generalize hP : EndX w pb ts s r = P
 have HP := Lib.hid hP
 have HXX := Lib.hid hx
 have HPB := Lib.hid h.lt
 have HO := Lib.hid ho
 have hn1 := Bx.new w zx 30
 have b1 : Below w.heap.size w (w.alloc (.cells zx 30)) := (Below.refl _ _).alloc (Nat.le_refl _) _
 obtain ⟨w1, hw1⟩ : ∃ w1, w.alloc (.cells zx 30) = w1 := ⟨_, rfl⟩
 rw [hw1] at hn1 b1
 have HB0 := Lib.hid hn1
 have HD1 := Lib.hid ((Dp.refl h).below b1)
 have HSZ := Lib.hid (show w.heap.size < w1.heap.size from hn1.lt)
 unfold zx at hw1
 obtain ⟨ex, s1, hxx, hr⟩ := bindD_some hr
 dsimp only at hr
 have e4 : ((4 : Nat) : Int) = 4 := rfl
 have hx1 := hx w1 s 4 _ HD1.out.ds (.inl ho) (by omega) hxx
 rw [e4] at hx1
 have HX1 := Lib.hid hx1
 have HR := Lib.hid hr
 clear hP hn1 b1 hx ho h hr hx1 hxx
 go_enter Tryz.func174, Tryz.ntmps174
 go_wp2_with fail
 try go_at_call 126
 refine HX1.out.mono ?_
 rintro e2 w2 ⟨x, rfl, hxe, hxm, hd2, ho2, hi2⟩
 have HOI := Lib.hid (And.intro ho2 hi2)
 have HPW := Lib.hid hd2.ds.lt
 have h8 := xbox (w1 := w2) x
 unfold zx at h8
 obtain ⟨W8, hW8⟩ : ∃ W8, st7 (w2.alloc (.cells #[.int .i64 0, .slice none 0 0, .int .i64 0, .int .i64 0, .int .i64 0, .string ⟨#[]⟩, .string ⟨#[]⟩] 30)) w2.heap.size x = W8 := ⟨_, rfl⟩
 rw [hW8] at h8
 have HD8 := Lib.hid (hd2.below h8.1)
 have HB8 := Lib.hid h8.2
 have HXM := Lib.hid (XE.Mem.frm (Frm.of_below (F := fun _ => False) h8.1) (fun _ _ e => e) x hxm)
 have HXE := Lib.hid (show x.er = ex from hxe)
 have HSZ8 := Lib.hid (show w2.heap.size ≤ W8.heap.size from h8.1.size)
 clear hxe hxm hd2 ho2 hi2 h8
 obtain ⟨op1, kind1, num1, scale1, text1, qual1, a1, cap1, args1⟩ := x
 have hnc := Bx.new W8 cmpW 194
 have bc : Below W8.heap.size W8 (W8.alloc (.cells cmpW 194)) := (Below.refl _ _).alloc (Nat.le_refl _) _
 obtain ⟨W9, hW9⟩ : ∃ W9, W8.alloc (.cells cmpW 194) = W9 := ⟨_, rfl⟩
 rw [hW9] at hnc bc
 have HBC := Lib.hid hnc
 have HD9 := Lib.hid (HD8.out.below bc)
 have HB9 := Lib.hid (HB8.out.below bc)
 have HXM9 := Lib.hid (XE.Mem.frm (Frm.of_below (F := fun _ => False) bc) (fun _ _ e => e) _ HXM.out)
 have HPC := Lib.hid (show pb < W8.heap.size from HD8.out.ds.lt)
 clear hnc bc
 go_upto_region 2 with (first | (refine wpSx (x := (XE.mk op1 kind1 num1 scale1 text1 qual1 a1 cap1 args1)) rfl _ _ rfl (Bx.new w2 #[.int .i64 0, .slice none 0 0, .int .i64 0, .int .i64 0, .int .i64 0, .string ⟨#[]⟩, .string ⟨#[]⟩] 30) rfl rfl ?_; rw [hW8]))
 refine wp_region_lit ?_
 refine arr_one 194 cmpW zs6 10 4 _ rfl rfl rfl (by kernel_rfl) rfl rfl (by kernel_rfl) rfl rfl rfl rfl rfl (by kernel_rfl) (by kernel_rfl) (by kernel_rfl) ?_
 rw [hW9]
 refine wpList_nil ?_
 simp only [Act.put, List.setIfInBounds_toArray, List.set_cons_zero, List.set_cons_succ]
 go_wp2_with fail
 go_loopw [5] (fun i wr => ∃ (j : Nat), j ≤ 6 ∧ i = .int .i64 (j : Int) ∧ Hid (Dp W9 wr pb ts s1 ∧ (∀ q, q < j → dIs ts 5 (cmpN q) s1 = false))) (fun i _ => 6 - (intOf i).toNat)
 case atStart => exact ⟨0, by omega, rfl, Lib.hid ⟨Dp.refl HD9.out.ds, fun q h => absurd h (by omega)⟩⟩
 case round =>
  obtain ⟨j, hj, rfl, HJ⟩ := hrel
  have HW := Lib.hid (HD9.out.trans HJ.out.1)
  have HXW := Lib.hid (XE.Mem.frm HJ.out.1.fr (fun k hk e => by have h1 : w1.heap.size ≤ k := hk; have h2 : k = pb := e; have := HD1.out.ds.lt; omega) _ HXM9.out)
  have HBW := Lib.hid (HB9.out.frm HJ.out.1.fr (fun e => by have h1 : w2.heap.size = pb := e; have := HPW.out; omega))
  by_cases h6 : j < 6
  ·have hjl : (j : Int) < 6 := by omega
   have hj0 : (0 : Int) ≤ (j : Int) := by omega
   have w5 : IntKind.i64.wrap ((j : Int) + 1) = (j : Int) + 1 := by rw [IntKind.wrap_i64]; omega
   have hG := got_d HJ.out.1.ds 5 (cmpN j) (cmpN_lt j h6)
   have kv : wr.cell? ⟨W8.heap.size, j, none⟩ = some (.string (strB (cmpN j))) := (Bx.frm HBC.out HJ.out.1.fr (fun e => by have h1 : W8.heap.size = pb := e; have := HPC.out; omega)).cell (cmpW_at h6)
   obtain ⟨T, hT⟩ : ∃ T, strB (cmpN j) = T := ⟨_, rfl⟩
   have e5 : ((5 : Nat) : Int) = 5 := rfl
   rw [hT, e5] at hG
   rw [hT] at kv
   have HG := Lib.hid hG
   have H6 := Lib.hid h6
   clear hT hG e5 hj
   by_cases c : dIs ts 5 (cmpN j) s1 = true
   ·have hr := HR.out
    rw [cmpd_yes h6 HJ.out.2 c] at hr
    dsimp only at hr
    rw [if_pos (Nat.succ_ne_zero _)] at hr
    obtain ⟨ey, s3, hyy, hr⟩ := bindD_some hr
    have hr : some (mk2 (j + 1) ex ey, s3) = some r := hr
    injection hr with hr
    have HRR := Lib.hid hr
    rw [dGot_yes c] at HG
    have HYY := Lib.hid hyy
    clear c HR hr hyy
    go_wp2_with fail
    try go_at_call 48
    refine HG.out.mono ?_
    rintro e3 w3 ⟨rfl, b3⟩
    have HW3 := Lib.hid (HW.out.trans b3)
    have HXW3 := Lib.hid (XE.Mem.frm b3.fr (fun k hk e => by have h1 : w1.heap.size ≤ k := hk; have h2 : k = pb := e; have := HD1.out.ds.lt; omega) _ HXW.out)
    have HBW3 := Lib.hid (HBW.out.frm b3.fr (fun e => by have h1 : w2.heap.size = pb := e; have := HPW.out; omega))
    have hx2 := HXX.out w3 s1.next 4 _ b3.ds (.inl (by show s1.opn ≤ 40; rw [HOI.out.1]; exact HO.out)) (by omega) HYY.out
    rw [e4] at hx2
    have HX2 := Lib.hid hx2
    clear b3 hx2 kv HG
    go_wp2_with fail
    try go_at_call 126
    refine HX2.out.mono ?_
    rintro e4' w4 ⟨y, rfl, hye, hym, hd4, ho4, hi4⟩
    have HOI4 := Lib.hid (And.intro ho4 hi4)
    have HW4 := Lib.hid (HW3.out.trans hd4)
    have HXW4 := Lib.hid (XE.Mem.frm hd4.fr (fun k hk e => by have h1 : w1.heap.size ≤ k := hk; have h2 : k = pb := e; have := HD1.out.ds.lt; omega) _ HXW3.out)
    have HBW4 := Lib.hid (HBW3.out.frm hd4.fr (fun e => by have h1 : w2.heap.size = pb := e; have := HPW.out; omega))
    have h8 := xbox (w1 := w4) y
    unfold zx at h8
    obtain ⟨W10, hW10⟩ : ∃ W10, st7 (w4.alloc (.cells #[.int .i64 0, .slice none 0 0, .int .i64 0, .int .i64 0, .int .i64 0, .string ⟨#[]⟩, .string ⟨#[]⟩] 30)) w4.heap.size y = W10 := ⟨_, rfl⟩
    rw [hW10] at h8
    have hx10 := XE.Mem.frm (Frm.of_below (F := fun _ => False) h8.1) (fun _ _ e => e) _ HXW4.out
    have hy10 := XE.Mem.mono (K' := GE w1.heap.size) (fun k hk => by have h1 : w3.heap.size ≤ k := hk; have h2 := HW3.out.fr.size; show w1.heap.size ≤ k; omega) y (XE.Mem.frm (Frm.of_below (F := fun _ => False) h8.1) (fun _ _ e => e) y hym)
    have HB10 := Lib.hid h8.2
    have HBX10 := Lib.hid (HBW4.out.below h8.1)
    have hs10 : w1.heap.size ≤ W10.heap.size := Nat.le_trans HW4.out.fr.size h8.1.size
    have hn := node2 (K := GE w1.heap.size) ((j : Int) + 1) (XE.mk op1 kind1 num1 scale1 text1 qual1 a1 cap1 args1) y hs10 hx10 hy10
    obtain ⟨W11, hW11⟩ : ∃ W11, W10.alloc (.cells (xk.cells [(XE.mk op1 kind1 num1 scale1 text1 qual1 a1 cap1 args1), y]).toArray 30) = W11 := ⟨_, rfl⟩
    rw [hW11] at hn
    have b11 : Below W10.heap.size W10 W11 := by rw [← hW11]; exact (Below.refl _ _).alloc (Nat.le_refl _) _
    have b89 : Below w4.heap.size w4 W11 := h8.1.trans (b11.mono h8.1.size)
    have hd9 := (HD1.out.trans HW4.out).below b89
    have hrb : Bx W11 w.heap.size zx 30 := (HB0.out.frm HW4.out.fr (fun e => by have h1 : w.heap.size = pb := e; have := HPB.out; omega)).below b89
    have hfin := fin_X (s := s) (x := (XE.mk ((j : Int) + 1) 0 0 0 ⟨#[]⟩ ⟨#[]⟩ (some ⟨W10.heap.size, 0, none⟩) 2 [(XE.mk op1 kind1 num1 scale1 text1 qual1 a1 cap1 args1), y])) HPB.out (Nat.le_of_lt HSZ.out) hrb hd9 hn HSZ.out (by show s3.opn = s.opn; rw [HOI4.out.1]; exact HOI.out.1) (Nat.le_trans HOI.out.2 (Nat.le_trans (Nat.le_succ _) HOI4.out.2))
    have hex : XE.er (XE.mk ((j : Int) + 1) 0 0 0 ⟨#[]⟩ ⟨#[]⟩ (some ⟨W10.heap.size, 0, none⟩) 2 [(XE.mk op1 kind1 num1 scale1 text1 qual1 a1 cap1 args1), y]) = mk2 (j + 1) ex ey := by
     rw [← HXE.out, ← show y.er = ey from hye]
     have e1 : ((j : Int) + 1).toNat = j + 1 := by omega
     simp [XE.er, XE.erL, mk2, e1]
    rw [hex, HRR.out, HP.out] at hfin
    have HFI := Lib.hid hfin
    have HRB := Lib.hid hrb
    clear hrb hfin hye hym hd4 ho4 hi4 h8 hx10 hy10 hn b11 b89 hd9 hex hs10
    obtain ⟨op2, kind2, num2, scale2, text2, qual2, a2, cap2, args2⟩ := y
    have hcells : (xk.cells [(XE.mk op1 kind1 num1 scale1 text1 qual1 a1 cap1 args1), (XE.mk op2 kind2 num2 scale2 text2 qual2 a2 cap2 args2)]).toArray = #[.int .i64 op1, .slice a1 args1.length cap1, .int .i64 kind1, .int .i64 num1, .int .i64 scale1, .string text1, .string qual1, .int .i64 op2, .slice a2 args2.length cap2, .int .i64 kind2, .int .i64 num2, .int .i64 scale2, .string text2, .string qual2] := rfl
    rw [hcells] at hW11
    clear hcells
    go_wp2_with (first | (refine wpSx (x := (XE.mk op2 kind2 num2 scale2 text2 qual2 a2 cap2 args2)) rfl _ _ rfl (Bx.new w4 #[.int .i64 0, .slice none 0 0, .int .i64 0, .int .i64 0, .int .i64 0, .string ⟨#[]⟩, .string ⟨#[]⟩] 30) rfl rfl ?_; rw [hW10]) | (refine wpLx (x := (XE.mk op1 kind1 num1 scale1 text1 qual1 a1 cap1 args1)) rfl _ rfl HBX10.out rfl ?_; unfold XE.val) | (refine wpLx (x := (XE.mk op2 kind2 num2 scale2 text2 qual2 a2 cap2 args2)) rfl _ rfl HB10.out rfl ?_; unfold XE.val) | (refine wpSx (x := (XE.mk ((j : Int) + 1) 0 0 0 ⟨#[]⟩ ⟨#[]⟩ (some ⟨W10.heap.size, 0, none⟩) 2 [(XE.mk op1 kind1 num1 scale1 text1 qual1 a1 cap1 args1), (XE.mk op2 kind2 num2 scale2 text2 qual2 a2 cap2 args2)])) rfl _ _ rfl HRB.out rfl rfl ?_))
    exact ex_ret Tryz.results174 HFI.out.1 rfl rfl HFI.out.2
   ·rw [dGot_no (show dIs ts 5 (cmpN j) s1 = false by simpa using c)] at HG
    have HCF := Lib.hid (show dIs ts 5 (cmpN j) s1 = false by simpa using c)
    clear c
    go_wp2_with fail
    try go_at_call 48
    refine HG.out.mono ?_
    rintro e3 w3 ⟨rfl, b3⟩
    have HB3 := Lib.hid (HJ.out.1.trans b3)
    clear b3 kv
    go_wp2_with fail
    refine ⟨⟨j + 1, by omega, by simp, Lib.hid ⟨HB3.out, fun q hq => ?_⟩⟩, by simp [intOf]; omega⟩
    rcases Nat.lt_or_ge q j with h1 | h1
    ·exact HJ.out.2 q h1
    ·obtain rfl : q = j := by omega
     exact HCF.out
  ·obtain rfl : j = 6 := by omega
   have hr := HR.out
   rw [cmpd_no HJ.out.2] at hr
   dsimp only at hr
   rw [if_neg (fun h => h rfl)] at hr
   have HG := Lib.hid (got_d HJ.out.1.ds 1 wIs (by decide))
   clear HR hj h6
   by_cases c : dIs ts 1 wIs s1 = true
   case neg =>
    have c' : dIs ts 1 wIs s1 = false := by simpa using c
    rw [dGot_no c'] at HG hr
    dsimp only at hr
    rw [if_neg (by decide)] at hr
    injection hr with hr
    have HRR := Lib.hid hr
    clear c c' hr
    go_wp2_with fail
    try go_at_call 48
    refine HG.out.mono ?_
    rintro e3 w3 ⟨rfl, b3⟩
    have HW3 := Lib.hid (HW.out.trans b3)
    have HBW3 := Lib.hid (HBW.out.frm b3.fr (fun e => by have h1 : w2.heap.size = pb := e; have := HPW.out; omega))
    have hrb : Bx w3 w.heap.size zx 30 := HB0.out.frm HW3.out.fr (fun e => by have h1 : w.heap.size = pb := e; have := HPB.out; omega)
    have hfin := fin_X (s := s) (x := (XE.mk op1 kind1 num1 scale1 text1 qual1 a1 cap1 args1)) HPB.out (Nat.le_of_lt HSZ.out) hrb (HD1.out.trans HW3.out) (XE.Mem.frm b3.fr (fun k hk e => by have h1 : w1.heap.size ≤ k := hk; have h2 : k = pb := e; have := HD1.out.ds.lt; omega) _ HXW.out) HSZ.out HOI.out.1 HOI.out.2
    rw [HXE.out, HRR.out, HP.out] at hfin
    have HFI := Lib.hid hfin
    have HRB := Lib.hid hrb
    clear hrb hfin b3
    go_wp2_with (first | (refine wpLx (x := (XE.mk op1 kind1 num1 scale1 text1 qual1 a1 cap1 args1)) rfl _ rfl HBW3.out rfl ?_; unfold XE.val) | (refine wpSx (x := (XE.mk op1 kind1 num1 scale1 text1 qual1 a1 cap1 args1)) rfl _ _ rfl HRB.out rfl rfl ?_))
    exact ex_ret Tryz.results174 HFI.out.1 rfl rfl HFI.out.2
   rw [dGot_yes c] at HG hr
   dsimp only at hr
   rw [if_pos rfl] at hr
   injection hr with hr
   unfold dNull at hr
   by_cases c2 : dIs ts 1 wNot s1.next = true
   ·rw [dGot_yes c2] at hr
    dsimp only at hr
    rw [if_pos rfl] at hr
    obtain ⟨s5, hs5⟩ : ∃ s5, dMust ts 1 wNull s1.next.next = s5 := ⟨_, rfl⟩
    rw [hs5] at hr
    have hmo := dMust_opn ts 1 wNull s1.next.next
    rw [hs5] at hmo
    have HMO := Lib.hid hmo
    have HRR := Lib.hid hr
    have HS5 := Lib.hid hs5
    have HC2 := Lib.hid (dGot_yes c2)
    clear c c2 hr hmo hs5
    go_wp2_with fail
    try go_at_call 48
    refine HG.out.mono ?_
    rintro e3 w3 ⟨rfl, b3⟩
    have HW3 := Lib.hid (HW.out.trans b3)
    have HG2 := Lib.hid (got_d b3.ds 1 wNot (by decide))
    rw [HC2.out] at HG2
    have HL3 := Lib.hid b3
    clear b3
    go_wp2_with fail
    try go_at_call 48
    refine HG2.out.mono ?_
    rintro e5 w5 ⟨rfl, b5⟩
    have HL5 := Lib.hid (HL3.out.trans b5)
    have HM := Lib.hid (must_d b5.ds 1 wNull (by decide))
    rw [HS5.out] at HM
    clear b5
    go_wp2_with fail
    try go_at_call 51
    refine HM.out.mono ?_
    rintro e6 w6 ⟨rfl, b6⟩
    have HL6 := Lib.hid (HL5.out.trans b6)
    have HW6 := Lib.hid (HW.out.trans HL6.out)
    have HB6 := Lib.hid (HBW.out.frm HL6.out.fr (fun e => by have h1 : w2.heap.size = pb := e; have := HPW.out; omega))
    have hx6 := XE.Mem.frm HL6.out.fr (fun k hk e => by have h1 : w1.heap.size ≤ k := hk; have h2 : k = pb := e; have := HD1.out.ds.lt; omega) _ HXW.out
    have hn := node1 (K := GE w1.heap.size) 20 (XE.mk op1 kind1 num1 scale1 text1 qual1 a1 cap1 args1) HW6.out.fr.size hx6
    obtain ⟨W11, hW11⟩ : ∃ W11, w6.alloc (.cells (xk.cells [(XE.mk op1 kind1 num1 scale1 text1 qual1 a1 cap1 args1)]).toArray 30) = W11 := ⟨_, rfl⟩
    rw [hW11] at hn
    have b11 : Below w6.heap.size w6 W11 := by rw [← hW11]; exact (Below.refl _ _).alloc (Nat.le_refl _) _
    have hd9 := (HD1.out.trans HW6.out).below b11
    have hrb : Bx W11 w.heap.size zx 30 := (HB0.out.frm HW6.out.fr (fun e => by have h1 : w.heap.size = pb := e; have := HPB.out; omega)).below b11
    have hfin := fin_X (s := s) (x := (XE.mk 20 0 0 0 ⟨#[]⟩ ⟨#[]⟩ (some ⟨w6.heap.size, 0, none⟩) 1 [(XE.mk op1 kind1 num1 scale1 text1 qual1 a1 cap1 args1)])) HPB.out (Nat.le_of_lt HSZ.out) hrb hd9 hn HSZ.out (by rw [HMO.out.1]; exact HOI.out.1) (Nat.le_trans HOI.out.2 (Nat.le_trans (Nat.le_trans (Nat.le_succ _) (Nat.le_succ _)) HMO.out.2.1))
    have hex : XE.er (XE.mk 20 0 0 0 ⟨#[]⟩ ⟨#[]⟩ (some ⟨w6.heap.size, 0, none⟩) 1 [(XE.mk op1 kind1 num1 scale1 text1 qual1 a1 cap1 args1)]) = mk1 20 ex := by
     rw [← HXE.out]
     simp [XE.er, XE.erL, mk1]
    rw [hex, HRR.out, HP.out] at hfin
    have HFI := Lib.hid hfin
    have HRB := Lib.hid hrb
    have hcells : (xk.cells [(XE.mk op1 kind1 num1 scale1 text1 qual1 a1 cap1 args1)]).toArray = #[.int .i64 op1, .slice a1 args1.length cap1, .int .i64 kind1, .int .i64 num1, .int .i64 scale1, .string text1, .string qual1] := rfl
    rw [hcells] at hW11
    clear hrb hfin hex hcells hn hd9 b11 b6 hx6
    go_wp2_with (first | (refine wpLx (x := (XE.mk op1 kind1 num1 scale1 text1 qual1 a1 cap1 args1)) rfl _ rfl HB6.out rfl ?_; unfold XE.val) | (refine wpSx (x := (XE.mk 20 0 0 0 ⟨#[]⟩ ⟨#[]⟩ (some ⟨w6.heap.size, 0, none⟩) 1 [(XE.mk op1 kind1 num1 scale1 text1 qual1 a1 cap1 args1)])) rfl _ _ rfl HRB.out rfl rfl ?_))
    exact ex_ret Tryz.results174 HFI.out.1 rfl rfl HFI.out.2
   ·rw [dGot_no (show dIs ts 1 wNot s1.next = false by simpa using c2)] at hr
    dsimp only at hr
    rw [if_neg (by decide)] at hr
    obtain ⟨s5, hs5⟩ : ∃ s5, dMust ts 1 wNull s1.next = s5 := ⟨_, rfl⟩
    rw [hs5] at hr
    have hmo := dMust_opn ts 1 wNull s1.next
    rw [hs5] at hmo
    have HMO := Lib.hid hmo
    have HRR := Lib.hid hr
    have HS5 := Lib.hid hs5
    have HC2 := Lib.hid (dGot_no (show dIs ts 1 wNot s1.next = false by simpa using c2))
    clear c c2 hr hmo hs5
    go_wp2_with fail
    try go_at_call 48
    refine HG.out.mono ?_
    rintro e3 w3 ⟨rfl, b3⟩
    have HW3 := Lib.hid (HW.out.trans b3)
    have HG2 := Lib.hid (got_d b3.ds 1 wNot (by decide))
    rw [HC2.out] at HG2
    have HL3 := Lib.hid b3
    clear b3
    go_wp2_with fail
    try go_at_call 48
    refine HG2.out.mono ?_
    rintro e5 w5 ⟨rfl, b5⟩
    have HL5 := Lib.hid (HL3.out.trans b5)
    have HM := Lib.hid (must_d b5.ds 1 wNull (by decide))
    rw [HS5.out] at HM
    clear b5
    go_wp2_with fail
    try go_at_call 51
    refine HM.out.mono ?_
    rintro e6 w6 ⟨rfl, b6⟩
    have HL6 := Lib.hid (HL5.out.trans b6)
    have HW6 := Lib.hid (HW.out.trans HL6.out)
    have HB6 := Lib.hid (HBW.out.frm HL6.out.fr (fun e => by have h1 : w2.heap.size = pb := e; have := HPW.out; omega))
    have hx6 := XE.Mem.frm HL6.out.fr (fun k hk e => by have h1 : w1.heap.size ≤ k := hk; have h2 : k = pb := e; have := HD1.out.ds.lt; omega) _ HXW.out
    have hn := node1 (K := GE w1.heap.size) 19 (XE.mk op1 kind1 num1 scale1 text1 qual1 a1 cap1 args1) HW6.out.fr.size hx6
    obtain ⟨W11, hW11⟩ : ∃ W11, w6.alloc (.cells (xk.cells [(XE.mk op1 kind1 num1 scale1 text1 qual1 a1 cap1 args1)]).toArray 30) = W11 := ⟨_, rfl⟩
    rw [hW11] at hn
    have b11 : Below w6.heap.size w6 W11 := by rw [← hW11]; exact (Below.refl _ _).alloc (Nat.le_refl _) _
    have hd9 := (HD1.out.trans HW6.out).below b11
    have hrb : Bx W11 w.heap.size zx 30 := (HB0.out.frm HW6.out.fr (fun e => by have h1 : w.heap.size = pb := e; have := HPB.out; omega)).below b11
    have hfin := fin_X (s := s) (x := (XE.mk 19 0 0 0 ⟨#[]⟩ ⟨#[]⟩ (some ⟨w6.heap.size, 0, none⟩) 1 [(XE.mk op1 kind1 num1 scale1 text1 qual1 a1 cap1 args1)])) HPB.out (Nat.le_of_lt HSZ.out) hrb hd9 hn HSZ.out (by rw [HMO.out.1]; exact HOI.out.1) (Nat.le_trans HOI.out.2 (Nat.le_trans (Nat.le_succ _) HMO.out.2.1))
    have hex : XE.er (XE.mk 19 0 0 0 ⟨#[]⟩ ⟨#[]⟩ (some ⟨w6.heap.size, 0, none⟩) 1 [(XE.mk op1 kind1 num1 scale1 text1 qual1 a1 cap1 args1)]) = mk1 19 ex := by
     rw [← HXE.out]
     simp [XE.er, XE.erL, mk1]
    rw [hex, HRR.out, HP.out] at hfin
    have HFI := Lib.hid hfin
    have HRB := Lib.hid hrb
    have hcells : (xk.cells [(XE.mk op1 kind1 num1 scale1 text1 qual1 a1 cap1 args1)]).toArray = #[.int .i64 op1, .slice a1 args1.length cap1, .int .i64 kind1, .int .i64 num1, .int .i64 scale1, .string text1, .string qual1] := rfl
    rw [hcells] at hW11
    clear hrb hfin hex hcells hn hd9 b11 b6 hx6
    go_wp2_with (first | (refine wpLx (x := (XE.mk op1 kind1 num1 scale1 text1 qual1 a1 cap1 args1)) rfl _ rfl HB6.out rfl ?_; unfold XE.val) | (refine wpSx (x := (XE.mk 19 0 0 0 ⟨#[]⟩ ⟨#[]⟩ (some ⟨w6.heap.size, 0, none⟩) 1 [(XE.mk op1 kind1 num1 scale1 text1 qual1 a1 cap1 args1)])) rfl _ _ rfl HRB.out rfl rfl ?_))
    exact ex_ret Tryz.results174 HFI.out.1 rfl rfl HFI.out.2
end Go.Proofs.YtofnkfjhmjecjaaGreatDoor
