/-
  Texts of mine put together, in build order.
  Conditions: as each declaration says.
-/
import Derived.Deep.QuietTactic
import Derived.Deep.RegionLaw
import Derived.Deep.MidRow
import Derived.Test.YtofnkfjhmjecjaaGreatDoorZp4
import Derived.Test.YtofnkfjhmjecjaaGreatDoorZp7
import Derived.Test.YtofnkfjhmjecjaaGreatDoorZp13
import Derived.Test.YtofnkfjhmjecjaaGreatDoorZp20
namespace Go.Proofs.YtofnkfjhmjecjaaGreatDoor
set_option maxRecDepth 100000
open Go.RowKit Go.Joins Go.ChangeShapes Go.WideShapes
set_option linter.unusedVariables false
set_option linter.unusedSimpArgs false
theorem Bx.five {w : World} {g : Nat} {u0 u1 u2 u3 u4 : Value} {T : TypeId} (h : Bx w g #[u0, u1, u2, u3, u4] T) : (w.cell? ⟨g, 0, none⟩ = some u0 ∧ w.cell? ⟨g, 1, none⟩ = some u1 ∧ w.cell? ⟨g, 2, none⟩ = some u2 ∧ w.cell? ⟨g, 3, none⟩ = some u3 ∧ w.cell? ⟨g, 4, none⟩ = some u4) ∧
  w.frozen? ⟨g, 0, none⟩ = false ∧ w.frozen? ⟨g, 1, none⟩ = false ∧ w.frozen? ⟨g, 2, none⟩ = false ∧ w.frozen? ⟨g, 3, none⟩ = false ∧ w.frozen? ⟨g, 4, none⟩ = false :=
 ⟨⟨h.cell rfl, h.cell rfl, h.cell rfl, h.cell rfl, h.cell rfl⟩, h.frz 0, h.frz 1, h.frz 2, h.frz 3, h.frz 4⟩
set_option maxHeartbeats 4000000 in
theorem fail_d {w : World} {pb : Nat} {ts : List Tk} {s : DS} (h : DsM w pb ts s) (c : Nat) (hc : c ≤ 1000) :
  Calls Tryz.prog 24 #[.pointer (some ⟨pb, 0, none⟩), .int .i64 (c : Int)] w fun e w' => e = .returned (.tuple #[]) ∧ Dp w w' pb ts (dFail c s) := by
 obtain ⟨a, cap, hb, -⟩ := h.hd
 obtain ⟨⟨x0, x1, x2, x3, x4⟩, f0, f1, f2, f3, f4⟩ := hb.five
 obtain ⟨R, hR⟩ : ∃ R, dFail c s = R := ⟨_, rfl⟩
 rw [hR]
 generalize hP : (fun (e : Ending) (w' : World) => e = .returned (.tuple #[]) ∧ Dp w w' pb ts R) = P
 by_cases he : s.e = 0
 ·have hE := h.put { s with e := c } 3 (.int .i64 (c : Int)) (.inr (.inr (.inl ⟨rfl, rfl, rfl⟩))) h.ii h.on h.ms hc
  have hRR : R = { s with e := c } := by rw [← hR]; unfold dFail; rw [if_pos he]
  have HF := Lib.hid (show P (.returned (.tuple #[])) (w.setCell ⟨pb, 3, none⟩ (.int .i64 (c : Int))) by rw [← hP, hRR]; exact ⟨rfl, hE⟩)
  rw [he] at x3
  clear hP hRR hE h hb hR x0 x1 x2 x4 he hc f0 f1 f2 f4
  go_enter Tryz.func24, Tryz.ntmps24
  go_wp2_with fail
  first | exact HF.out | exact bodyPost_ret (v := .tuple #[]) (by simp [results, go_sem]) rfl HF.out
 ·have hRR : R = s := by rw [← hR]; unfold dFail; rw [if_neg he]
  have HF := Lib.hid (show P (.returned (.tuple #[])) w by rw [← hP, hRR]; exact ⟨rfl, Dp.refl h⟩)
  have q : ((s.e : Int) == 0) = false := by simp; omega
  clear hP hRR h hb hR x0 x1 x2 x4 he hc f0 f1 f2 f4
  go_enter Tryz.func24, Tryz.ntmps24
  go_wp2_with fail
  first | exact HF.out | exact bodyPost_ret (v := .tuple #[]) (by simp [results, go_sem]) rfl HF.out
theorem str_ne {l r : List Nat} (hl : ∀ x ∈ l, x < 256) (hr : ∀ x ∈ r, x < 256) (h : l ≠ r) : ((strB l).toList == (strB r).toList) = false := by
 cases e : ((strB l).toList == (strB r).toList) with
 | false => rfl
 | true =>
  rw [beq_iff_eq, ByteArray.toList_eq, ByteArray.toList_eq] at e
  have h2 : strB l = strB r := by
   have h3 := Array.toList_inj.1 e
   cases hx : strB l with
   | mk d => cases hy : strB r with
    | mk d' => rw [hx, hy] at h3; simp at h3; rw [h3]
  exact absurd (strB_inj hl hr h2) h
set_option maxHeartbeats 8000000 in
theorem is_d {w : World} {pb : Nat} {ts : List Tk} {s : DS} (h : DsM w pb ts s) (k : Nat) (wd : List Nat) (hwd : ∀ x ∈ wd, x < 256) :
  Calls Tryz.prog 123 #[.pointer (some ⟨pb, 0, none⟩), .int .i64 (k : Int), .string (strB wd)] w fun e w' => e = .returned (.bool (dIs ts k wd s)) ∧ Below w.heap.size w w' := by
 obtain ⟨a, cap, hb, hcl, hcm, -⟩ := h.hd
 have hii := h.ii
 have hln := h.ln
 obtain ⟨n, hn⟩ : ∃ n, ts.length = n := ⟨_, rfl⟩
 obtain ⟨R, hR⟩ : ∃ R, dIs ts k wd s = R := ⟨_, rfl⟩
 rw [hR]
 generalize hP : (fun (e : Ending) (w' : World) => e = .returned (.bool R) ∧ Below w.heap.size w w') = P
 have HF := Lib.hid (fun (b : Bool) (hb : R = b) (q : Nat) => show P (.returned (.bool b)) (w.drewN q) by rw [← hP, hb]; exact ⟨rfl, ⟨rfl, rfl, rfl, Nat.le_refl _, fun _ _ => rfl⟩⟩)
 have HR := Lib.hid hR
 clear hP hR
 rw [hn] at hb hcl hii hln
 obtain ⟨⟨x0, x1, x2, x3, x4⟩, -⟩ := hb.five
 by_cases he : s.e = 0
 case neg =>
  have q : ((s.e : Int) == 0) = false := by simp; omega
  have HB := Lib.hid (show R = false by rw [← HR.out]; unfold dIs; simp [he])
  clear HR he h hn
  go_enter Tryz.func123, Tryz.ntmps123
  go_wp2_with fail
  go_quiet (fail)
  all_goals
   go_wp2_with fail
   exact HF.out _ HB.out _
 rw [he] at x3
 by_cases hi : s.i < n
 case neg =>
  have q : decide (s.i < n) = false := by simp; omega
  have HB := Lib.hid (show R = false by rw [← HR.out]; unfold dIs; rw [List.getElem?_eq_none (by omega)]; simp)
  clear HR he h hn hi
  go_enter Tryz.func123, Tryz.ntmps123
  go_wp2_with fail
  go_quiet (fail)
  all_goals
   go_wp2_with fail
   exact HF.out _ HB.out _
 have hi2 : (s.i : Int) < (n : Int) := by omega
 have hi0 : (0 : Int) ≤ (s.i : Int) := by omega
 have ht : ts[s.i]? = some (ts[s.i]'(by omega)) := List.getElem?_eq_getElem _
 generalize ts[s.i]'(by omega) = t at *
 obtain ⟨g, o, cap', hb', -, -, t0, t1, t2, t3⟩ := tok_cells h ht
 rw [hn] at hb'
 obtain ⟨⟨y0, y1, y2, y3, y4⟩, -⟩ := hb'.five
 rw [he] at y3
 have HT := Lib.hid (And.intro ht (h.rt t (List.mem_of_getElem? ht)))
 obtain ⟨i, hii⟩ : ∃ i, s.i = i := ⟨_, rfl⟩
 rw [hii] at hi hi2 hi0 t0 t1 t2 t3 y1 HT
 have hIs : dIs ts k wd s = (t.kind == k && t.text == wd) := by
  unfold dIs
  rw [hii, HT.out.1, he]
  rfl
 have HIS := Lib.hid (HR.out.symm.trans hIs)
 have hcap : n ≤ cap' := by
  obtain ⟨g2, o2, cap2, hb2, c1, -⟩ := tok_cells h (show ts[s.i]? = some t by rw [hii]; exact HT.out.1)
  have := hb'
  rw [hn] at hb2 c1
  have e1 := hb2.symm.trans hb'
  injection e1 with e1
  injection e1 with e1 e2 e3
  have e4 := congrArg (fun a : Array Value => a[0]?) e1
  simp at e4
  omega
 clear x0 x1 x2 x3 x4 hb hb' ht hn h hIs HR he hcl
 by_cases hk : t.kind = k
 case neg =>
  have q : ((t.kind : Int) == (k : Int)) = false := by simp; omega
  have HB := Lib.hid (show R = false by rw [HIS.out]; simp [hk])
  clear HIS hk
  go_enter Tryz.func123, Tryz.ntmps123
  go_wp2_with fail
  go_quiet (fail)
  all_goals
   go_wp2_with fail
   exact HF.out _ HB.out _
 rw [hk] at t0
 by_cases hw : t.text = wd
 ·have HB := Lib.hid (show R = true by rw [HIS.out]; simp [hk, hw])
  rw [hw] at t1
  obtain ⟨T, hT⟩ : ∃ T, strB wd = T := ⟨_, rfl⟩
  rw [hT] at t1 ⊢
  clear HIS hk hw hT
  go_enter Tryz.func123, Tryz.ntmps123
  go_wp2_with fail
  go_quiet (fail)
  all_goals
   go_wp2_with fail
   exact HF.out _ HB.out _
 ·have q := str_ne HT.out.2.2.2.2.2 hwd hw
  have HB := Lib.hid (show R = false by rw [HIS.out]; simp [hw])
  obtain ⟨T, hT⟩ : ∃ T, strB wd = T := ⟨_, rfl⟩
  obtain ⟨U, hU⟩ : ∃ U, strB t.text = U := ⟨_, rfl⟩
  rw [hT] at q ⊢
  rw [hU] at q t1
  clear HIS hk hw hT hU
  go_enter Tryz.func123, Tryz.ntmps123
  go_wp2_with fail
  go_quiet (fail)
  all_goals
   go_wp2_with fail
   exact HF.out _ HB.out _
theorem DsM.go {w : World} {pb : Nat} {ts : List Tk} {s : DS} (h : DsM w pb ts s) (hi : s.i < ts.length) : Dp w (w.setCell ⟨pb, 1, none⟩ (.int .i64 ((s.i : Int) + 1))) pb ts s.next :=
 h.put s.next 1 _ (.inl ⟨rfl, by show _ = Value.int .i64 ((s.i + 1 : Nat) : Int); congr 1, rfl⟩) hi h.on h.ms h.er
theorem dIs_lt {ts : List Tk} {k : Nat} {wd : List Nat} {s : DS} (h : dIs ts k wd s = true) : s.i < ts.length := by
 unfold dIs at h
 simp only [Bool.and_eq_true] at h
 cases ht : ts[s.i]? with
 | none => rw [ht] at h; simp at h
 | some t => exact (List.getElem?_eq_some_iff.1 ht).1
set_option maxHeartbeats 4000000 in
theorem got_d {w : World} {pb : Nat} {ts : List Tk} {s : DS} (h : DsM w pb ts s) (k : Nat) (wd : List Nat) (hwd : ∀ x ∈ wd, x < 256) :
  Calls Tryz.prog 48 #[.pointer (some ⟨pb, 0, none⟩), .int .i64 (k : Int), .string (strB wd)] w fun e w' => e = .returned (.bool (dGot ts k wd s).1) ∧ Dp w w' pb ts (dGot ts k wd s).2 := by
 obtain ⟨R, hR⟩ : ∃ R, dGot ts k wd s = R := ⟨_, rfl⟩
 rw [hR]
 generalize hP : (fun (e : Ending) (w' : World) => e = .returned (.bool R.1) ∧ Dp w w' pb ts R.2) = P
 have HP := Lib.hid hP
 have HI := Lib.hid (is_d h k wd hwd)
 have HH := Lib.hid h
 have HR := Lib.hid hR
 have hln := h.ln
 obtain ⟨T, hT⟩ : ∃ T, strB wd = T := ⟨_, rfl⟩
 rw [hT] at HI ⊢
 clear hP hR hT h
 by_cases c : dIs ts k wd s = true
 ·rw [c] at HI
  have hlt := dIs_lt c
  have hRR : R = (true, s.next) := by rw [← HR.out]; unfold dGot; rw [if_pos c]
  have HRR := Lib.hid hRR
  have HLT := Lib.hid hlt
  have w5 : IntKind.i64.wrap ((s.i : Int) + 1) = (s.i : Int) + 1 := by rw [IntKind.wrap_i64]; omega
  clear hRR c HR hln hlt
  go_enter Tryz.func48, Tryz.ntmps48
  go_wp2_with fail
  try go_at_call 123
  refine HI.out.mono ?_
  rintro e w1 ⟨rfl, b1⟩
  have HM := Lib.hid (HH.out.below b1)
  obtain ⟨a, cap, hb, -⟩ := HM.out.hd
  obtain ⟨⟨x0, x1, x2, x3, x4⟩, f0, f1, f2, f3, f4⟩ := hb.five
  have HF := Lib.hid (show P (.returned (.bool true)) (w1.setCell ⟨pb, 1, none⟩ (.int .i64 ((s.i : Int) + 1))) by rw [← HP.out, HRR.out]; exact ⟨rfl, ((Dp.refl HH.out).below b1).trans (HM.out.go HLT.out)⟩)
  clear b1 hb x0 x2 x3 x4 f0 f2 f3 f4 HP HRR
  go_wp2_with fail
  exact HF.out
 ·have hf : dIs ts k wd s = false := by simpa using c
  rw [hf] at HI
  have hRR : R = (false, s) := by rw [← HR.out]; unfold dGot; rw [if_neg c]
  have HRR := Lib.hid hRR
  clear hRR c HR hf
  go_enter Tryz.func48, Tryz.ntmps48
  go_wp2_with fail
  try go_at_call 123
  refine HI.out.mono ?_
  rintro e w1 ⟨rfl, b1⟩
  have HF := Lib.hid (show P (.returned (.bool false)) w1 by rw [← HP.out, HRR.out]; exact ⟨rfl, (Dp.refl HH.out).below b1⟩)
  clear b1 HP HRR
  go_wp2_with fail
  exact HF.out
set_option maxHeartbeats 4000000 in
theorem must_d {w : World} {pb : Nat} {ts : List Tk} {s : DS} (h : DsM w pb ts s) (k : Nat) (wd : List Nat) (hwd : ∀ x ∈ wd, x < 256) :
  Calls Tryz.prog 51 #[.pointer (some ⟨pb, 0, none⟩), .int .i64 (k : Int), .string (strB wd)] w fun e w' => e = .returned (.tuple #[]) ∧ Dp w w' pb ts (dMust ts k wd s) := by
 obtain ⟨R, hR⟩ : ∃ R, dMust ts k wd s = R := ⟨_, rfl⟩
 rw [hR]
 generalize hP : (fun (e : Ending) (w' : World) => e = .returned (.tuple #[]) ∧ Dp w w' pb ts R) = P
 have HP := Lib.hid hP
 have HG := Lib.hid (got_d h k wd hwd)
 have HR := Lib.hid hR
 obtain ⟨T, hT⟩ : ∃ T, strB wd = T := ⟨_, rfl⟩
 rw [hT] at HG ⊢
 clear hP hR hT h
 by_cases c : dIs ts k wd s = true
 ·have hg : dGot ts k wd s = (true, s.next) := by unfold dGot; rw [if_pos c]
  have hRR : R = s.next := by rw [← HR.out]; unfold dMust; rw [if_pos c]
  rw [hg] at HG
  have HRR := Lib.hid hRR
  clear hRR c HR hg
  go_enter Tryz.func51, Tryz.ntmps51
  go_wp2_with fail
  try go_at_call 48
  refine HG.out.mono ?_
  rintro e w1 ⟨rfl, b1⟩
  have HF := Lib.hid (show P (.returned (.tuple #[])) w1 by rw [← HP.out, HRR.out]; exact ⟨rfl, b1⟩)
  clear b1 HP HRR
  go_wp2_with fail
  first | exact HF.out | exact bodyPost_ret (v := .tuple #[]) (by simp [results, go_sem]) rfl HF.out
 ·have hg : dGot ts k wd s = (false, s) := by unfold dGot; rw [if_neg c]
  have hRR : R = dFail 130 s := by rw [← HR.out]; unfold dMust; rw [if_neg c]
  rw [hg] at HG
  have HRR := Lib.hid hRR
  clear hRR c HR hg
  go_enter Tryz.func51, Tryz.ntmps51
  go_wp2_with fail
  try go_at_call 48
  refine HG.out.mono ?_
  rintro e w1 ⟨rfl, b1⟩
  have HB1 := Lib.hid b1
  have HL := Lib.hid (fail_d b1.ds 130 (by omega))
  clear b1
  go_wp2_with fail
  try go_at_call 24
  refine HL.out.mono ?_
  rintro e w2 ⟨rfl, b2⟩
  have HF := Lib.hid (show P (.returned (.tuple #[])) w2 by rw [← HP.out, HRR.out]; exact ⟨rfl, HB1.out.trans b2⟩)
  clear b2 HP HRR
  go_wp2_with fail
  first | exact HF.out | exact bodyPost_ret (v := .tuple #[]) (by simp [results, go_sem]) rfl HF.out
set_option maxHeartbeats 4000000 in
theorem more_d {w : World} {pb : Nat} {ts : List Tk} {s : DS} (h : DsM w pb ts s) (n most : Nat) :
  Calls Tryz.prog 55 #[.pointer (some ⟨pb, 0, none⟩), .int .i64 (n : Int), .int .i64 (most : Int)] w fun e w' => e = .returned (.bool (dMore ts n most s).1) ∧ Dp w w' pb ts (dMore ts n most s).2 := by
 obtain ⟨R, hR⟩ : ∃ R, dMore ts n most s = R := ⟨_, rfl⟩
 rw [hR]
 generalize hP : (fun (e : Ending) (w' : World) => e = .returned (.bool R.1) ∧ Dp w w' pb ts R.2) = P
 have HP := Lib.hid hP
 have hI := is_d h 5 [44] (by decide)
 have e1 : strB [44] = ⟨#[44]⟩ := rfl
 have e2 : ((5 : Nat) : Int) = 5 := rfl
 rw [e1, e2] at hI
 have HI := Lib.hid hI
 have HH := Lib.hid h
 have HR := Lib.hid hR
 have hln := h.ln
 clear hP hR h hI e1 e2
 by_cases c : dIs ts 5 [44] s = true
 ·rw [c] at HI
  have hlt := dIs_lt c
  have HLT := Lib.hid hlt
  have w5 : IntKind.i64.wrap ((s.i : Int) + 1) = (s.i : Int) + 1 := by rw [IntKind.wrap_i64]; omega
  have HC := Lib.hid c
  clear c hln hlt
  by_cases cn : n = most
  ·have hRR : R = (false, dFail 151 s) := by rw [← HR.out]; unfold dMore; rw [if_pos HC.out, if_pos cn]
   have HRR := Lib.hid hRR
   subst cn
   clear hRR HR HC
   go_enter Tryz.func55, Tryz.ntmps55
   go_wp2_with fail
   try go_at_call 123
   refine HI.out.mono ?_
   rintro e w1 ⟨rfl, b1⟩
   have HB1 := Lib.hid ((Dp.refl HH.out).below b1)
   have HL := Lib.hid (fail_d (HH.out.below b1) 151 (by omega))
   clear b1
   go_wp2_with fail
   try go_at_call 24
   refine HL.out.mono ?_
   rintro e w2 ⟨rfl, b2⟩
   have HF := Lib.hid (show P (.returned (.bool false)) w2 by rw [← HP.out, HRR.out]; exact ⟨rfl, HB1.out.trans b2⟩)
   clear b2 HP HRR
   go_wp2_with fail
   exact HF.out
  ·have q : ((n : Int) == (most : Int)) = false := by simp; omega
   have hRR : R = (true, s.next) := by rw [← HR.out]; unfold dMore; rw [if_pos HC.out, if_neg cn]
   have HRR := Lib.hid hRR
   clear hRR HR cn HC
   go_enter Tryz.func55, Tryz.ntmps55
   go_wp2_with fail
   try go_at_call 123
   refine HI.out.mono ?_
   rintro e w1 ⟨rfl, b1⟩
   have HM := Lib.hid (HH.out.below b1)
   obtain ⟨a, cap, hb, -⟩ := HM.out.hd
   obtain ⟨⟨x0, x1, x2, x3, x4⟩, f0, f1, f2, f3, f4⟩ := hb.five
   have HF := Lib.hid (show P (.returned (.bool true)) (w1.setCell ⟨pb, 1, none⟩ (.int .i64 ((s.i : Int) + 1))) by rw [← HP.out, HRR.out]; exact ⟨rfl, ((Dp.refl HH.out).below b1).trans (HM.out.go HLT.out)⟩)
   clear b1 hb x0 x2 x3 x4 f0 f2 f3 f4 HP HRR
   go_wp2_with fail
   exact HF.out
 ·have hf : dIs ts 5 [44] s = false := by simpa using c
  rw [hf] at HI
  have hRR : R = (false, s) := by rw [← HR.out]; unfold dMore; rw [if_neg c]
  have HRR := Lib.hid hRR
  clear hRR c HR hf
  go_enter Tryz.func55, Tryz.ntmps55
  go_wp2_with fail
  try go_at_call 123
  refine HI.out.mono ?_
  rintro e w1 ⟨rfl, b1⟩
  have HF := Lib.hid (show P (.returned (.bool false)) w1 by rw [← HP.out, HRR.out]; exact ⟨rfl, (Dp.refl HH.out).below b1⟩)
  clear b1 HP HRR
  go_wp2_with fail
  exact HF.out
end Go.Proofs.YtofnkfjhmjecjaaGreatDoor

namespace Go.Proofs.YtofnkfjhmjecjaaGreatDoor
set_option maxRecDepth 100000
open Go.RowKit Go.Joins Go.ChangeShapes Go.WideShapes
set_option linter.unusedVariables false
set_option linter.unusedSimpArgs false
set_option maxHeartbeats 8000000 in
theorem name_d {w : World} {pb : Nat} {ts : List Tk} {s : DS} (h : DsM w pb ts s) :
  Calls Tryz.prog 50 #[.pointer (some ⟨pb, 0, none⟩)] w fun e w' => e = .returned (.string (strB (dName ts s).1)) ∧ Dp w w' pb ts (dName ts s).2 := by
 obtain ⟨a, cap, hb, hcl, hcm, -⟩ := h.hd
 have hii := h.ii
 have hln := h.ln
 have HH := Lib.hid h
 obtain ⟨n, hn⟩ : ∃ n, ts.length = n := ⟨_, rfl⟩
 obtain ⟨R, hR⟩ : ∃ R, dName ts s = R := ⟨_, rfl⟩
 rw [hR]
 generalize hP : (fun (e : Ending) (w' : World) => e = .returned (.string (strB R.1)) ∧ Dp w w' pb ts R.2) = P
 have HP := Lib.hid hP
 have HR := Lib.hid hR
 clear hP hR
 rw [hn] at hb hcl hii hln
 obtain ⟨⟨x0, x1, x2, x3, x4⟩, f0, f1, f2, f3, f4⟩ := hb.five
 have e0 : strB [] = ⟨#[]⟩ := rfl
 have no : dNm ts s = none → R = ([], dFail 130 s) := fun hq => by rw [← HR.out]; unfold dName; rw [hq]
 have HNO := Lib.hid no
 have HE0 := Lib.hid e0
 clear no e0
 by_cases he : s.e = 0
 case neg =>
  have q : ((s.e : Int) == 0) = false := by simp; omega
  have hRR := HNO.out (by unfold dNm; rw [if_neg he])
  have HRR := Lib.hid hRR
  clear HR he hn h hRR hb x0 x1 x2 x4
  go_enter Tryz.func50, Tryz.ntmps50
  go_wp2_with fail
  go_quiet (fail)
  all_goals
   have HQ := Lib.hid (fun q : Nat => show Below w.heap.size w (w.drewN q) from ⟨rfl, rfl, rfl, Nat.le_refl _, fun _ _ => rfl⟩)
   have HL := Lib.hid (fun q : Nat => fail_d (HH.out.below (HQ.out q)) 130 (by omega))
   go_wp2_with fail
   try go_at_call 24
   refine (HL.out _).mono ?_
   rintro e w2 ⟨rfl, b2⟩
   have HF := Lib.hid (show P (.returned (.string ⟨#[]⟩)) w2 by rw [← HP.out, HRR.out]; exact ⟨by rw [← HE0.out], ((Dp.refl HH.out).below (HQ.out _)).trans b2⟩)
   clear b2 HP HRR
   go_wp2_with fail
   exact HF.out
 rw [he] at x3
 by_cases hi : s.i < n
 case neg =>
  have q : decide (s.i < n) = false := by simp; omega
  have hRR := HNO.out (by unfold dNm; rw [if_pos he, List.getElem?_eq_none (by omega)])
  have HRR := Lib.hid hRR
  clear HR he hn h hRR hb x2 x4 hi
  go_enter Tryz.func50, Tryz.ntmps50
  go_wp2_with fail
  go_quiet (fail)
  all_goals
   have HQ := Lib.hid (fun q : Nat => show Below w.heap.size w (w.drewN q) from ⟨rfl, rfl, rfl, Nat.le_refl _, fun _ _ => rfl⟩)
   have HL := Lib.hid (fun q : Nat => fail_d (HH.out.below (HQ.out q)) 130 (by omega))
   go_wp2_with fail
   try go_at_call 24
   refine (HL.out _).mono ?_
   rintro e w2 ⟨rfl, b2⟩
   have HF := Lib.hid (show P (.returned (.string ⟨#[]⟩)) w2 by rw [← HP.out, HRR.out]; exact ⟨by rw [← HE0.out], ((Dp.refl HH.out).below (HQ.out _)).trans b2⟩)
   clear b2 HP HRR
   go_wp2_with fail
   exact HF.out
 have hi2 : (s.i : Int) < (n : Int) := by omega
 have hi0 : (0 : Int) ≤ (s.i : Int) := by omega
 have ht : ts[s.i]? = some (ts[s.i]'(by omega)) := List.getElem?_eq_getElem _
 generalize ts[s.i]'(by omega) = t at *
 obtain ⟨g, o, cap', hb', hcl', hcm', t0, t1, t2, t3⟩ := tok_cells h ht
 rw [hn] at hb' hcl'
 obtain ⟨⟨y0, y1, y2, y3, y4⟩, k0, k1, k2, k3, k4⟩ := hb'.five
 rw [he] at y3
 have hNm : dNm ts s = if t.kind = 1 ∧ resB (strB t.text) = false then some t.text else none := by unfold dNm; rw [if_pos he, ht]
 have HNM := Lib.hid hNm
 have HRX := Lib.hid HR.out
 obtain ⟨i, hie⟩ : ∃ i, s.i = i := ⟨_, rfl⟩
 have HI := Lib.hid (And.intro hie (show s.i < ts.length by omega))
 rw [hie] at hi hi2 hi0 t0 t1 t2 t3 y1
 have w5 : IntKind.i64.wrap ((i : Int) + 1) = (i : Int) + 1 := by rw [IntKind.wrap_i64]; omega
 obtain ⟨T, hT⟩ : ∃ T, strB t.text = T := ⟨_, rfl⟩
 have HT := Lib.hid hT
 rw [hT] at t1 HNM
 have HRS := Lib.hid (fun (wv : World) => rres_any T wv)
 obtain ⟨kd, hkd⟩ : ∃ kd : Int, (t.kind : Int) = kd := ⟨_, rfl⟩
 obtain ⟨nn, hnn⟩ : ∃ nn : Int, (t.num : Int) = nn := ⟨_, rfl⟩
 obtain ⟨ss, hss⟩ : ∃ ss : Int, (t.scale : Int) = ss := ⟨_, rfl⟩
 have HKD := Lib.hid hkd
 rw [hkd] at t0
 rw [hnn] at t2
 rw [hss] at t3
 clear x0 x1 x2 x3 x4 hb hb' ht hn h hNm HR he hcl hii hie hT hkd hnn hss f0 f1 f2 f3 f4 k0 k1 k2 k3
 go_enter Tryz.func50, Tryz.ntmps50
 go_wp2_with fail
 go_quiet (fail)
 generalize hwq : w.drewN _ = wq
 have b0 : Below w.heap.size w wq := by rw [← hwq]; exact ⟨rfl, rfl, rfl, Nat.le_refl _, fun _ _ => rfl⟩
 have bd : Below w.heap.size w wq.drew := b0.drew
 have hgl : g < w.heap.size := World.block_lt_of_cell? w _ t0
 have hpl : pb < w.heap.size := HH.out.lt
 have yd0 := (bd.cell (p := ⟨pb, 0, none⟩) hpl).trans y0
 have yd1 := (bd.cell (p := ⟨pb, 1, none⟩) hpl).trans y1
 have td0 := (bd.cell (p := ⟨g, o + i * 4, none⟩) hgl).trans t0
 have td1 := (bd.cell (p := ⟨g, o + i * 4 + 1, none⟩) hgl).trans t1
 have td2 := (bd.cell (p := ⟨g, o + i * 4 + 2, none⟩) hgl).trans t2
 have td3 := (bd.cell (p := ⟨g, o + i * 4 + 3, none⟩) hgl).trans t3
 have hn2 := Bx.new wq.drew #[.int .i64 0, .string ⟨#[]⟩, .int .i64 0, .int .i64 0] 84
 obtain ⟨W2, hW2⟩ : ∃ W2, wq.drew.alloc (.cells #[.int .i64 0, .string ⟨#[]⟩, .int .i64 0, .int .i64 0] 84) = W2 := ⟨_, rfl⟩
 have b2 : Below w.heap.size w W2 := by rw [← hW2]; exact bd.alloc bd.size _
 have yw0 := (b2.cell (p := ⟨pb, 0, none⟩) hpl).trans y0
 have yw1 := (b2.cell (p := ⟨pb, 1, none⟩) hpl).trans y1
 have tw0 := (b2.cell (p := ⟨g, o + i * 4, none⟩) hgl).trans t0
 have tw1 := (b2.cell (p := ⟨g, o + i * 4 + 1, none⟩) hgl).trans t1
 have tw2 := (b2.cell (p := ⟨g, o + i * 4 + 2, none⟩) hgl).trans t2
 have tw3 := (b2.cell (p := ⟨g, o + i * 4 + 3, none⟩) hgl).trans t3
 rw [hW2] at hn2
 have hqs : wq.drew.heap.size = wq.heap.size := by simp
 rw [hqs] at hn2
 have HN2 := Lib.hid hn2
 have HB2 := Lib.hid (And.intro b2 (show w.heap.size ≤ wq.heap.size from b0.size))
 obtain ⟨z0, z1, z2, z3, k0, k1, k2, k3⟩ := hn2.four
 clear y0 y1 y2 y3 y4 t0 t1 t2 t3 hwq b0 bd b2 hn2 hqs hgl hpl k4
 go_wp2_with fail
 go_region_law (fail)
 all_goals
  clear yd0 yd1 td0 td1 td2 td3 yw0 yw1 tw0 tw1 tw2 tw3 z0 z1 z2 z3 k0 k1 k2 k3
  generalize hW3 : (((W2.setCell _ _).setCell _ _).setCell _ _).setCell _ _ = W3
  have hb3 : Bx W3 wq.heap.size #[.int .i64 kd, .string T, .int .i64 nn, .int .i64 ss] 84 := by rw [← hW3]; exact st4_box HN2.out kd T nn ss
  have b3 : Below w.heap.size w W3 := by rw [← hW3]; exact (((HB2.out.1.setCell HB2.out.2 _).setCell HB2.out.2 _).setCell HB2.out.2 _).setCell HB2.out.2 _
  have HB3 := Lib.hid (And.intro hb3 b3)
  obtain ⟨z0, z1, z2, z3, -⟩ := hb3.four
  clear hW3 hb3 b3 hW2 z2 z3
  by_cases hk1 : kd = 1
  ·subst hk1
   have hkn : t.kind = 1 := by have := HKD.out; omega
   have HKN := Lib.hid hkn
   by_cases hrs : resB T = false
   ·have HC := Lib.hid (HRS.out W3)
    rw [hrs] at HC
    have HRR := Lib.hid (show R = (t.text, s.next) by rw [← HRX.out]; unfold dName; rw [HNM.out, if_pos ⟨HKN.out, hrs⟩])
    clear hrs hkn HNM
    go_wp2_with fail
    try go_at_call 124
    refine HC.out.mono ?_
    rintro e w5 ⟨rfl, b5⟩
    have HB5 := Lib.hid (HB3.out.2.trans (b5.mono HB3.out.2.size))
    have HM := Lib.hid (HH.out.below HB5.out)
    obtain ⟨a5, cap5, hb5, -⟩ := HM.out.hd
    obtain ⟨⟨x0, x1, x2, x3, x4⟩, f0, f1, f2, f3, f4⟩ := hb5.five
    rw [HI.out.1] at x1
    have v1 : w5.cell? ⟨wq.heap.size, 1, none⟩ = some (.string T) := (HB3.out.1.below b5).cell rfl
    have hpq : pb < wq.heap.size := Nat.lt_of_lt_of_le HH.out.lt HB2.out.2
    have hgo := HM.out.go HI.out.2
    rw [HI.out.1] at hgo
    have HF := Lib.hid (show P (.returned (.string T)) (w5.setCell ⟨pb, 1, none⟩ (.int .i64 ((i : Int) + 1))) by rw [← HP.out, HRR.out]; exact ⟨by rw [HT.out], ((Dp.refl HH.out).below HB5.out).trans hgo⟩)
    have hne : ¬ pb = wq.heap.size := by omega
    clear b5 hb5 x0 x2 x3 x4 f0 f2 f3 f4 HP HRR z0 z1 hgo
    go_wp2_with fail
    exact HF.out
   ·have hrt : resB T = true := by simpa using hrs
    have HC := Lib.hid (HRS.out W3)
    rw [hrt] at HC
    have HRR := Lib.hid (HNO.out (by rw [HNM.out, if_neg (fun h => hrs h.2)]))
    clear hrs hkn HNM hrt
    go_wp2_with fail
    try go_at_call 124
    refine HC.out.mono ?_
    rintro e w5 ⟨rfl, b5⟩
    have HB5 := Lib.hid (HB3.out.2.trans (b5.mono HB3.out.2.size))
    have HL := Lib.hid (fail_d (HH.out.below HB5.out) 130 (by omega))
    clear b5
    go_wp2_with fail
    try go_at_call 24
    refine HL.out.mono ?_
    rintro e w6 ⟨rfl, b6⟩
    have HF := Lib.hid (show P (.returned (.string ⟨#[]⟩)) w6 by rw [← HP.out, HRR.out]; exact ⟨by rw [← HE0.out], ((Dp.refl HH.out).below HB5.out).trans b6⟩)
    clear b6 HP HRR
    go_wp2_with fail
    exact HF.out
  ·have qk : (kd == 1) = false := by simpa using hk1
   have HRR := Lib.hid (HNO.out (by rw [HNM.out, if_neg (fun h => hk1 (by have := HKD.out; omega))]))
   have HL := Lib.hid (fail_d (HH.out.below HB3.out.2) 130 (by omega))
   clear hk1 HNM
   go_wp2_with fail
   try go_at_call 24
   refine HL.out.mono ?_
   rintro e w6 ⟨rfl, b6⟩
   have HF := Lib.hid (show P (.returned (.string ⟨#[]⟩)) w6 by rw [← HP.out, HRR.out]; exact ⟨by rw [← HE0.out], ((Dp.refl HH.out).below HB3.out.2).trans b6⟩)
   clear b6 HP HRR
   go_wp2_with fail
   exact HF.out
end Go.Proofs.YtofnkfjhmjecjaaGreatDoor

namespace Go.Proofs.YtofnkfjhmjecjaaGreatDoor
set_option maxRecDepth 100000
open Go.RowKit Go.Joins Go.ChangeShapes Go.WideShapes
set_option linter.unusedVariables false
set_option linter.unusedSimpArgs false
def EndX (w : World) (pb : Nat) (ts : List Tk) (s : DS) (r : Ex × DS) (e : Ending) (w' : World) : Prop :=
 ∃ x : XE, e = .returned x.val ∧ x.er = r.1 ∧ XE.Mem (GE w.heap.size) w' x ∧ Dp w w' pb ts r.2 ∧ r.2.opn = s.opn ∧ s.i ≤ r.2.i
def ExD (ts : List Tk) (n pb : Nat) : Prop := ∀ (w : World) (s : DS) (lvl : Nat) (r : Ex × DS), DsM w pb ts s → (s.opn ≤ 40 ∨ s.e ≠ 0) → lvl ≤ 7 → dX ts n lvl s = some r →
  Calls Tryz.prog 126 #[.pointer (some ⟨pb, 0, none⟩), .int .i64 (lvl : Int)] w (EndX w pb ts s r)
def PaD (ts : List Tk) (n pb : Nat) : Prop := ∀ (w : World) (s : DS) (r : Ex × DS), DsM w pb ts s → s.opn ≤ 40 → dP ts n s = some r →
  Calls Tryz.prog 195 #[.pointer (some ⟨pb, 0, none⟩)] w (EndX w pb ts s r)
theorem dFail_opn (c : Nat) (s : DS) : (dFail c s).opn = s.opn ∧ (dFail c s).i = s.i ∧ (c ≠ 0 → (dFail c s).e ≠ 0) := by
 unfold dFail
 by_cases h : s.e = 0
 ·rw [if_pos h]; exact ⟨rfl, rfl, fun h => h⟩
 ·rw [if_neg h]; exact ⟨rfl, rfl, fun _ => h⟩
theorem dMust_opn (ts : List Tk) (k : Nat) (w : List Nat) (s : DS) : (dMust ts k w s).opn = s.opn ∧ s.i ≤ (dMust ts k w s).i ∧ (dIs ts k w s = false → (dMust ts k w s).e ≠ 0) := by
 unfold dMust
 by_cases h : dIs ts k w s = true
 ·rw [if_pos h]; exact ⟨rfl, Nat.le_succ _, (fun e => by rw [h] at e; cases e)⟩
 ·rw [if_neg h]
  have := dFail_opn 130 s
  exact ⟨this.1, by rw [this.2.1]; exact Nat.le_refl _, fun _ => this.2.2 (by decide)⟩
theorem dGot_opn (ts : List Tk) (k : Nat) (w : List Nat) (s : DS) : (dGot ts k w s).2.opn = s.opn ∧ s.i ≤ (dGot ts k w s).2.i ∧ (dGot ts k w s).2.e = s.e := by
 unfold dGot
 by_cases h : dIs ts k w s = true
 ·rw [if_pos h]; exact ⟨rfl, Nat.le_succ _, rfl⟩
 ·rw [if_neg h]; exact ⟨rfl, Nat.le_refl _, rfl⟩
theorem fin_X {w w1 w2 : World} {pb : Nat} {ts : List Tk} {s s2 : DS} {x : XE} (hp : pb < w.heap.size) (hs : w.heap.size ≤ w1.heap.size) (hb : Bx w2 w.heap.size zx 30) (hd : Dp w w2 pb ts s2) (hm : XE.Mem (GE w1.heap.size) w2 x) (h1 : w.heap.size < w1.heap.size) (ho : s2.opn = s.opn) (hi : s.i ≤ s2.i) :
  Bx (st7 w2 w.heap.size x) w.heap.size x.encA 30 ∧ EndX w pb ts s (x.er, s2) (.returned x.val) (st7 w2 w.heap.size x) := by
 have hf : Frm (fun k => k = w.heap.size) w2 (st7 w2 w.heap.size x) := st7_frm (Frm.refl (fun k => k = w.heap.size) w2) (.inl rfl) x
 refine ⟨st7_box hb x, x, rfl, rfl, ?_, ⟨st7_frm hd.fr (.inr (Nat.le_refl _)) x, hd.ds.frm hf (fun k hk e => by omega)⟩, ho, hi⟩
 exact XE.Mem.mono (fun k hk => Nat.le_trans hs hk) _ (XE.Mem.frm hf (fun k hk e => by have : w1.heap.size ≤ k := hk; omega) x hm)
theorem xbox {w1 : World} (x : XE) : Below w1.heap.size w1 (st7 (w1.alloc (.cells zx 30)) w1.heap.size x) ∧ Bx (st7 (w1.alloc (.cells zx 30)) w1.heap.size x) w1.heap.size x.encA 30 := by
 have hn7 := Bx.new w1 zx 30
 have b7 : Below w1.heap.size w1 (w1.alloc (.cells zx 30)) := (Below.refl _ _).alloc (Nat.le_refl _) _
 have hf7 : Frm (fun k => k = w1.heap.size) (w1.alloc (.cells zx 30)) (st7 (w1.alloc (.cells zx 30)) w1.heap.size x) := st7_frm (Frm.refl (fun k => k = w1.heap.size) _) (.inl rfl) x
 exact ⟨((Frm.of_below (F := fun k => k = w1.heap.size) b7).trans hf7 (fun k hk => .inl hk)).below (fun k hk => Nat.le_of_eq hk.symm) (Nat.le_refl _), st7_box hn7 x⟩
theorem infoXE : (Tryz.prog.info? 30).map (·.size) = some 7 := by kernel_rfl
theorem wpSx {ops : Array Oper} {rest : List Oper} {o : Oper} {a : Act} {w : World} {Q : Exit → Act → World → Prop} (hgd : o.guard = none) (p v : Operand) (ho : o.op = .store 30 p v) {g : Nat} {x : XE} {u0 u1 u2 u3 u4 u5 u6 : Value} (hb : Bx w g #[u0, u1, u2, u3, u4, u5, u6] 30) (hp : a.eval p = .pointer (some ⟨g, 0, none⟩)) (hv : a.eval v = x.val)
  (h : wpList Tryz.prog ops Q rest (a.put o.dst undef) (st7 w g x)) : wpList Tryz.prog ops Q (o :: rest) a w := by
 have hst : (Instr.storeAt 30 (.pointer (some ⟨g, 0, none⟩)) x.val).run Tryz.prog w = .ok () (st7 w g x) := by
  have h1 := run_storeAt_mid (P := Tryz.prog) w g 0 30 x.encA (fun j hj => by
   have hj' : j < 7 := by rw [XE.encA_eq] at hj; simpa [XE.enc_len] using hj
   rw [Nat.zero_add]
   exact ⟨by rw [cell_of_block hb, Array.getElem?_eq_getElem (by simpa using hj')]; rfl, hb.frz j⟩) (by rw [infoXE, XE.encA_eq]; simp [XE.enc_len]) (by rw [XE.encA_eq]; exact all_oneCell_toArray x.enc_one)
  have h2 : w.setCells g 0 x.encA.toList = st7 w g x := by
   cases x with
   | mk op kind num scale text qual aa cap args => rfl
  rw [XE.val_eq, ← h2]
  exact h1
 exact wpList_plain hgd fun _ hK => by
  unfold Oper.wp execOp
  simp only [ho, hp, hv, Sem.run_bind, Sem.run_pure, Result.andThen_ok, hst]
  exact hK _ _ h
theorem wpLx {ops : Array Oper} {rest : List Oper} {o : Oper} {a : Act} {w : World} {Q : Exit → Act → World → Prop} (hgd : o.guard = none) (p : Operand) (ho : o.op = .load 30 p) {g : Nat} {x : XE} (hb : Bx w g x.encA 30) (hp : a.eval p = .pointer (some ⟨g, 0, none⟩))
  (h : wpList Tryz.prog ops Q rest (a.put o.dst x.val) w) : wpList Tryz.prog ops Q (o :: rest) a w := by
 have hu : ∃ d, Tryz.prog.underlying 30 = some d ∧ d.isRow = true := ⟨_, Tryz.underlying30, rfl⟩
 obtain ⟨d, h1, h2⟩ := hu
 have hld : (Instr.loadAt 30 (.pointer (some ⟨g, 0, none⟩))).run Tryz.prog w = .ok x.val w := by
  have h3 := run_loadAt_mid (P := Tryz.prog) w g 0 30 x.enc d (fun j v hj => by rw [Nat.zero_add]; exact hb.cell (by rw [XE.encA_eq]; simpa using hj)) h1 h2 (by rw [infoXE, XE.enc_len])
  rw [XE.val_eq, XE.encA_eq]
  exact h3
 exact wpList_plain hgd fun _ hK => by
  unfold Oper.wp execOp
  simp only [ho, hp, Sem.run_bind, Sem.run_pure, Result.andThen_ok, hld]
  exact hK _ _ h
end Go.Proofs.YtofnkfjhmjecjaaGreatDoor

namespace Go.Proofs.YtofnkfjhmjecjaaGreatDoor
set_option maxRecDepth 100000
open Go.RowKit Go.Joins Go.ChangeShapes Go.WideShapes
set_option linter.unusedVariables false
set_option linter.unusedSimpArgs false
theorem bindD_some {β : Type} {x : Option (Ex × DS)} {f : Ex → DS → Option β} {b : β} (h : bindD x f = some b) : ∃ e s, x = some (e, s) ∧ f e s = some b := by
 unfold bindD at h
 match x, h with
 | some (e, s), h => exact ⟨e, s, rfl, h⟩
set_option maxHeartbeats 16000000 in
theorem paren_d {ts : List Tk} {n pb : Nat} (hx : ExD ts n pb) : PaD ts (n + 1) pb := by
 intro w s r h ho hr
 rw [dP] at hr
 obtain ⟨s0, hs0⟩ : ∃ s0, (if dIs ts 5 [40] s = true ∧ s.opn = 40 then dFail 5 s else s) = s0 := ⟨_, rfl⟩
 obtain ⟨s1, hs1⟩ : ∃ s1, dMust ts 5 [40] s0 = s1 := ⟨_, rfl⟩
 obtain ⟨s2, hs2⟩ : ∃ s2 : DS, { s1 with opn := s1.opn + 1 } = s2 := ⟨_, rfl⟩
 rw [hs0, hs1, hs2] at hr
 obtain ⟨ex, s3, hxx, hr⟩ := bindD_some hr
 obtain ⟨s4, hs4⟩ : ∃ s4 : DS, { s3 with opn := s3.opn - 1 } = s4 := ⟨_, rfl⟩
 rw [hs4] at hr
 obtain ⟨s5, hs5⟩ : ∃ s5, dMust ts 5 [41] s4 = s5 := ⟨_, rfl⟩
 rw [hs5] at hr
 injection hr with hr
 subst hr
 obtain ⟨op, hop⟩ : ∃ op, s.opn = op := ⟨_, rfl⟩
 have h01 : s0.opn = op ∧ s0.i = s.i ∧ (s1.opn + 1 ≤ 40 ∨ s1.e ≠ 0) := by
  have hm := dMust_opn ts 5 [40] s0
  rw [hs1] at hm
  by_cases c : dIs ts 5 [40] s = true ∧ s.opn = 40
  ·rw [if_pos c] at hs0
   have hf := dFail_opn 5 s
   rw [hs0] at hf
   refine ⟨by rw [hf.1, hop], hf.2.1, .inr (hm.2.2 ?_)⟩
   unfold dIs
   have : (s0.e == 0) = false := by simpa using hf.2.2 (by decide)
   rw [this]
   rfl
  ·rw [if_neg c] at hs0
   subst hs0
   refine ⟨hop, rfl, ?_⟩
   by_cases c1 : dIs ts 5 [40] s = true
   ·left
    have : s.opn ≠ 40 := fun e => c ⟨c1, e⟩
    rw [hm.1]
    omega
   ·exact .inr (hm.2.2 (by simpa using c1))
 have hm1 := dMust_opn ts 5 [40] s0
 rw [hs1] at hm1
 have hm5 := dMust_opn ts 5 [41] s4
 rw [hs5] at hm5
 have hop40 : op ≤ 40 := by omega
 have HO1 := Lib.hid (show s1.opn = op ∧ (s2.opn ≤ 40 ∨ s2.e ≠ 0) from ⟨by rw [hm1.1, h01.1], by rw [← hs2]; exact h01.2.2⟩)
 have HI := Lib.hid (And.intro (show s.i ≤ s1.i by rw [← h01.2.1]; exact hm1.2.1) (And.intro hm5 hop))
 have HS0 := Lib.hid hs0
 have HS1 := Lib.hid hs1
 have HS2 := Lib.hid hs2
 have HS4 := Lib.hid hs4
 have HS5 := Lib.hid hs5
 have HXX := Lib.hid (And.intro hxx trivial)
 have HX0 := Lib.hid hx
 have HPB := Lib.hid h.lt
 generalize hP : EndX w pb ts s (ex, s5) = P
 have HP := Lib.hid hP
 have hn1 := Bx.new w zx 30
 have b1 : Below w.heap.size w (w.alloc (.cells zx 30)) := (Below.refl _ _).alloc (Nat.le_refl _) _
 obtain ⟨w1, hw1⟩ : ∃ w1, w.alloc (.cells zx 30) = w1 := ⟨_, rfl⟩
 rw [hw1] at hn1 b1
 have HB0 := Lib.hid hn1
 have HD1 := Lib.hid ((Dp.refl h).below b1)
 have hbd : Below w.heap.size w w1 := b1
 have HDS := Lib.hid (h.below b1)
 have HSZ := Lib.hid (show w.heap.size < w1.heap.size from hn1.lt)
 unfold zx at hw1
 have HIS := Lib.hid (is_d HDS.out 5 [40] (by decide))
 clear hx h ho hxx hs0 hs1 hs2 hs4 hs5 hm1 hm5 h01 hP hn1 b1 hbd
 by_cases c : dIs ts 5 [40] s = true
 ·rw [c] at HIS
  by_cases o40 : op = 40
  ·have HS00 := Lib.hid (show dFail 5 s = s0 by rw [← HS0.out, if_pos ⟨c, by rw [HI.out.2.2, o40]⟩])
   have o40t : ((op : Int) == 40) = true := by simp; omega
   clear c o40
   go_enter Tryz.func195, Tryz.ntmps195
   go_wp2_with fail
   try go_at_call 123
   refine HIS.out.mono ?_
   rintro e2 w2 ⟨rfl, b2⟩
   have HD2 := Lib.hid (show Dp w1 w2 pb ts s from (Dp.refl HDS.out).below b2)
   obtain ⟨a2, cap2, hb2, -⟩ := HD2.out.ds.hd
   obtain ⟨⟨x0, x1, x2, x3, x4⟩, f0, f1, f2, f3, f4⟩ := hb2.five
   rw [HI.out.2.2] at x2
   have HFA := Lib.hid (fail_d HD2.out.ds 5 (by omega))
   clear b2 hb2 x0 x1 x3 x4 f0 f1 f2 f3 f4
   go_wp2_with fail
   try go_at_call 24
   refine HFA.out.mono ?_
   rintro e3 w3 ⟨rfl, b3⟩
   rw [HS00.out] at b3
   have HD3 := Lib.hid (HD2.out.trans b3)
   clear b3 x2
   have HM := Lib.hid (must_d HD3.out.ds 5 [40] (by decide))
   go_wp2_with fail
   try go_at_call 51
   refine HM.out.mono ?_
   rintro e4 w4 ⟨rfl, b4⟩
   rw [HS1.out] at b4
   have HD4 := Lib.hid (HD3.out.trans b4)
   clear b4 HM
   obtain ⟨a4, cap4, hb4, -⟩ := HD4.out.ds.hd
   obtain ⟨⟨x0, x1, x2, x3, x4⟩, f0, f1, f2, f3, f4⟩ := hb4.five
   rw [HO1.out.1] at x2
   have hput := HD4.out.ds.put s2 2 (.int .i64 ((op : Int) + 1)) (.inr (.inl ⟨rfl, by rw [← HS2.out]; show _ = Value.int .i64 ((s1.opn + 1 : Nat) : Int); rw [HO1.out.1]; rfl, by rw [← HS2.out]⟩)) (by rw [← HS2.out]; exact HD4.out.ds.ii) (by rw [← HS2.out]; show s1.opn + 1 ≤ 41; rw [HO1.out.1]; omega) (by rw [← HS2.out]; exact HD4.out.ds.ms) (by rw [← HS2.out]; exact HD4.out.ds.er)
   have HD5 := Lib.hid (HD4.out.trans hput)
   have hcx := HX0.out _ s2 0 (ex, s3) hput.ds HO1.out.2 (by omega) HXX.out.1
   have e1 : ((0 : Nat) : Int) = 0 := rfl
   rw [e1] at hcx
   have HX := Lib.hid hcx
   obtain ⟨W5, hW5⟩ : ∃ W5, w4.setCell ⟨pb, 2, none⟩ (.int .i64 ((op : Int) + 1)) = W5 := ⟨_, rfl⟩
   rw [hW5] at HX HD5
   clear hb4 x0 x1 x3 x4 f0 f1 f3 f4 hput hcx e1
   go_wp2_with fail
   try go_at_call 126
   refine HX.out.mono ?_
   rintro e6 w6 ⟨x, rfl, hxe, hxm, hd6, ho6, hi6⟩
   have HD6 := Lib.hid (HD5.out.trans hd6)
   have HXE := Lib.hid (And.intro hxe (And.intro hxm (And.intro ho6 hi6)))
   clear x2 f2 hW5 HX hxe hxm hd6 ho6 hi6
   have h8 := xbox (w1 := w6) x
   unfold zx at h8
   obtain ⟨W8, hW8⟩ : ∃ W8, st7 (w6.alloc (.cells #[.int .i64 0, .slice none 0 0, .int .i64 0, .int .i64 0, .int .i64 0, .string ⟨#[]⟩, .string ⟨#[]⟩] 30)) w6.heap.size x = W8 := ⟨_, rfl⟩
   rw [hW8] at h8
   have HD8 := Lib.hid (HD6.out.below h8.1)
   obtain ⟨a8, cap8, hb8, -⟩ := HD8.out.ds.hd
   obtain ⟨⟨x0, x1, x2, x3, x4⟩, f0, f1, f2, f3, f4⟩ := hb8.five
   have hop3 : s3.opn = op + 1 := by rw [HXE.out.2.2.1, ← HS2.out]; show s1.opn + 1 = _; rw [HO1.out.1]
   have HOP3 := Lib.hid hop3
   rw [hop3] at x2
   have e2 : ((op + 1 : Nat) : Int) = (op : Int) + 1 := rfl
   rw [e2] at x2
   have w6' : IntKind.i64.wrap ((op : Int) + 1 - 1) = (op : Int) := by rw [IntKind.wrap_i64]; omega
   have hput := HD8.out.ds.put s4 2 (.int .i64 (op : Int)) (.inr (.inl ⟨rfl, by rw [← HS4.out]; show _ = Value.int .i64 ((s3.opn - 1 : Nat) : Int); rw [HOP3.out]; rfl, by rw [← HS4.out]⟩)) (by rw [← HS4.out]; exact HD8.out.ds.ii) (by rw [← HS4.out]; show s3.opn - 1 ≤ 41; rw [HOP3.out]; omega) (by rw [← HS4.out]; exact HD8.out.ds.ms) (by rw [← HS4.out]; exact HD8.out.ds.er)
   have HD9 := Lib.hid (HD8.out.trans hput)
   obtain ⟨W9, hW9⟩ : ∃ W9, W8.setCell ⟨pb, 2, none⟩ (.int .i64 (op : Int)) = W9 := ⟨_, rfl⟩
   have hd89 := hput
   rw [hW9] at HD9 hd89
   have H8 := Lib.hid (And.intro h8 hd89)
   have HM2 := Lib.hid (must_d HD9.out.ds 5 [41] (by decide))
   clear hop3 e2 hput hb8 x0 x1 x3 x4 f0 f1 f3 f4 h8 hd89
   go_wp2_with (first | (refine wpSx rfl _ _ rfl (Bx.new w6 #[.int .i64 0, .slice none 0 0, .int .i64 0, .int .i64 0, .int .i64 0, .string ⟨#[]⟩, .string ⟨#[]⟩] 30) rfl rfl ?_; rw [hW8]))
   try go_at_call 51
   refine HM2.out.mono ?_
   rintro e10 w10 ⟨rfl, b10⟩
   rw [HS5.out] at b10
   have HD10 := Lib.hid (HD9.out.trans b10)
   have hpb6 : pb < w6.heap.size := HD6.out.ds.lt
   have hfr : Frm (PF pb) W8 w10 := H8.out.2.fr.trans b10.fr (fun k hk => .inl hk)
   have hbx : Bx w10 w6.heap.size x.encA 30 := H8.out.1.2.frm hfr (fun e => by have : w6.heap.size = pb := e; omega)
   have hxm10 : XE.Mem (GE W5.heap.size) w10 x := XE.Mem.frm hfr (fun k hk e => by have h1 : W5.heap.size ≤ k := hk; have h2 : k = pb := e; have := HD5.out.ds.lt; omega) x (XE.Mem.frm (Frm.of_below (F := fun _ => False) H8.out.1.1) (fun _ _ e => e) x HXE.out.2.1)
   have hrb : Bx w10 w.heap.size zx 30 := HB0.out.frm HD10.out.fr (fun e => by have h1 : w.heap.size = pb := e; have := HPB.out; omega)
   have hdw : Dp w w10 pb ts s5 := HD1.out.trans HD10.out
   have hfin := fin_X (s := s) HPB.out (Nat.le_of_lt HSZ.out) hrb hdw (XE.Mem.mono (fun k hk => Nat.le_trans HD5.out.fr.size hk) x hxm10) HSZ.out (by rw [HI.out.2.1.1, ← HS4.out]; show s3.opn - 1 = s.opn; rw [HOP3.out, HI.out.2.2]; omega) (by
    have h1 := HI.out.1
    have h2 := HXE.out.2.2.2
    have h3 := HI.out.2.1.2.1
    rw [← HS2.out] at h2
    rw [← HS4.out] at h3
    exact Nat.le_trans h1 (Nat.le_trans h2 h3))
   rw [HXE.out.1, HP.out] at hfin
   have HFI := Lib.hid hfin
   have HBX := Lib.hid (And.intro hbx hrb)
   clear b10 hfr hbx hxm10 hrb hdw hfin hW8 hW9 x2 f2
   go_wp2_with (first | (refine wpLx rfl _ rfl HBX.out.1 rfl ?_) | (refine wpSx rfl _ _ rfl HBX.out.2 rfl rfl ?_))
   exact ex_ret Tryz.results195 HFI.out.1 rfl rfl HFI.out.2
  ·have HS00 := Lib.hid (show s = s0 by rw [← HS0.out, if_neg (fun h => o40 (by rw [← HI.out.2.2, h.2]))])
   have o40f : ((op : Int) == 40) = false := by simp; omega
   clear c o40
   go_enter Tryz.func195, Tryz.ntmps195
   go_wp2_with fail
   try go_at_call 123
   refine HIS.out.mono ?_
   rintro e2 w2 ⟨rfl, b2⟩
   have HD2 := Lib.hid (show Dp w1 w2 pb ts s from (Dp.refl HDS.out).below b2)
   obtain ⟨a2, cap2, hb2, -⟩ := HD2.out.ds.hd
   obtain ⟨⟨x0, x1, x2, x3, x4⟩, f0, f1, f2, f3, f4⟩ := hb2.five
   rw [HI.out.2.2] at x2
   have HD3 := Lib.hid (show Dp w1 w2 pb ts s0 by rw [← HS00.out]; exact HD2.out)
   clear b2 hb2 x0 x1 x3 x4 f0 f1 f2 f3 f4
   have HM := Lib.hid (must_d HD3.out.ds 5 [40] (by decide))
   go_wp2_with fail
   try go_at_call 51
   refine HM.out.mono ?_
   rintro e4 w4 ⟨rfl, b4⟩
   rw [HS1.out] at b4
   have HD4 := Lib.hid (HD3.out.trans b4)
   clear b4 HM
   obtain ⟨a4, cap4, hb4, -⟩ := HD4.out.ds.hd
   obtain ⟨⟨x0, x1, x2, x3, x4⟩, f0, f1, f2, f3, f4⟩ := hb4.five
   rw [HO1.out.1] at x2
   have hput := HD4.out.ds.put s2 2 (.int .i64 ((op : Int) + 1)) (.inr (.inl ⟨rfl, by rw [← HS2.out]; show _ = Value.int .i64 ((s1.opn + 1 : Nat) : Int); rw [HO1.out.1]; rfl, by rw [← HS2.out]⟩)) (by rw [← HS2.out]; exact HD4.out.ds.ii) (by rw [← HS2.out]; show s1.opn + 1 ≤ 41; rw [HO1.out.1]; omega) (by rw [← HS2.out]; exact HD4.out.ds.ms) (by rw [← HS2.out]; exact HD4.out.ds.er)
   have HD5 := Lib.hid (HD4.out.trans hput)
   have hcx := HX0.out _ s2 0 (ex, s3) hput.ds HO1.out.2 (by omega) HXX.out.1
   have e1 : ((0 : Nat) : Int) = 0 := rfl
   rw [e1] at hcx
   have HX := Lib.hid hcx
   obtain ⟨W5, hW5⟩ : ∃ W5, w4.setCell ⟨pb, 2, none⟩ (.int .i64 ((op : Int) + 1)) = W5 := ⟨_, rfl⟩
   rw [hW5] at HX HD5
   clear hb4 x0 x1 x3 x4 f0 f1 f3 f4 hput hcx e1
   go_wp2_with fail
   try go_at_call 126
   refine HX.out.mono ?_
   rintro e6 w6 ⟨x, rfl, hxe, hxm, hd6, ho6, hi6⟩
   have HD6 := Lib.hid (HD5.out.trans hd6)
   have HXE := Lib.hid (And.intro hxe (And.intro hxm (And.intro ho6 hi6)))
   clear x2 f2 hW5 HX hxe hxm hd6 ho6 hi6
   have h8 := xbox (w1 := w6) x
   unfold zx at h8
   obtain ⟨W8, hW8⟩ : ∃ W8, st7 (w6.alloc (.cells #[.int .i64 0, .slice none 0 0, .int .i64 0, .int .i64 0, .int .i64 0, .string ⟨#[]⟩, .string ⟨#[]⟩] 30)) w6.heap.size x = W8 := ⟨_, rfl⟩
   rw [hW8] at h8
   have HD8 := Lib.hid (HD6.out.below h8.1)
   obtain ⟨a8, cap8, hb8, -⟩ := HD8.out.ds.hd
   obtain ⟨⟨x0, x1, x2, x3, x4⟩, f0, f1, f2, f3, f4⟩ := hb8.five
   have hop3 : s3.opn = op + 1 := by rw [HXE.out.2.2.1, ← HS2.out]; show s1.opn + 1 = _; rw [HO1.out.1]
   have HOP3 := Lib.hid hop3
   rw [hop3] at x2
   have e2 : ((op + 1 : Nat) : Int) = (op : Int) + 1 := rfl
   rw [e2] at x2
   have w6' : IntKind.i64.wrap ((op : Int) + 1 - 1) = (op : Int) := by rw [IntKind.wrap_i64]; omega
   have hput := HD8.out.ds.put s4 2 (.int .i64 (op : Int)) (.inr (.inl ⟨rfl, by rw [← HS4.out]; show _ = Value.int .i64 ((s3.opn - 1 : Nat) : Int); rw [HOP3.out]; rfl, by rw [← HS4.out]⟩)) (by rw [← HS4.out]; exact HD8.out.ds.ii) (by rw [← HS4.out]; show s3.opn - 1 ≤ 41; rw [HOP3.out]; omega) (by rw [← HS4.out]; exact HD8.out.ds.ms) (by rw [← HS4.out]; exact HD8.out.ds.er)
   have HD9 := Lib.hid (HD8.out.trans hput)
   obtain ⟨W9, hW9⟩ : ∃ W9, W8.setCell ⟨pb, 2, none⟩ (.int .i64 (op : Int)) = W9 := ⟨_, rfl⟩
   have hd89 := hput
   rw [hW9] at HD9 hd89
   have H8 := Lib.hid (And.intro h8 hd89)
   have HM2 := Lib.hid (must_d HD9.out.ds 5 [41] (by decide))
   clear hop3 e2 hput hb8 x0 x1 x3 x4 f0 f1 f3 f4 h8 hd89
   go_wp2_with (first | (refine wpSx rfl _ _ rfl (Bx.new w6 #[.int .i64 0, .slice none 0 0, .int .i64 0, .int .i64 0, .int .i64 0, .string ⟨#[]⟩, .string ⟨#[]⟩] 30) rfl rfl ?_; rw [hW8]))
   try go_at_call 51
   refine HM2.out.mono ?_
   rintro e10 w10 ⟨rfl, b10⟩
   rw [HS5.out] at b10
   have HD10 := Lib.hid (HD9.out.trans b10)
   have hpb6 : pb < w6.heap.size := HD6.out.ds.lt
   have hfr : Frm (PF pb) W8 w10 := H8.out.2.fr.trans b10.fr (fun k hk => .inl hk)
   have hbx : Bx w10 w6.heap.size x.encA 30 := H8.out.1.2.frm hfr (fun e => by have : w6.heap.size = pb := e; omega)
   have hxm10 : XE.Mem (GE W5.heap.size) w10 x := XE.Mem.frm hfr (fun k hk e => by have h1 : W5.heap.size ≤ k := hk; have h2 : k = pb := e; have := HD5.out.ds.lt; omega) x (XE.Mem.frm (Frm.of_below (F := fun _ => False) H8.out.1.1) (fun _ _ e => e) x HXE.out.2.1)
   have hrb : Bx w10 w.heap.size zx 30 := HB0.out.frm HD10.out.fr (fun e => by have h1 : w.heap.size = pb := e; have := HPB.out; omega)
   have hdw : Dp w w10 pb ts s5 := HD1.out.trans HD10.out
   have hfin := fin_X (s := s) HPB.out (Nat.le_of_lt HSZ.out) hrb hdw (XE.Mem.mono (fun k hk => Nat.le_trans HD5.out.fr.size hk) x hxm10) HSZ.out (by rw [HI.out.2.1.1, ← HS4.out]; show s3.opn - 1 = s.opn; rw [HOP3.out, HI.out.2.2]; omega) (by
    have h1 := HI.out.1
    have h2 := HXE.out.2.2.2
    have h3 := HI.out.2.1.2.1
    rw [← HS2.out] at h2
    rw [← HS4.out] at h3
    exact Nat.le_trans h1 (Nat.le_trans h2 h3))
   rw [HXE.out.1, HP.out] at hfin
   have HFI := Lib.hid hfin
   have HBX := Lib.hid (And.intro hbx hrb)
   clear b10 hfr hbx hxm10 hrb hdw hfin hW8 hW9 x2 f2
   go_wp2_with (first | (refine wpLx rfl _ rfl HBX.out.1 rfl ?_) | (refine wpSx rfl _ _ rfl HBX.out.2 rfl rfl ?_))
   exact ex_ret Tryz.results195 HFI.out.1 rfl rfl HFI.out.2
 ·have hcf : dIs ts 5 [40] s = false := by simpa using c
  rw [hcf] at HIS
  have HS00 := Lib.hid (show s = s0 by rw [← HS0.out, if_neg (fun h => c h.1)])
  clear c hcf
  go_enter Tryz.func195, Tryz.ntmps195
  go_wp2_with fail
  try go_at_call 123
  refine HIS.out.mono ?_
  rintro e2 w2 ⟨rfl, b2⟩
  have HD3 := Lib.hid (show Dp w1 w2 pb ts s0 by rw [← HS00.out]; exact (Dp.refl HDS.out).below b2)
  clear b2
  have HM := Lib.hid (must_d HD3.out.ds 5 [40] (by decide))
  go_wp2_with fail
  try go_at_call 51
  refine HM.out.mono ?_
  rintro e4 w4 ⟨rfl, b4⟩
  rw [HS1.out] at b4
  have HD4 := Lib.hid (HD3.out.trans b4)
  clear b4 HM
  obtain ⟨a4, cap4, hb4, -⟩ := HD4.out.ds.hd
  obtain ⟨⟨x0, x1, x2, x3, x4⟩, f0, f1, f2, f3, f4⟩ := hb4.five
  rw [HO1.out.1] at x2
  have hput := HD4.out.ds.put s2 2 (.int .i64 ((op : Int) + 1)) (.inr (.inl ⟨rfl, by rw [← HS2.out]; show _ = Value.int .i64 ((s1.opn + 1 : Nat) : Int); rw [HO1.out.1]; rfl, by rw [← HS2.out]⟩)) (by rw [← HS2.out]; exact HD4.out.ds.ii) (by rw [← HS2.out]; show s1.opn + 1 ≤ 41; rw [HO1.out.1]; omega) (by rw [← HS2.out]; exact HD4.out.ds.ms) (by rw [← HS2.out]; exact HD4.out.ds.er)
  have HD5 := Lib.hid (HD4.out.trans hput)
  have hcx := HX0.out _ s2 0 (ex, s3) hput.ds HO1.out.2 (by omega) HXX.out.1
  have e1 : ((0 : Nat) : Int) = 0 := rfl
  rw [e1] at hcx
  have HX := Lib.hid hcx
  obtain ⟨W5, hW5⟩ : ∃ W5, w4.setCell ⟨pb, 2, none⟩ (.int .i64 ((op : Int) + 1)) = W5 := ⟨_, rfl⟩
  rw [hW5] at HX HD5
  clear hb4 x0 x1 x3 x4 f0 f1 f3 f4 hput hcx e1
  go_wp2_with fail
  try go_at_call 126
  refine HX.out.mono ?_
  rintro e6 w6 ⟨x, rfl, hxe, hxm, hd6, ho6, hi6⟩
  have HD6 := Lib.hid (HD5.out.trans hd6)
  have HXE := Lib.hid (And.intro hxe (And.intro hxm (And.intro ho6 hi6)))
  clear x2 f2 hW5 HX hxe hxm hd6 ho6 hi6
  have h8 := xbox (w1 := w6) x
  unfold zx at h8
  obtain ⟨W8, hW8⟩ : ∃ W8, st7 (w6.alloc (.cells #[.int .i64 0, .slice none 0 0, .int .i64 0, .int .i64 0, .int .i64 0, .string ⟨#[]⟩, .string ⟨#[]⟩] 30)) w6.heap.size x = W8 := ⟨_, rfl⟩
  rw [hW8] at h8
  have HD8 := Lib.hid (HD6.out.below h8.1)
  obtain ⟨a8, cap8, hb8, -⟩ := HD8.out.ds.hd
  obtain ⟨⟨x0, x1, x2, x3, x4⟩, f0, f1, f2, f3, f4⟩ := hb8.five
  have hop3 : s3.opn = op + 1 := by rw [HXE.out.2.2.1, ← HS2.out]; show s1.opn + 1 = _; rw [HO1.out.1]
  have HOP3 := Lib.hid hop3
  rw [hop3] at x2
  have e2 : ((op + 1 : Nat) : Int) = (op : Int) + 1 := rfl
  rw [e2] at x2
  have w6' : IntKind.i64.wrap ((op : Int) + 1 - 1) = (op : Int) := by rw [IntKind.wrap_i64]; omega
  have hput := HD8.out.ds.put s4 2 (.int .i64 (op : Int)) (.inr (.inl ⟨rfl, by rw [← HS4.out]; show _ = Value.int .i64 ((s3.opn - 1 : Nat) : Int); rw [HOP3.out]; rfl, by rw [← HS4.out]⟩)) (by rw [← HS4.out]; exact HD8.out.ds.ii) (by rw [← HS4.out]; show s3.opn - 1 ≤ 41; rw [HOP3.out]; omega) (by rw [← HS4.out]; exact HD8.out.ds.ms) (by rw [← HS4.out]; exact HD8.out.ds.er)
  have HD9 := Lib.hid (HD8.out.trans hput)
  obtain ⟨W9, hW9⟩ : ∃ W9, W8.setCell ⟨pb, 2, none⟩ (.int .i64 (op : Int)) = W9 := ⟨_, rfl⟩
  have hd89 := hput
  rw [hW9] at HD9 hd89
  have H8 := Lib.hid (And.intro h8 hd89)
  have HM2 := Lib.hid (must_d HD9.out.ds 5 [41] (by decide))
  clear hop3 e2 hput hb8 x0 x1 x3 x4 f0 f1 f3 f4 h8 hd89
  go_wp2_with (first | (refine wpSx rfl _ _ rfl (Bx.new w6 #[.int .i64 0, .slice none 0 0, .int .i64 0, .int .i64 0, .int .i64 0, .string ⟨#[]⟩, .string ⟨#[]⟩] 30) rfl rfl ?_; rw [hW8]))
  try go_at_call 51
  refine HM2.out.mono ?_
  rintro e10 w10 ⟨rfl, b10⟩
  rw [HS5.out] at b10
  have HD10 := Lib.hid (HD9.out.trans b10)
  have hpb6 : pb < w6.heap.size := HD6.out.ds.lt
  have hfr : Frm (PF pb) W8 w10 := H8.out.2.fr.trans b10.fr (fun k hk => .inl hk)
  have hbx : Bx w10 w6.heap.size x.encA 30 := H8.out.1.2.frm hfr (fun e => by have : w6.heap.size = pb := e; omega)
  have hxm10 : XE.Mem (GE W5.heap.size) w10 x := XE.Mem.frm hfr (fun k hk e => by have h1 : W5.heap.size ≤ k := hk; have h2 : k = pb := e; have := HD5.out.ds.lt; omega) x (XE.Mem.frm (Frm.of_below (F := fun _ => False) H8.out.1.1) (fun _ _ e => e) x HXE.out.2.1)
  have hrb : Bx w10 w.heap.size zx 30 := HB0.out.frm HD10.out.fr (fun e => by have h1 : w.heap.size = pb := e; have := HPB.out; omega)
  have hdw : Dp w w10 pb ts s5 := HD1.out.trans HD10.out
  have hfin := fin_X (s := s) HPB.out (Nat.le_of_lt HSZ.out) hrb hdw (XE.Mem.mono (fun k hk => Nat.le_trans HD5.out.fr.size hk) x hxm10) HSZ.out (by rw [HI.out.2.1.1, ← HS4.out]; show s3.opn - 1 = s.opn; rw [HOP3.out, HI.out.2.2]; omega) (by
   have h1 := HI.out.1
   have h2 := HXE.out.2.2.2
   have h3 := HI.out.2.1.2.1
   rw [← HS2.out] at h2
   rw [← HS4.out] at h3
   exact Nat.le_trans h1 (Nat.le_trans h2 h3))
  rw [HXE.out.1, HP.out] at hfin
  have HFI := Lib.hid hfin
  have HBX := Lib.hid (And.intro hbx hrb)
  clear b10 hfr hbx hxm10 hrb hdw hfin hW8 hW9 x2 f2
  go_wp2_with (first | (refine wpLx rfl _ rfl HBX.out.1 rfl ?_) | (refine wpSx rfl _ _ rfl HBX.out.2 rfl rfl ?_))
  exact ex_ret Tryz.results195 HFI.out.1 rfl rfl HFI.out.2
end Go.Proofs.YtofnkfjhmjecjaaGreatDoor

namespace Go.Proofs.YtofnkfjhmjecjaaGreatDoor
set_option maxRecDepth 100000
open Go.RowKit Go.Joins Go.ChangeShapes Go.WideShapes
set_option linter.unusedVariables false
set_option linter.unusedSimpArgs false
/-! tokens that stand ahead of a separator -/
end Go.Proofs.YtofnkfjhmjecjaaGreatDoor
