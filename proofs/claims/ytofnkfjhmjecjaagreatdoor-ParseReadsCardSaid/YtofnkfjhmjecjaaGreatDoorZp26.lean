/-
  Texts of mine put together, in build order.
  Conditions: as each declaration says.
-/
import Derived.Deep.DeepCutAuto
import Derived.Test.YtofnkfjhmjecjaaGreatDoorZp3
import Derived.Test.YtofnkfjhmjecjaaGreatDoorZp15
import Derived.Test.YtofnkfjhmjecjaaGreatDoorZp24
import Derived.Test.YtofnkfjhmjecjaaGreatDoorZp25
namespace Go.Proofs.YtofnkfjhmjecjaaGreatDoor
set_option maxRecDepth 100000
open Go.RowKit Go.Joins Go.ChangeShapes Go.WideShapes Go.Great
set_option linter.unusedVariables false
set_option linter.unusedSimpArgs false
def dWhole (ts : List Tk) (n : Nat) (s : DS) : Option (Ex × DS) := bindD (dX ts n 0 s) fun e s1 => some (e, if s1.e = 0 ∧ s1.most < depR e then { s1 with most := depR e } else s1)
def dWhere (ts : List Tk) (n : Nat) (s : DS) : Option (Ex × DS) := if dIs ts 1 wWhere s = true then dWhole ts n s.next else some (zE, s)
def dAlias (ts : List Tk) (s : DS) : List Nat × DS := if dIs ts 1 wAs s = true then dName ts s.next else ([], s)
set_option maxHeartbeats 16000000 in
theorem whole_d {ts : List Tk} {n pb : Nat} {w : World} {s : DS} {r : Ex × DS} (h : DsM w pb ts s) (ho : s.opn ≤ 40 ∨ s.e ≠ 0) (hr : dWhole ts n s = some r) :
  Calls Tryz.prog 54 #[.pointer (some ⟨pb, 0, none⟩)] w (EndX w pb ts s r) := by
 unfold dWhole at hr
 generalize hP : EndX w pb ts s r = P
 have HP := Lib.hid hP
 have HPB := Lib.hid h.lt
 have hn1 := Bx.new w zx 30
 have b1 : Below w.heap.size w (w.alloc (.cells zx 30)) := (Below.refl _ _).alloc (Nat.le_refl _) _
 obtain ⟨w1, hw1⟩ : ∃ w1, w.alloc (.cells zx 30) = w1 := ⟨_, rfl⟩
 rw [hw1] at hn1 b1
 have HB0 := Lib.hid hn1
 have HD1 := Lib.hid ((Dp.refl h).below b1)
 have HSZ := Lib.hid (show w.heap.size < w1.heap.size from hn1.lt)
 unfold zx at hw1
 obtain ⟨ex, s1, hxx, hr⟩ := bindD_some hr
 have hr : some (ex, if s1.e = 0 ∧ s1.most < depR ex then { s1 with most := depR ex } else s1) = some r := hr
 injection hr with hr
 have HR := Lib.hid hr
 have hx1 := expr_all ts pb n n (Nat.le_refl _) w1 s 0 _ HD1.out.ds ho (by omega) hxx
 have hdp := (dX_dep ts n).1 0 s ex s1 hxx
 unfold DD at hdp
 have HDE := Lib.hid hdp
 have e0 : ((0 : Nat) : Int) = 0 := rfl
 rw [e0] at hx1
 have HX1 := Lib.hid hx1
 clear hP hn1 b1 hr hx1 hxx ho h hdp
 go_enter Tryz.func54, Tryz.ntmps54
 go_wp2_with fail
 try go_at_call 126
 refine HX1.out.mono ?_
 rintro e2 w2 ⟨x, rfl, hxe, hxm, hd2, ho2, hi2⟩
 have HOI := Lib.hid (show s1.opn = s.opn ∧ s.i ≤ s1.i from And.intro ho2 hi2)
 have HPW := Lib.hid hd2.ds.lt
 have h8 := xbox (w1 := w2) x
 unfold zx at h8
 obtain ⟨W8, hW8⟩ : ∃ W8, st7 (w2.alloc (.cells #[.int .i64 0, .slice none 0 0, .int .i64 0, .int .i64 0, .int .i64 0, .string ⟨#[]⟩, .string ⟨#[]⟩] 30)) w2.heap.size x = W8 := ⟨_, rfl⟩
 rw [hW8] at h8
 have HD8 := Lib.hid (show Dp w1 W8 pb ts s1 from hd2.below h8.1)
 have HB8 := Lib.hid h8.2
 have HXM := Lib.hid (XE.Mem.frm (Frm.of_below (F := fun _ => False) h8.1) (fun _ _ e => e) x hxm)
 have HXE := Lib.hid (show x.er = ex from hxe)
 obtain ⟨dx, hdx⟩ : ∃ dx, depR ex = dx := ⟨_, rfl⟩
 have hdl : dx ≤ 4000 := by have h1 := HDE.out; have h2 := HD8.out.ds.ii; have h3 := HD8.out.ds.ln; omega
 have HDX := Lib.hid (And.intro hdx hdl)
 have HCD := Lib.hid (fun (w' : World) (hb : Below W8.heap.size W8 w') => rdep_any (depR x.er + 1) x (Nat.lt_succ_self _) (by rw [HXE.out, hdx]; omega) (HXM.out.below hb))
 rw [HXE.out, hdx] at HCD
 clear hxe hxm hd2 ho2 hi2 h8 hdx
 obtain ⟨op1, kind1, num1, scale1, text1, qual1, a1, cap1, args1⟩ := x
 simp only [XE.val] at HCD
 obtain ⟨a8, cap8, hb8, -⟩ := HD8.out.ds.hd
 obtain ⟨⟨y0, y1, y2, y3, y4⟩, f0, f1, f2, f3, f4⟩ := hb8.five
 clear hb8 y0 y1 y2 f0 f1 f2 f3 f4
 have hbx := HB8.out
 simp only [XE.encA] at hbx
 obtain ⟨⟨q0, q1, q2, q3, q4, q5, q6⟩, -⟩ := hbx.seven
 clear hbx
 obtain ⟨m0, hm0⟩ : ∃ m0, s1.most = m0 := ⟨_, rfl⟩
 rw [hm0] at y4
 have HM0 := Lib.hid hm0
 clear hm0
 go_upto_region 2 with (first | (refine wpSx (x := (XE.mk op1 kind1 num1 scale1 text1 qual1 a1 cap1 args1)) rfl _ _ rfl (Bx.new w2 #[.int .i64 0, .slice none 0 0, .int .i64 0, .int .i64 0, .int .i64 0, .string ⟨#[]⟩, .string ⟨#[]⟩] 30) rfl rfl ?_; rw [hW8]))
 try simp only [Act.put]
 by_cases he : s1.e = 0
 case neg =>
  have q : ((s1.e : Int) == 0) = false := by simp; omega
  have hr := HR.out
  rw [if_neg (fun h => he h.1)] at hr
  have HRR := Lib.hid hr
  clear hr HR he q0 q1 q2 q3 q4 q5 q6 y4 HCD
  go_quiet (fail)
  all_goals
   have HQ := Lib.hid (fun q : Nat => show Below W8.heap.size W8 (W8.drewN q) from ⟨rfl, rfl, rfl, Nat.le_refl _, fun _ _ => rfl⟩)
   generalize hwq : W8.drewN _ = wq
   have b0 : Below W8.heap.size W8 wq := by rw [← hwq]; exact HQ.out _
   have HBQ := Lib.hid (HB8.out.below b0)
   have HDQ := Lib.hid (HD8.out.below b0)
   have hrb : Bx wq w.heap.size zx 30 := HB0.out.frm HDQ.out.fr (fun e => by have h1 : w.heap.size = pb := e; have := HPB.out; omega)
   have hfin := fin_X (s := s) (x := (XE.mk op1 kind1 num1 scale1 text1 qual1 a1 cap1 args1)) HPB.out (Nat.le_of_lt HSZ.out) hrb (HD1.out.trans HDQ.out) (HXM.out.below b0) HSZ.out HOI.out.1 HOI.out.2
   rw [HXE.out, HRR.out, HP.out] at hfin
   have HFI := Lib.hid hfin
   have HRB := Lib.hid hrb
   clear hrb hfin b0 hwq
   go_wp2_with (first | (refine wpLx (x := (XE.mk op1 kind1 num1 scale1 text1 qual1 a1 cap1 args1)) rfl _ rfl HBQ.out rfl ?_; unfold XE.val) | (refine wpSx (x := (XE.mk op1 kind1 num1 scale1 text1 qual1 a1 cap1 args1)) rfl _ _ rfl HRB.out rfl rfl ?_))
   exact ex_ret Tryz.results54 HFI.out.1 rfl rfl HFI.out.2
 have HE := Lib.hid he
 rw [he] at y3
 have hml : m0 ≤ 4294967296 := by rw [← HM0.out]; exact HD8.out.ds.ms
 have HCW := Lib.hid (HCD.out W8.drew (Below.refl _ _).drew)
 go_cut [19] (fun q wx => q = .bool (decide (m0 < dx)) ∧ Hid (Below W8.heap.size W8 wx))
 case first =>
  go_region_with (first | (go_at_call 34; refine HCW.out.mono ?_; rintro e w3 ⟨rfl, b3⟩; have b3' : Below W8.heap.size W8 w3 := (Below.refl _ _).drew.trans b3; have HB3 := Lib.hid b3'; obtain ⟨a9, cap9, hb9, -⟩ := (HD8.out.ds.below b3').hd; obtain ⟨⟨-, -, -, v3, v4⟩, -⟩ := hb9.five; rw [HM0.out] at v4; rw [HE.out] at v3; clear hb9 b3 b3'))
  all_goals
   go_wp2_with fail
   go_meet
   exact ⟨by simp, Lib.hid HB3.out⟩
 case rest =>
  obtain ⟨rfl, hcb⟩ := hcut
  have HBc := Lib.hid hcb.out
  have HBX := Lib.hid (HB8.out.below hcb.out)
  have HDc := Lib.hid (HD8.out.below hcb.out)
  have HXc := Lib.hid (HXM.out.below hcb.out)
  clear q0 q1 q2 q3 q4 q5 q6 y3 y4 hcb
  by_cases c : m0 < dx
  ·have qd : decide (m0 < dx) = true := by simp; omega
   have hr := HR.out
   rw [if_pos ⟨HE.out, by rw [HM0.out, HDX.out.1]; exact c⟩, HDX.out.1] at hr
   have HRR := Lib.hid hr
   rw [qd]
   have HC2 := Lib.hid (HCD.out wc HBc.out)
   clear hr HR c qd
   go_wp2_with (first | (refine wpLx (x := (XE.mk op1 kind1 num1 scale1 text1 qual1 a1 cap1 args1)) rfl _ rfl HBX.out rfl ?_; unfold XE.val))
   try go_at_call 34
   refine HC2.out.mono ?_
   rintro e5 w5 ⟨rfl, b5⟩
   have HB5 := Lib.hid (HBX.out.below b5)
   have HD5 := Lib.hid (HDc.out.below b5)
   have HX5 := Lib.hid (HXc.out.below b5)
   obtain ⟨a9, cap9, hb9, -⟩ := HD5.out.ds.hd
   obtain ⟨⟨v0, v1, v2, v3, v4⟩, f0, f1, f2, f3, f4⟩ := hb9.five
   have hput := HD5.out.ds.put { s1 with most := dx } 4 (.int .i64 (dx : Int)) (.inr (.inr (.inr ⟨rfl, rfl, rfl⟩))) HD5.out.ds.ii HD5.out.ds.on (by show dx ≤ _; omega) HD5.out.ds.er
   obtain ⟨W9, hW9⟩ : ∃ W9, w5.setCell ⟨pb, 4, none⟩ (.int .i64 (dx : Int)) = W9 := ⟨_, rfl⟩
   rw [hW9] at hput
   have HB9 := Lib.hid (HB5.out.frm hput.fr (fun e => by have h1 : w2.heap.size = pb := e; have := HPW.out; omega))
   have HD9 := Lib.hid (HD5.out.trans hput)
   have hx9 := XE.Mem.frm hput.fr (fun k hk e => by have h1 : w1.heap.size ≤ k := hk; have h2 : k = pb := e; have := HD1.out.ds.lt; omega) _ HX5.out
   have hrb : Bx W9 w.heap.size zx 30 := HB0.out.frm HD9.out.fr (fun e => by have h1 : w.heap.size = pb := e; have := HPB.out; omega)
   have hfin := fin_X (s := s) (x := (XE.mk op1 kind1 num1 scale1 text1 qual1 a1 cap1 args1)) HPB.out (Nat.le_of_lt HSZ.out) hrb (HD1.out.trans HD9.out) hx9 HSZ.out HOI.out.1 HOI.out.2
   rw [HXE.out, HRR.out, HP.out] at hfin
   have HFI := Lib.hid hfin
   have HRB := Lib.hid hrb
   clear hrb hfin hx9 hput hb9 v0 v1 v2 v3 f0 f1 f2 f3 b5
   go_wp2_with (first | (refine wpLx (x := (XE.mk op1 kind1 num1 scale1 text1 qual1 a1 cap1 args1)) rfl _ rfl HB9.out rfl ?_; unfold XE.val) | (refine wpSx (x := (XE.mk op1 kind1 num1 scale1 text1 qual1 a1 cap1 args1)) rfl _ _ rfl HRB.out rfl rfl ?_))
   exact ex_ret Tryz.results54 HFI.out.1 rfl rfl HFI.out.2
  ·have qd : decide (m0 < dx) = false := by simp; omega
   have hr := HR.out
   rw [if_neg (fun h => c (by have h1 := h.2; rw [HM0.out, HDX.out.1] at h1; exact h1))] at hr
   have HRR := Lib.hid hr
   rw [qd]
   have hrb : Bx wc w.heap.size zx 30 := HB0.out.frm HDc.out.fr (fun e => by have h1 : w.heap.size = pb := e; have := HPB.out; omega)
   have hfin := fin_X (s := s) (x := (XE.mk op1 kind1 num1 scale1 text1 qual1 a1 cap1 args1)) HPB.out (Nat.le_of_lt HSZ.out) hrb (HD1.out.trans HDc.out) HXc.out HSZ.out HOI.out.1 HOI.out.2
   rw [HXE.out, HRR.out, HP.out] at hfin
   have HFI := Lib.hid hfin
   have HRB := Lib.hid hrb
   clear hrb hfin hr HR c qd
   go_wp2_with (first | (refine wpLx (x := (XE.mk op1 kind1 num1 scale1 text1 qual1 a1 cap1 args1)) rfl _ rfl HBX.out rfl ?_; unfold XE.val) | (refine wpSx (x := (XE.mk op1 kind1 num1 scale1 text1 qual1 a1 cap1 args1)) rfl _ _ rfl HRB.out rfl rfl ?_))
   exact ex_ret Tryz.results54 HFI.out.1 rfl rfl HFI.out.2
end Go.Proofs.YtofnkfjhmjecjaaGreatDoor

namespace Go.Proofs.YtofnkfjhmjecjaaGreatDoor
set_option maxRecDepth 100000
open Go.RowKit Go.Joins Go.ChangeShapes Go.WideShapes Go.Great
set_option linter.unusedVariables false
set_option linter.unusedSimpArgs false
set_option maxHeartbeats 8000000 in
theorem where_d {ts : List Tk} {n pb : Nat} {w : World} {s : DS} {r : Ex × DS} (h : DsM w pb ts s) (ho : s.opn ≤ 40 ∨ s.e ≠ 0) (hr : dWhere ts n s = some r) :
  Calls Tryz.prog 56 #[.pointer (some ⟨pb, 0, none⟩)] w (EndX w pb ts s r) := by
 unfold dWhere at hr
 generalize hP : EndX w pb ts s r = P
 have HP := Lib.hid hP
 have HPB := Lib.hid h.lt
 have hn1 := Bx.new w zx 30
 have b1 : Below w.heap.size w (w.alloc (.cells zx 30)) := (Below.refl _ _).alloc (Nat.le_refl _) _
 obtain ⟨w1, hw1⟩ : ∃ w1, w.alloc (.cells zx 30) = w1 := ⟨_, rfl⟩
 rw [hw1] at hn1 b1
 have HB0 := Lib.hid hn1
 have HD1 := Lib.hid ((Dp.refl h).below b1)
 have HSZ := Lib.hid (show w.heap.size < w1.heap.size from hn1.lt)
 unfold zx at hw1
 have HG := Lib.hid (got_d HD1.out.ds 1 wWhere (by decide))
 clear hP hn1 b1 h
 by_cases c : dIs ts 1 wWhere s = true
 ·rw [if_pos c] at hr
  rw [dGot_yes c] at HG
  have hon : s.next.opn ≤ 40 ∨ s.next.e ≠ 0 := ho
  have HW := Lib.hid (fun (wv : World) (hd : DsM wv pb ts s.next) => whole_d hd hon hr)
  clear c hr hon ho
  go_enter Tryz.func56, Tryz.ntmps56
  go_wp2_with fail
  try go_at_call 48
  refine HG.out.mono ?_
  rintro e2 w2 ⟨rfl, b2⟩
  have HL2 := Lib.hid b2
  have HX := Lib.hid (HW.out w2 b2.ds)
  clear b2
  go_wp2_with fail
  try go_at_call 54
  refine HX.out.mono ?_
  rintro e3 w3 ⟨x, rfl, hxe, hxm, hd3, ho3, hi3⟩
  have HL3 := Lib.hid (HL2.out.trans hd3)
  have hrb : Bx w3 w.heap.size zx 30 := HB0.out.frm HL3.out.fr (fun e => by have h1 : w.heap.size = pb := e; have := HPB.out; omega)
  have hfin := fin_X (s := s) (x := x) HPB.out (Nat.le_of_lt HSZ.out) hrb (HD1.out.trans HL3.out) (XE.Mem.mono (fun k hk => Nat.le_trans HL2.out.fr.size hk) x hxm) HSZ.out ho3 (Nat.le_trans (Nat.le_succ _) hi3)
  rw [hxe, HP.out] at hfin
  have HFI := Lib.hid hfin
  have HRB := Lib.hid hrb
  clear hrb hfin hxe hxm hd3 ho3 hi3
  go_wp2_with (first | (refine wpSx (x := x) rfl _ _ rfl HRB.out rfl rfl ?_))
  exact ex_ret Tryz.results56 HFI.out.1 rfl rfl HFI.out.2
 ·rw [if_neg c] at hr
  injection hr with hr
  have HRR := Lib.hid hr
  rw [dGot_no (show dIs ts 1 wWhere s = false by simpa using c)] at HG
  clear c hr ho
  go_enter Tryz.func56, Tryz.ntmps56
  go_wp2_with fail
  try go_at_call 48
  refine HG.out.mono ?_
  rintro e2 w2 ⟨rfl, b2⟩
  have hrb : Bx w2 w.heap.size zx 30 := HB0.out.frm b2.fr (fun e => by have h1 : w.heap.size = pb := e; have := HPB.out; omega)
  have hfin := fin_X (s := s) (x := (XE.mk 0 0 0 0 ⟨#[]⟩ ⟨#[]⟩ none 0 [])) HPB.out (Nat.le_of_lt HSZ.out) hrb (HD1.out.trans b2) (XE.Mem.leaf (GE w1.heap.size) _ _ _ _ _ _ _) HSZ.out rfl (Nat.le_refl _)
  rw [er0, HRR.out, HP.out] at hfin
  have HFI := Lib.hid hfin
  have HRB := Lib.hid hrb
  clear hrb hfin b2
  go_wp2_with (first | (refine wpSx (x := (XE.mk 0 0 0 0 ⟨#[]⟩ ⟨#[]⟩ none 0 [])) rfl _ _ rfl HRB.out rfl rfl ?_))
  exact ex_ret Tryz.results56 HFI.out.1 rfl rfl HFI.out.2
theorem dAlias_opn (ts : List Tk) (s : DS) : (dAlias ts s).2.opn = s.opn ∧ s.i ≤ (dAlias ts s).2.i := by
 unfold dAlias
 by_cases c : dIs ts 1 wAs s = true
 ·rw [if_pos c]; exact ⟨(dName_opn ts s.next).1, Nat.le_trans (Nat.le_succ _) (dName_opn ts s.next).2⟩
 ·rw [if_neg c]; exact ⟨rfl, Nat.le_refl _⟩
set_option maxHeartbeats 8000000 in
theorem alias_d {ts : List Tk} {pb : Nat} {w : World} {s : DS} (h : DsM w pb ts s) :
  Calls Tryz.prog 125 #[.pointer (some ⟨pb, 0, none⟩)] w fun e w' => e = .returned (.string (strB (dAlias ts s).1)) ∧ Dp w w' pb ts (dAlias ts s).2 := by
 obtain ⟨R, hR⟩ : ∃ R, dAlias ts s = R := ⟨_, rfl⟩
 rw [hR]
 generalize hP : (fun (e : Ending) (w' : World) => e = .returned (.string (strB R.1)) ∧ Dp w w' pb ts R.2) = P
 have HP := Lib.hid hP
 have HG := Lib.hid (got_d h 1 wAs (by decide))
 unfold dAlias at hR
 clear hP
 by_cases c : dIs ts 1 wAs s = true
 ·rw [if_pos c] at hR
  rw [dGot_yes c] at HG
  have HR := Lib.hid hR
  clear c hR h
  go_enter Tryz.func125, Tryz.ntmps125
  go_wp2_with fail
  try go_at_call 48
  refine HG.out.mono ?_
  rintro e2 w2 ⟨rfl, b2⟩
  have HL2 := Lib.hid b2
  have hn := name_d b2.ds
  rw [HR.out] at hn
  have HN := Lib.hid hn
  clear b2 hn
  go_wp2_with fail
  try go_at_call 50
  refine HN.out.mono ?_
  rintro e3 w3 ⟨rfl, b3⟩
  have HF := Lib.hid (show P (.returned (.string (strB R.1))) w3 by rw [← HP.out]; exact ⟨rfl, HL2.out.trans b3⟩)
  clear b3
  go_wp2_with fail
  exact HF.out
 ·rw [if_neg c] at hR
  rw [dGot_no (show dIs ts 1 wAs s = false by simpa using c)] at HG
  subst hR
  clear c h
  go_enter Tryz.func125, Tryz.ntmps125
  go_wp2_with fail
  try go_at_call 48
  refine HG.out.mono ?_
  rintro e2 w2 ⟨rfl, b2⟩
  have HF := Lib.hid (show P (.returned (.string ⟨#[]⟩)) w2 by rw [← HP.out]; exact ⟨rfl, b2⟩)
  clear b2
  go_wp2_with fail
  exact HF.out
end Go.Proofs.YtofnkfjhmjecjaaGreatDoor

namespace Go.Proofs.YtofnkfjhmjecjaaGreatDoor
set_option maxRecDepth 100000
set_option linter.unusedVariables false
set_option linter.unusedSimpArgs false
def bindO {α β : Type} (x : Option (α × DS)) (f : α → DS → Option (β × DS)) : Option (β × DS) := match x with
 | none => none
 | some (a, s) => f a s
structure Rd2 (ts : List Tk) {α : Type} (f : PS → RX α) (F : Nat → DS → Option (α × DS)) : Prop where
 ok : ∀ s d r, SR ts s d → f s = some r → Ev ts (fun m => F m d) r
 idle : ∀ d, d.e ≠ 0 → ∃ q, q.2.e = d.e ∧ ∃ K, ∀ m, K ≤ m → F m d = some q
theorem Rd2.bind {ts : List Tk} {α β : Type} {f : PS → RX α} {F : Nat → DS → Option (α × DS)} {g : α → PS → RX β} {G : Nat → α → DS → Option (β × DS)} (h : Rd2 ts f F) (hg : ∀ a, Rd2 ts (g a) (fun m => G m a)) :
  Rd2 ts (fun s => bindR (f s) g) (fun m d => bindO (F m d) (G m)) := by
 constructor
 ·intro s d r hs hr
  rcases bindR_cases hr with ⟨c, h1, rfl⟩ | ⟨a, s1, h1, h2⟩
  ·obtain ⟨N, q, ⟨h3, h4⟩, hN⟩ := h.ok _ _ _ hs h1
   obtain ⟨q2, h6, K, hK⟩ := (hg q.1).idle q.2 (by rw [h3]; exact h4)
   refine ⟨max N K, q2, ⟨by rw [h6, h3], h4⟩, fun m hm => ?_⟩
   show bindO (F m d) (G m) = some q2
   rw [show F m d = some q from hN m (by omega)]
   exact hK m (by omega)
  ·obtain ⟨N, q, ⟨h3, h4⟩, hN⟩ := h.ok _ _ _ hs h1
   obtain ⟨N2, q2, h5, hN2⟩ := (hg a).ok _ _ _ h4 h2
   refine ⟨max N N2, q2, h5, fun m hm => ?_⟩
   show bindO (F m d) (G m) = some q2
   rw [show F m d = some q from hN m (by omega)]
   show G m q.1 q.2 = some q2
   rw [h3]
   exact hN2 m (by omega)
 ·intro d hd
  obtain ⟨q, h1, K, hK⟩ := h.idle d hd
  obtain ⟨q2, h2, K2, hK2⟩ := (hg q.1).idle q.2 (by rw [h1]; exact hd)
  refine ⟨q2, by rw [h2, h1], max K K2, fun m hm => ?_⟩
  show bindO (F m d) (G m) = some q2
  rw [hK m (by omega)]
  exact hK2 m (by omega)
theorem Rd2.ret {ts : List Tk} {α : Type} (a : α) : Rd2 ts (retR a) (fun _ d => some (a, d)) :=
 ⟨fun s d r hs hr => by (injection hr with hr; subst hr; exact Ev.of (a, d) 0 (fun m _ => rfl) ⟨rfl, hs⟩), fun d _ => ⟨(a, d), rfl, 0, fun m _ => rfl⟩⟩
theorem dName_idle {ts : List Tk} {d : DS} (h : d.e ≠ 0) : dName ts d = ([], d) := by
 unfold dName dNm
 rw [if_neg h]
 show ([], dFail 130 d) = _
 rw [dFail_idle h]
theorem Rd2.name {ts : List Tk} (hT : ∀ t ∈ ts, TG t) : Rd2 ts (nameP isN) (fun _ d => some (dName ts d)) := by
 refine ⟨fun s d r hs hr => ?_, fun d h => ⟨dName ts d, by rw [dName_idle h], 0, fun m _ => rfl⟩⟩
 have hr2 : bindR (nameP isN s) retR = some r := by
  rw [hr]
  cases r with
  | error c => rfl
  | ok x => rfl
 rcases name_agree hT hs hr2 with ⟨w, g1, g2, g3⟩ | ⟨rfl, g2, g3⟩
 ·injection g3 with g3
  subst g3
  exact Ev.of _ 0 (fun m _ => rfl) ⟨g2, g1⟩
 ·exact Ev.of _ 0 (fun m _ => rfl) ⟨by rw [g2]; exact g3, by decide⟩
theorem Rd2.need {ts : List Tk} (hT : ∀ t ∈ ts, TG t) {k : Nat} {w : List Nat} (hk : KW k w) : Rd2 ts (needP w) (fun _ d => some ((), dMust ts k w d)) := by
 refine ⟨fun s d r hs hr => ?_, fun d h => ⟨((), d), rfl, 0, fun m _ => by rw [dMust_idle h]⟩⟩
 have hr2 : bindR (needP w s) retR = some r := by
  rw [hr]
  cases r with
  | error c => rfl
  | ok x => rfl
 rcases need_agree hT hs hk hr2 with ⟨g1, g3⟩ | ⟨rfl, g2⟩
 ·injection g3 with g3
  subst g3
  exact Ev.of _ 0 (fun m _ => rfl) ⟨rfl, g1⟩
 ·exact Ev.of _ 0 (fun m _ => rfl) ⟨g2, by decide⟩
theorem Rd2.ite {ts : List Tk} (hT : ∀ t ∈ ts, TG t) {k : Nat} {w : List Nat} (hk : KW k w) {α : Type} {f g : PS → RX α} {F G : Nat → DS → Option (α × DS)} (h : Rd2 ts f F) (h' : Rd2 ts g G) :
  Rd2 ts (fun s => if atP w s = true then f s.next else g s) (fun m d => if dIs ts k w d = true then F m d.next else G m d) := by
 constructor
 ·intro s d r hs hr
  have hat := at_is hT hs hk
  try dsimp only at hr
  by_cases c : atP w s = true
  ·rw [if_pos c] at hr
   rw [c] at hat
   obtain ⟨N, q, ha, hN⟩ := h.ok _ _ _ hs.next hr
   exact ⟨N, q, ha, fun m hm => by (try dsimp only); rw [if_pos hat]; exact hN m hm⟩
  ·rw [if_neg c] at hr
   obtain ⟨N, q, ha, hN⟩ := h'.ok _ _ _ hs hr
   exact ⟨N, q, ha, fun m hm => by (try dsimp only); rw [if_neg (by rw [hat]; exact c)]; exact hN m hm⟩
 ·intro d hd
  obtain ⟨q, h1, K, hK⟩ := h'.idle d hd
  exact ⟨q, h1, K, fun m hm => by (try dsimp only); rw [if_neg (by rw [dIs_idle hd]; decide)]; exact hK m hm⟩
theorem Rd2.whole {ts : List Tk} (hT : ∀ t ∈ ts, TG t) (n : Nat) : Rd2 ts (wholeP isN n) (dWhole ts) := by
 constructor
 ·intro s d r hs hr
  rcases bindR_cases hr with ⟨c, h1, rfl⟩ | ⟨a, s1, h1, h2⟩
  ·obtain ⟨N, q, ⟨h3, h4⟩, hN⟩ := (bridge hT n).1 0 (by omega) _ _ _ hs h1
   refine ⟨N, (q.1, q.2), ⟨h3, h4⟩, fun m hm => ?_⟩
   show dWhole ts m d = _
   unfold dWhole
   rw [show dX ts m 0 d = some q from hN m hm]
   show some (q.1, if q.2.e = 0 ∧ _ then _ else q.2) = _
   rw [if_neg (fun g => h4 (by rw [← h3]; exact g.1))]
  ·obtain ⟨N, q, ⟨h3, h4⟩, hN⟩ := (bridge hT n).1 0 (by omega) _ _ _ hs h1
   injection h2 with h2
   subst h2
   refine ⟨N, (a, { q.2 with most := max q.2.most (depR a) }), ⟨rfl, h4.rest, h4.opn, h4.e, by show max s1.deep _ = max _ _; rw [h4.deep], h4.le⟩, fun m hm => ?_⟩
   show dWhole ts m d = _
   unfold dWhole
   rw [show dX ts m 0 d = some q from hN m hm]
   show some (q.1, if q.2.e = 0 ∧ q.2.most < depR q.1 then { q.2 with most := depR q.1 } else q.2) = _
   rw [h3]
   by_cases c : q.2.most < depR a
   ·rw [if_pos ⟨h4.e, c⟩, show max q.2.most (depR a) = depR a by omega]
   ·rw [if_neg (fun g => c g.2), show max q.2.most (depR a) = q.2.most by omega]
 ·intro d hd
  refine ⟨(zE, d), rfl, 1, fun m hm => ?_⟩
  show dWhole ts m d = _
  unfold dWhole
  rw [show m = m - 1 + 1 by omega, dX_idle hd]
  show some (zE, if d.e = 0 ∧ _ then _ else d) = _
  rw [if_neg (fun g => hd g.1)]
theorem Rd2.whr {ts : List Tk} (hT : ∀ t ∈ ts, TG t) (n : Nat) : Rd2 ts (whereP isN n) (dWhere ts) :=
 Rd2.ite hT (.inl ⟨rfl, _, _, rfl, by decide⟩) (Rd2.whole hT n) (Rd2.ret zE)
theorem Rd2.als {ts : List Tk} (hT : ∀ t ∈ ts, TG t) : Rd2 ts (aliasP isN) (fun _ d => some (dAlias ts d)) := by
 have h := Rd2.ite hT (k := 1) (w := wAs) (.inl ⟨rfl, _, _, rfl, by decide⟩) (Rd2.name hT) (Rd2.ret [])
 have e : (fun (_ : Nat) d => some (dAlias ts d)) = fun (m : Nat) d => if dIs ts 1 wAs d = true then some (dName ts d.next) else some ([], d) := by
  funext m d
  unfold dAlias
  by_cases c : dIs ts 1 wAs d = true
  ·rw [if_pos c, if_pos c]
  ·rw [if_neg c, if_neg c]
 rw [e]
 exact h
def dLs (ts : List Tk) {α : Type} (one : DS → Option (α × DS)) (most : Nat) : Nat → List α → DS → Option (List α × DS)
 | 0, _, _ => none
 | m + 1, acc, s => if s.e ≠ 0 then some (acc, s) else bindO (one s) fun a s1 =>
  if (dMore ts (acc.length + 1) most s1).1 = true then dLs ts one most m (acc ++ [a]) (dMore ts (acc.length + 1) most s1).2 else some (acc ++ [a], (dMore ts (acc.length + 1) most s1).2)
theorem dMore_idle {ts : List Tk} {n most : Nat} {d : DS} (h : d.e ≠ 0) : dMore ts n most d = (false, d) := by unfold dMore; rw [if_neg (by rw [dIs_idle h]; decide)]
theorem dLs_step {ts : List Tk} {α : Type} (one : DS → Option (α × DS)) (most m : Nat) (acc : List α) {s : DS} (h : s.e = 0) : dLs ts one most (m + 1) acc s = bindO (one s) fun a s1 =>
  if (dMore ts (acc.length + 1) most s1).1 = true then dLs ts one most m (acc ++ [a]) (dMore ts (acc.length + 1) most s1).2 else some (acc ++ [a], (dMore ts (acc.length + 1) most s1).2) := by rw [dLs, if_neg (fun g => g h)]
theorem ls_agree {ts : List Tk} (hT : ∀ t ∈ ts, TG t) {α : Type} {f : PS → RX α} {F : Nat → DS → Option (α × DS)} (h : Rd2 ts f F) {most : Nat} : ∀ (n : Nat) (acc : List α) (s : PS) (d : DS) (r : Except Nat (List α × PS)), acc.length ≤ most → SR ts s d → lsP f most n acc s = some r →
  ∃ N q, Agree ts r q ∧ ∀ m k, N ≤ m → N ≤ k → (if (dMore ts acc.length most d).1 = true then dLs ts (F m) most k acc (dMore ts acc.length most d).2 else some (acc, (dMore ts acc.length most d).2)) = some q
 | 0, acc, s, d, r, _, _, hr => by rw [lsP] at hr; cases hr
 | n + 1, acc, s, d, r, hl, hs, hr => by
  rw [lsP] at hr
  have hat := at_is hT hs (k := 5) (w := [44]) (.inr ⟨rfl, _, _, rfl, by decide⟩)
  by_cases c : atP [44] s = true
  ·rw [if_pos c] at hr
   rw [c] at hat
   by_cases cl : acc.length < most
   ·rw [if_pos cl] at hr
    have hM : dMore ts acc.length most d = (true, d.next) := by unfold dMore; rw [if_pos hat, if_neg (by omega)]
    rcases bindR_cases hr with ⟨c1, h1, rfl⟩ | ⟨a, s1, h1, h2⟩
    ·obtain ⟨N, q, ⟨h3, h4⟩, hN⟩ := h.ok _ _ _ hs.next h1
     refine ⟨N + 1, (acc ++ [q.1], q.2), ⟨h3, h4⟩, fun m k hm hk => ?_⟩
     rw [hM, if_pos rfl, show k = k - 1 + 1 by omega, dLs_step _ _ _ _ (show d.next.e = 0 from hs.e), show F m d.next = some q from hN m (by omega)]
     show (if (dMore ts (acc.length + 1) most q.2).1 = true then _ else some (acc ++ [q.1], (dMore ts (acc.length + 1) most q.2).2)) = _
     rw [dMore_idle (by rw [h3]; exact h4)]
     rfl
    ·obtain ⟨N, q, ⟨h3, h4⟩, hN⟩ := h.ok _ _ _ hs.next h1
     obtain ⟨N2, q2, h5, hN2⟩ := ls_agree hT h n (acc ++ [a]) s1 q.2 r (by simp; omega) h4 h2
     refine ⟨max N N2 + 1, q2, h5, fun m k hm hk => ?_⟩
     rw [hM, if_pos rfl, show k = k - 1 + 1 by omega, dLs_step _ _ _ _ (show d.next.e = 0 from hs.e), show F m d.next = some q from hN m (by omega)]
     have := hN2 m (k - 1) (by omega) (by omega)
     rw [List.length_append] at this
     rw [← h3] at this
     exact this
   ·rw [if_neg cl] at hr
    injection hr with hr
    subst hr
    have hM : dMore ts acc.length most d = (false, dFail 151 d) := by unfold dMore; rw [if_pos hat, if_pos (by omega)]
    exact ⟨0, (acc, dFail 151 d), ⟨dFail_e hs.e, by decide⟩, fun m k _ _ => by rw [hM]; rfl⟩
  ·rw [if_neg c] at hr
   injection hr with hr
   subst hr
   have hM : dMore ts acc.length most d = (false, d) := by unfold dMore; rw [if_neg (by rw [hat]; exact c)]
   exact ⟨0, (acc, d), ⟨rfl, hs⟩, fun m k _ _ => by rw [hM]; rfl⟩
theorem Rd2.list {ts : List Tk} (hT : ∀ t ∈ ts, TG t) {α : Type} {f : PS → RX α} {F : Nat → DS → Option (α × DS)} (h : Rd2 ts f F) {most n : Nat} (h1 : 1 ≤ most) : Rd2 ts (listP f most n) (fun m d => dLs ts (F m) most m [] d) := by
 constructor
 ·intro s d r hs hr
  rcases bindR_cases hr with ⟨c1, h2, rfl⟩ | ⟨a, s1, h2, h3⟩
  ·obtain ⟨N, q, ⟨h3, h4⟩, hN⟩ := h.ok _ _ _ hs h2
   refine ⟨N + 1, ([q.1], q.2), ⟨h3, h4⟩, fun m hm => ?_⟩
   try dsimp only
   obtain ⟨k, hk⟩ : ∃ k, m = k + 1 := ⟨m - 1, by omega⟩
   have hq := hN m (by omega)
   try dsimp only at hq
   generalize F m = G at hq ⊢
   rw [hk, dLs_step _ _ _ _ hs.e, hq]
   show (if (dMore ts (0 + 1) most q.2).1 = true then _ else some ([] ++ [q.1], (dMore ts (0 + 1) most q.2).2)) = _
   rw [dMore_idle (by rw [h3]; exact h4)]
   rfl
  ·obtain ⟨N, q, ⟨h4, h5⟩, hN⟩ := h.ok _ _ _ hs h2
   obtain ⟨N2, q2, h6, hN2⟩ := ls_agree hT h n [a] s1 q.2 r (by simpa using h1) h5 h3
   refine ⟨max N N2 + 1, q2, h6, fun m hm => ?_⟩
   try dsimp only
   obtain ⟨k, hk⟩ : ∃ k, m = k + 1 := ⟨m - 1, by omega⟩
   have hq := hN m (by omega)
   have hq2 := hN2 m k (by omega) (by omega)
   try dsimp only at hq
   generalize F m = G at hq hq2 ⊢
   rw [hk, dLs_step _ _ _ _ hs.e, hq]
   rw [← h4] at hq2
   exact hq2
 ·intro d hd
  refine ⟨([], d), rfl, 1, fun m hm => ?_⟩
  try dsimp only
  obtain ⟨k, hk⟩ : ∃ k, m = k + 1 := ⟨m - 1, by omega⟩
  generalize F m = G
  rw [hk, dLs, if_pos hd]
end Go.Proofs.YtofnkfjhmjecjaaGreatDoor

namespace Go.Proofs.YtofnkfjhmjecjaaGreatDoor
set_option maxRecDepth 100000
set_option linter.unusedVariables false
set_option linter.unusedSimpArgs false
section
variable (ts : List Tk)
def dNeed (k : Nat) (w : List Nat) (d : DS) : Option (Unit × DS) := some ((), dMust ts k w d)
def dType (d : DS) : Nat × DS := if dIs ts 1 wBool d = true then (1, d.next) else if dIs ts 1 wInt d = true then (2, d.next) else if dIs ts 1 wReal d = true then (3, d.next) else if dIs ts 1 wText d = true then (4, d.next) else (0, dFail 130 d)
def dCol (d : DS) : Option (Co × DS) := bindO (some (dName ts d)) fun c d1 => bindO (some (dType ts d1)) fun t d2 =>
 if dIs ts 1 wNot d2 = true then bindO (dNeed ts 1 wNull d2.next) fun _ d3 => some (⟨c, t, true⟩, d3) else some (⟨c, t, false⟩, d2)
def dItem (m : Nat) (d : DS) : Option (Ite × DS) := bindO (dWhole ts m d) fun e d1 => bindO (some (dAlias ts d1)) fun a d2 => some (⟨e, a⟩, d2)
def dSource (d : DS) : Option (Src × DS) := bindO (some (dName ts d)) fun t d1 => bindO (some (dAlias ts d1)) fun a d2 => some (⟨t, a, zE⟩, d2)
def dSort (m : Nat) (d : DS) : Option (Srt × DS) := bindO (dWhole ts m d) fun e d1 => bindO (some (dGot ts 1 wDesc d1)) fun b d2 => some (⟨e, b⟩, d2)
def dSet (m : Nat) (d : DS) : Option (Se × DS) := bindO (some (dName ts d)) fun c d1 => bindO (dNeed ts 5 [61] d1) fun _ d2 => bindO (dWhole ts m d2) fun e d3 => some (⟨c, e⟩, d3)
def dEncl {α : Type} (one : DS → Option (α × DS)) (most m : Nat) (d : DS) : Option (List α × DS) := bindO (dNeed ts 5 [40] d) fun _ d1 => bindO (dLs ts one most m [] d1) fun l d2 => bindO (dNeed ts 5 [41] d2) fun _ d3 => some (l, d3)
def dCreate (m : Nat) (d : DS) : Option (Stm × DS) :=
 if dIs ts 1 wTable d = true then bindO (some (dName ts d.next)) fun t d1 => bindO (dEncl ts (dCol ts) 16 m d1) fun c d2 => some ({ kind := 1, table := t, cols := c }, d2)
 else bindO (some (dGot ts 1 wUnique d)) fun u d0 => bindO (dNeed ts 1 wIndex d0) fun _ d1 => bindO (some (dName ts d1)) fun i d2 => bindO (dNeed ts 1 wOn d2) fun _ d3 => bindO (some (dName ts d3)) fun t d4 =>
  bindO (dEncl ts (fun d => some (dName ts d)) 4 m d4) fun c d5 => some ({ kind := 3, table := t, index := i, names := c, uniq := u }, d5)
def dDrop (d : DS) : Option (Stm × DS) :=
 if dIs ts 1 wTable d = true then bindO (some (dName ts d.next)) fun t d1 => some ({ kind := 2, table := t }, d1)
 else bindO (dNeed ts 1 wIndex d) fun _ d1 => bindO (some (dName ts d1)) fun i d2 => some ({ kind := 4, index := i }, d2)
def dInsert (m : Nat) (d : DS) : Option (Stm × DS) := bindO (dNeed ts 1 wInto d) fun _ d1 => bindO (some (dName ts d1)) fun t d2 => bindO (dNeed ts 1 wValues d2) fun _ d3 =>
 bindO (dLs ts (dEncl ts (dWhole ts m) 50 m) 50 m [] d3) fun r d4 => some ({ kind := 5, table := t, rows := r }, d4)
def dUpdate (m : Nat) (d : DS) : Option (Stm × DS) := bindO (some (dName ts d)) fun t d1 => bindO (dNeed ts 1 wSet d1) fun _ d2 => bindO (dLs ts (dSet ts m) 50 m [] d2) fun x d3 => bindO (dWhere ts m d3) fun w d4 =>
 some ({ kind := 7, table := t, sets := x, whr := w }, d4)
def dDelete (m : Nat) (d : DS) : Option (Stm × DS) := bindO (dNeed ts 1 wFrom d) fun _ d1 => bindO (some (dName ts d1)) fun t d2 => bindO (dWhere ts m d2) fun w d3 => some ({ kind := 8, table := t, whr := w }, d3)
def dItems (m : Nat) (d : DS) : Option (List Ite × DS) := if dIs ts 5 [42] d = true then some ([], d.next) else dLs ts (dItem ts m) 50 m [] d
def dOrder (m : Nat) (d : DS) : Option (List Srt × DS) := if dIs ts 1 wOrder d = true then bindO (dNeed ts 1 wBy d.next) fun _ d1 => dLs ts (dSort ts m) 50 m [] d1 else some ([], d)
end
section
variable {ts : List Tk} (hT : ∀ t ∈ ts, TG t)
include hT
theorem Rd2.got {k : Nat} {w : List Nat} (hk : KW k w) : Rd2 ts (fun s => retR (gotP w s).1 (gotP w s).2) (fun _ d => some (dGot ts k w d)) := by
 refine ⟨fun s d r hs hr => ?_, fun d h => ⟨(false, d), rfl, 0, fun m _ => by rw [dGot_no (dIs_idle h)]⟩⟩
 have hat := at_is hT hs hk
 injection hr with hr
 subst hr
 unfold gotP
 by_cases c : atP w s = true
 ·rw [if_pos c]
  rw [c] at hat
  exact Ev.of _ 0 (fun m _ => by rw [dGot_yes hat]) ⟨rfl, hs.next⟩
 ·rw [if_neg c]
  exact Ev.of _ 0 (fun m _ => by rw [dGot_no (show dIs ts k w d = false by rw [hat]; simpa using c)]) ⟨rfl, hs⟩
theorem Rd2.type : Rd2 ts typeP (fun _ d => some (dType ts d)) := by
 refine ⟨fun s d r hs hr => ?_, fun d h => ⟨(0, d), rfl, 0, fun m _ => by unfold dType; rw [dIs_idle h, dIs_idle h, dIs_idle h, dIs_idle h, dFail_idle h]; rfl⟩⟩
 have hb := at_is hT hs (k := 1) (w := wBool) (.inl ⟨rfl, _, _, rfl, by decide⟩)
 have hi := at_is hT hs (k := 1) (w := wInt) (.inl ⟨rfl, _, _, rfl, by decide⟩)
 have hr1 := at_is hT hs (k := 1) (w := wReal) (.inl ⟨rfl, _, _, rfl, by decide⟩)
 have ht := at_is hT hs (k := 1) (w := wText) (.inl ⟨rfl, _, _, rfl, by decide⟩)
 unfold typeP at hr
 have key : ∀ (x : Nat × DS), dType ts d = x → Agree ts r x → Ev ts (fun m => some (dType ts d)) r := fun x hx ha => Ev.of x 0 (fun m _ => by rw [hx]) ha
 by_cases c1 : atP wInt s = true
 ·rw [if_pos c1] at hr
  injection hr with hr
  subst hr
  have o := at_other c1 (w' := wBool) (by decide)
  exact key (2, d.next) (by unfold dType; rw [hb, hi, o, c1]; rfl) ⟨rfl, hs.next⟩
 rw [if_neg c1] at hr
 by_cases c2 : atP wReal s = true
 ·rw [if_pos c2] at hr
  injection hr with hr
  subst hr
  have o := at_other c2 (w' := wBool) (by decide)
  have o2 := at_other c2 (w' := wInt) (by decide)
  exact key (3, d.next) (by unfold dType; rw [hb, hi, hr1, o, o2, c2]; rfl) ⟨rfl, hs.next⟩
 rw [if_neg c2] at hr
 by_cases c3 : atP wBool s = true
 ·rw [if_pos c3] at hr
  injection hr with hr
  subst hr
  exact key (1, d.next) (by unfold dType; rw [hb, c3]; rfl) ⟨rfl, hs.next⟩
 rw [if_neg c3] at hr
 have n1 : atP wInt s = false := by simpa using c1
 have n2 : atP wReal s = false := by simpa using c2
 have n3 : atP wBool s = false := by simpa using c3
 unfold needP at hr
 by_cases c4 : atP wText s = true
 ·rw [if_pos c4] at hr
  injection hr with hr
  subst hr
  exact key (4, d.next) (by unfold dType; rw [hb, hi, hr1, ht, n1, n2, n3, c4]; rfl) ⟨rfl, hs.next⟩
 ·rw [if_neg c4] at hr
  injection hr with hr
  subst hr
  have n4 : atP wText s = false := by simpa using c4
  exact key (0, dFail 130 d) (by unfold dType; rw [hb, hi, hr1, ht, n1, n2, n3, n4]; rfl) ⟨dFail_e hs.e, by decide⟩
theorem Rd2.col : Rd2 ts (colP isN) (fun _ => dCol ts) := (Rd2.name hT).bind fun c => (Rd2.type hT).bind fun t => Rd2.ite hT (.inl ⟨rfl, _, _, rfl, by decide⟩) ((Rd2.need hT (.inl ⟨rfl, _, _, rfl, by decide⟩)).bind fun _ => Rd2.ret _) (Rd2.ret _)
theorem Rd2.item (n : Nat) : Rd2 ts (itemP isN n) (dItem ts) := (Rd2.whole hT n).bind fun e => (Rd2.als hT).bind fun a => Rd2.ret _
theorem Rd2.source : Rd2 ts (sourceP isN) (fun _ => dSource ts) := (Rd2.name hT).bind fun t => (Rd2.als hT).bind fun a => Rd2.ret _
theorem Rd2.sort (n : Nat) : Rd2 ts (sortP isN n) (dSort ts) := (Rd2.whole hT n).bind fun e => (Rd2.got hT (k := 1) (w := wDesc) (.inl ⟨rfl, _, _, rfl, by decide⟩)).bind fun b => Rd2.ret _
theorem Rd2.set (n : Nat) : Rd2 ts (setP isN n) (dSet ts) := (Rd2.name hT).bind fun c => (Rd2.need hT (.inr ⟨rfl, _, _, rfl, by decide⟩)).bind fun _ => (Rd2.whole hT n).bind fun e => Rd2.ret _
theorem Rd2.encl {α : Type} {f : PS → RX α} {F : Nat → DS → Option (α × DS)} (h : Rd2 ts f F) {most n : Nat} (h1 : 1 ≤ most) : Rd2 ts (enclP f most n) (fun m => dEncl ts (F m) most m) :=
 (Rd2.need hT (.inr ⟨rfl, _, _, rfl, by decide⟩)).bind fun _ => (Rd2.list hT h h1).bind fun l => (Rd2.need hT (.inr ⟨rfl, _, _, rfl, by decide⟩)).bind fun _ => Rd2.ret _
theorem Rd2.create (n : Nat) : Rd2 ts (createP isN n) (dCreate ts) :=
 Rd2.ite hT (k := 1) (w := wTable) (.inl ⟨rfl, _, _, rfl, by decide⟩) ((Rd2.name hT).bind fun t => (Rd2.encl hT (Rd2.col hT) (by decide)).bind fun c => Rd2.ret _)
  (Rd2.bind (g := fun u s => bindR (needP wIndex s) fun _ s1 => bindR (nameP isN s1) fun i s2 => bindR (needP wOn s2) fun _ s3 => bindR (nameP isN s3) fun t s4 => bindR (enclP (nameP isN) 4 n s4) fun c s5 =>
    retR ({ kind := 3, table := t, index := i, names := c, uniq := u } : Stm) s5) (Rd2.got hT (k := 1) (w := wUnique) (.inl ⟨rfl, _, _, rfl, by decide⟩)) fun u => (Rd2.need hT (k := 1) (w := wIndex) (.inl ⟨rfl, _, _, rfl, by decide⟩)).bind fun _ => (Rd2.name hT).bind fun i => (Rd2.need hT (k := 1) (w := wOn) (.inl ⟨rfl, _, _, rfl, by decide⟩)).bind fun _ =>
   (Rd2.name hT).bind fun t => (Rd2.encl hT (Rd2.name hT) (most := 4) (n := n) (by decide)).bind fun c => Rd2.ret _)
theorem Rd2.drop : Rd2 ts (dropP isN) (fun _ => dDrop ts) :=
 Rd2.ite hT (k := 1) (w := wTable) (.inl ⟨rfl, _, _, rfl, by decide⟩) ((Rd2.name hT).bind fun t => Rd2.ret _) ((Rd2.need hT (.inl ⟨rfl, _, _, rfl, by decide⟩)).bind fun _ => (Rd2.name hT).bind fun i => Rd2.ret _)
theorem Rd2.insert (n : Nat) : Rd2 ts (insertP isN n) (dInsert ts) :=
 (Rd2.need hT (.inl ⟨rfl, _, _, rfl, by decide⟩)).bind fun _ => (Rd2.name hT).bind fun t => (Rd2.need hT (.inl ⟨rfl, _, _, rfl, by decide⟩)).bind fun _ => (Rd2.list hT (Rd2.encl hT (Rd2.whole hT n) (by decide)) (by decide)).bind fun r => Rd2.ret _
theorem Rd2.update (n : Nat) : Rd2 ts (updateP isN n) (dUpdate ts) :=
 (Rd2.name hT).bind fun t => (Rd2.need hT (.inl ⟨rfl, _, _, rfl, by decide⟩)).bind fun _ => (Rd2.list hT (Rd2.set hT n) (by decide)).bind fun x => (Rd2.whr hT n).bind fun w => Rd2.ret _
theorem Rd2.delete (n : Nat) : Rd2 ts (deleteP isN n) (dDelete ts) := (Rd2.need hT (.inl ⟨rfl, _, _, rfl, by decide⟩)).bind fun _ => (Rd2.name hT).bind fun t => (Rd2.whr hT n).bind fun w => Rd2.ret _
theorem Rd2.items (n : Nat) : Rd2 ts (itemsP isN n) (dItems ts) := Rd2.ite hT (.inr ⟨rfl, _, _, rfl, by decide⟩) (Rd2.ret []) (Rd2.list hT (Rd2.item hT n) (by decide))
theorem Rd2.order (n : Nat) : Rd2 ts (orderP isN n) (dOrder ts) := Rd2.ite hT (k := 1) (w := wOrder) (.inl ⟨rfl, _, _, rfl, by decide⟩) ((Rd2.need hT (.inl ⟨rfl, _, _, rfl, by decide⟩)).bind fun _ => Rd2.list hT (Rd2.sort hT n) (by decide)) (Rd2.ret [])
end
end Go.Proofs.YtofnkfjhmjecjaaGreatDoor

namespace Go.Proofs.YtofnkfjhmjecjaaGreatDoor
set_option maxRecDepth 100000
set_option linter.unusedVariables false
set_option linter.unusedSimpArgs false
section
variable (ts : List Tk)
def dMoreSrc (m : Nat) (d : DS) : Option (Src × DS) := bindO (some (dGot ts 1 wInner d)) fun _ d0 => bindO (dNeed ts 1 wJoin d0) fun _ d1 => bindO (dSource ts d1) fun x d2 => bindO (dNeed ts 1 wOn d2) fun _ d3 => bindO (dWhole ts m d3) fun e d4 => some ({ x with on_ := e }, d4)
def dSrcs (m : Nat) : Nat → List Src → DS → Option (List Src × DS)
 | 0, _, _ => none
 | k + 1, acc, d => if dIs ts 1 wInner d = true ∨ dIs ts 1 wJoin d = true then (if acc.length = 4 then some (acc, dFail 151 d) else bindO (dMoreSrc ts m d) fun x d1 => dSrcs m k (acc ++ [x]) d1) else some (acc, d)
def dQuery (m : Nat) (d : DS) : Option (Stm × DS) := bindO (dItems ts m d) fun i d1 => bindO (dNeed ts 1 wFrom d1) fun _ d2 => bindO (dSource ts d2) fun f d3 => bindO (dSrcs ts m m [f] d3) fun fs d4 => bindO (dWhere ts m d4) fun w d5 => bindO (dOrder ts m d5) fun o d6 =>
 some ({ kind := 6, items := i, src := fs, whr := w, order := o }, d6)
def dLast (d : DS) : Option (Stm × DS) := if dIs ts 1 wRollback d = true then some ({ kind := 11 }, d.next) else some ({ kind := 0 }, dFail 130 d)
def dStmt (m : Nat) (d : DS) : Option (Stm × DS) :=
 if dIs ts 1 wCreate d = true then dCreate ts m d.next else if dIs ts 1 wDrop d = true then dDrop ts d.next else if dIs ts 1 wInsert d = true then dInsert ts m d.next
 else if dIs ts 1 wSelect d = true then dQuery ts m d.next else if dIs ts 1 wUpdate d = true then dUpdate ts m d.next else if dIs ts 1 wDelete d = true then dDelete ts m d.next
 else if dIs ts 1 wBegin d = true then some ({ kind := 9 }, d.next) else if dIs ts 1 wCommit d = true then some ({ kind := 10 }, d.next) else dLast ts d
def dEnd1 (d : DS) : DS := if d.e = 0 ∧ d.i < ts.length then dFail 130 d else d
def dEnd2 (d : DS) : DS := if 40 < d.most then dFail 5 d else d
def dEnd (q : Stm × DS) : Stm × Nat := if (dEnd2 (dEnd1 ts q.2)).e ≠ 0 then ({ kind := 0 }, (dEnd2 (dEnd1 ts q.2)).e) else (q.1, 0)
def dParse (m : Nat) : Option (Stm × Nat) := match dStmt ts m ⟨0, 0, 0, 0⟩ with
 | none => none
 | some q => some (dEnd ts q)
end
section
variable {ts : List Tk} (hT : ∀ t ∈ ts, TG t)
include hT
theorem Rd2.moreSrc (n : Nat) : Rd2 ts (moreSrc isN n) (dMoreSrc ts) :=
 Rd2.bind (g := fun _ s => bindR (needP wJoin s) fun _ s1 => bindR (sourceP isN s1) fun x s2 => bindR (needP wOn s2) fun _ s3 => bindR (wholeP isN n s3) fun e s4 => retR ({ x with on_ := e } : Src) s4) (Rd2.got hT (k := 1) (w := wInner) (.inl ⟨rfl, _, _, rfl, by decide⟩)) fun _ =>
  (Rd2.need hT (k := 1) (w := wJoin) (.inl ⟨rfl, _, _, rfl, by decide⟩)).bind fun _ => (Rd2.source hT).bind fun x => (Rd2.need hT (k := 1) (w := wOn) (.inl ⟨rfl, _, _, rfl, by decide⟩)).bind fun _ => (Rd2.whole hT n).bind fun e => Rd2.ret _
theorem srcs_agree (n0 : Nat) : ∀ (n : Nat) (acc : List Src) (s : PS) (d : DS) (r : Except Nat (List Src × PS)), acc.length ≤ 4 → SR ts s d → sourcesP isN n0 n acc s = some r →
  ∃ N q, Agree ts r q ∧ ∀ m k, N ≤ m → N ≤ k → dSrcs ts m k acc d = some q
 | 0, acc, s, d, r, _, _, hr => by rw [sourcesP] at hr; cases hr
 | n + 1, acc, s, d, r, hl, hs, hr => by
  rw [sourcesP_eq] at hr
  have h1 := at_is hT hs (k := 1) (w := wInner) (.inl ⟨rfl, _, _, rfl, by decide⟩)
  have h2 := at_is hT hs (k := 1) (w := wJoin) (.inl ⟨rfl, _, _, rfl, by decide⟩)
  have hS : ∀ m k, dSrcs ts m (k + 1) acc d = if atP wInner s = true ∨ atP wJoin s = true then (if acc.length = 4 then some (acc, dFail 151 d) else bindO (dMoreSrc ts m d) fun x d1 => dSrcs ts m k (acc ++ [x]) d1) else some (acc, d) := fun m k => by rw [dSrcs, h1, h2]
  by_cases c : atP wInner s = true ∨ atP wJoin s = true
  ·rw [if_pos c] at hr
   by_cases cl : acc.length < 4
   ·rw [if_pos cl] at hr
    have hS2 : ∀ m k, dSrcs ts m (k + 1) acc d = bindO (dMoreSrc ts m d) fun x d1 => dSrcs ts m k (acc ++ [x]) d1 := fun m k => by rw [hS, if_pos c, if_neg (by omega)]
    rcases bindR_cases hr with ⟨c1, h3, rfl⟩ | ⟨a, s1, h3, h4⟩
    ·obtain ⟨N, q, ⟨h5, h6⟩, hN⟩ := (Rd2.moreSrc hT n0).ok _ _ _ hs h3
     refine ⟨N + 2, (acc ++ [q.1], q.2), ⟨h5, h6⟩, fun m k hm hk => ?_⟩
     obtain ⟨k, rfl⟩ : ∃ k', k = k' + 1 + 1 := ⟨k - 2, by omega⟩
     rw [hS2, show dMoreSrc ts m d = some q from hN m (by omega)]
     show dSrcs ts m (k + 1) (acc ++ [q.1]) q.2 = _
     have he : q.2.e ≠ 0 := by rw [h5]; exact h6
     rw [dSrcs, dIs_idle he, dIs_idle he]
     rfl
    ·obtain ⟨N, q, ⟨h5, h6⟩, hN⟩ := (Rd2.moreSrc hT n0).ok _ _ _ hs h3
     obtain ⟨N2, q2, h7, hN2⟩ := srcs_agree n0 n (acc ++ [a]) s1 q.2 r (by simp; omega) h6 h4
     refine ⟨max N N2 + 1, q2, h7, fun m k hm hk => ?_⟩
     obtain ⟨k, rfl⟩ : ∃ k', k = k' + 1 := ⟨k - 1, by omega⟩
     rw [hS2, show dMoreSrc ts m d = some q from hN m (by omega)]
     show dSrcs ts m k (acc ++ [q.1]) q.2 = _
     rw [h5]
     exact hN2 m k (by omega) (by omega)
   ·rw [if_neg cl] at hr
    injection hr with hr
    subst hr
    refine ⟨1, (acc, dFail 151 d), ⟨dFail_e hs.e, by decide⟩, fun m k _ hk => ?_⟩
    obtain ⟨k, rfl⟩ : ∃ k', k = k' + 1 := ⟨k - 1, by omega⟩
    rw [hS, if_pos c, if_pos (by omega)]
  ·rw [if_neg c] at hr
   injection hr with hr
   subst hr
   refine ⟨1, (acc, d), ⟨rfl, hs⟩, fun m k _ hk => ?_⟩
   obtain ⟨k, rfl⟩ : ∃ k', k = k' + 1 := ⟨k - 1, by omega⟩
   rw [hS, if_neg c]
theorem Rd2.srcs (n : Nat) (f : Src) : Rd2 ts (sourcesP isN n n [f]) (fun m => dSrcs ts m m [f]) := by
 refine ⟨fun s d r hs hr => ?_, fun d hd => ⟨([f], d), rfl, 1, fun m hm => ?_⟩⟩
 ·obtain ⟨N, q, ha, hN⟩ := srcs_agree hT n n [f] s d r (by simp) hs hr
  exact ⟨N, q, ha, fun m hm => hN m m hm hm⟩
 ·obtain ⟨k, hk⟩ : ∃ k, m = k + 1 := ⟨m - 1, by omega⟩
  show dSrcs ts m m [f] d = _
  have : ∀ m', dSrcs ts m' (k + 1) [f] d = some ([f], d) := fun m' => by rw [dSrcs, dIs_idle hd, dIs_idle hd]; rfl
  have h2 := this m
  rwa [← hk] at h2
theorem Rd2.query (n : Nat) : Rd2 ts (queryP isN n) (dQuery ts) :=
 (Rd2.items hT n).bind fun i => (Rd2.need hT (k := 1) (w := wFrom) (.inl ⟨rfl, _, _, rfl, by decide⟩)).bind fun _ => (Rd2.source hT).bind fun f => (Rd2.srcs hT n f).bind fun fs => (Rd2.whr hT n).bind fun w => (Rd2.order hT n).bind fun o => Rd2.ret _
theorem Rd2.last : Rd2 ts (fun s => bindR (needP wRollback s) fun _ s1 => retR ({ kind := 11 } : Stm) s1) (fun _ => dLast ts) := by
 refine ⟨fun s d r hs hr => ?_, fun d hd => ⟨({ kind := 0 }, d), rfl, 0, fun m _ => by unfold dLast; rw [if_neg (by rw [dIs_idle hd]; decide), dFail_idle hd]⟩⟩
 have hat := at_is hT hs (k := 1) (w := wRollback) (.inl ⟨rfl, _, _, rfl, by decide⟩)
 unfold needP at hr
 by_cases c : atP wRollback s = true
 ·rw [if_pos c] at hr
  injection hr with hr
  subst hr
  exact Ev.of ({ kind := 11 }, d.next) 0 (fun m _ => by unfold dLast; rw [if_pos (by rw [hat]; exact c)]) ⟨rfl, hs.next⟩
 ·rw [if_neg c] at hr
  injection hr with hr
  subst hr
  exact Ev.of ({ kind := 0 }, dFail 130 d) 0 (fun m _ => by unfold dLast; rw [if_neg (by rw [hat]; exact c)]) ⟨dFail_e hs.e, by decide⟩
theorem Rd2.stmt (n : Nat) : Rd2 ts (stmtP isN n) (dStmt ts) :=
 Rd2.ite hT (k := 1) (w := wCreate) (.inl ⟨rfl, _, _, rfl, by decide⟩) (Rd2.create hT n) (Rd2.ite hT (k := 1) (w := wDrop) (.inl ⟨rfl, _, _, rfl, by decide⟩) (Rd2.drop hT) (Rd2.ite hT (k := 1) (w := wInsert) (.inl ⟨rfl, _, _, rfl, by decide⟩) (Rd2.insert hT n)
  (Rd2.ite hT (k := 1) (w := wSelect) (.inl ⟨rfl, _, _, rfl, by decide⟩) (Rd2.query hT n) (Rd2.ite hT (k := 1) (w := wUpdate) (.inl ⟨rfl, _, _, rfl, by decide⟩) (Rd2.update hT n) (Rd2.ite hT (k := 1) (w := wDelete) (.inl ⟨rfl, _, _, rfl, by decide⟩) (Rd2.delete hT n)
   (Rd2.ite hT (k := 1) (w := wBegin) (.inl ⟨rfl, _, _, rfl, by decide⟩) (Rd2.ret _) (Rd2.ite hT (k := 1) (w := wCommit) (.inl ⟨rfl, _, _, rfl, by decide⟩) (Rd2.ret _) (Rd2.last hT))))))))
theorem parse_agree {n : Nat} {r : Except Nat Stm} (hr : parseP isN n ts = some r) : ∃ N, ∀ m, N ≤ m → dParse ts m = some (match r with
  | .ok st => (st, 0)
  | .error c => ({ kind := 0 }, c)) := by
 unfold parseP at hr
 have h0 : SR ts ⟨ts, 0, 0⟩ ⟨0, 0, 0, 0⟩ := ⟨rfl, rfl, rfl, rfl, (by show 0 ≤ 40; omega)⟩
 have five : ∀ d : DS, d.e ≠ 0 → dEnd2 (dEnd1 ts d) = d := fun d hd => by
  have h1 : dEnd1 ts d = d := by unfold dEnd1; rw [if_neg (fun g => hd g.1)]
  rw [h1]
  unfold dEnd2
  by_cases c : 40 < d.most
  ·rw [if_pos c, dFail_idle hd]
  ·rw [if_neg c]
 cases hst : stmtP isN n ⟨ts, 0, 0⟩ with
 | none => rw [hst] at hr; cases hr
 | some x =>
  obtain ⟨N, q, ha, hN⟩ := (Rd2.stmt hT n).ok _ _ _ h0 hst
  refine ⟨N, fun m hm => ?_⟩
  unfold dParse
  rw [show dStmt ts m ⟨0, 0, 0, 0⟩ = some q from hN m hm]
  show some (dEnd ts q) = _
  rw [hst] at hr
  match x, ha, hr with
  | .error c, ha, hr =>
   injection hr with hr
   subst hr
   have he : q.2.e ≠ 0 := by rw [ha.1]; exact ha.2
   unfold dEnd
   rw [five _ he, if_pos he, ha.1]
  | .ok (st, s), ha, hr =>
   obtain ⟨h1, h2⟩ := ha
   dsimp only at hr
   unfold dEnd
   by_cases c : s.rest = []
   ·rw [if_pos c] at hr
    have hi : ¬ q.2.i < ts.length := fun g => by
     have h3 := h2.rest
     rw [c] at h3
     have h4 := congrArg List.length h3
     rw [List.length_drop] at h4
     simp at h4
     omega
    have h3 : dEnd1 ts q.2 = q.2 := by unfold dEnd1; rw [if_neg (fun g => hi g.2)]
    rw [h3]
    by_cases c2 : s.deep ≤ 40
    ·rw [if_pos c2] at hr
     injection hr with hr
     subst hr
     have h4 : dEnd2 q.2 = q.2 := by unfold dEnd2; rw [if_neg (by rw [← h2.deep]; omega)]
     rw [h4, if_neg (fun g => g h2.e), h1]
    ·rw [if_neg c2] at hr
     injection hr with hr
     subst hr
     have h4 : (dEnd2 q.2).e = 5 := by unfold dEnd2; rw [if_pos (by rw [← h2.deep]; omega)]; exact dFail_e h2.e
     rw [h4]
     rfl
   ·rw [if_neg c] at hr
    injection hr with hr
    subst hr
    have hi : q.2.i < ts.length := by
     rcases Nat.lt_or_ge q.2.i ts.length with g | g
     ·exact g
     ·exact absurd (by rw [h2.rest, List.drop_eq_nil_of_le g]) c
    have h3 : dEnd1 ts q.2 = dFail 130 q.2 := by unfold dEnd1; rw [if_pos ⟨h2.e, hi⟩]
    have h5 : (dFail 130 q.2).e = 130 := dFail_e h2.e
    have h4 : (dEnd2 (dFail 130 q.2)).e = 130 := by
     unfold dEnd2
     by_cases c2 : 40 < (dFail 130 q.2).most
     ·rw [if_pos c2, dFail_idle (by rw [h5]; decide)]; exact h5
     ·rw [if_neg c2]; exact h5
    rw [h3, h4]
    rfl
end
end Go.Proofs.YtofnkfjhmjecjaaGreatDoor

namespace Go.Proofs.YtofnkfjhmjecjaaGreatDoor
set_option maxRecDepth 100000
open Go.RowKit Go.Joins Go.ChangeShapes Go.WideShapes Go.Great
set_option linter.unusedVariables false
set_option linter.unusedSimpArgs false
theorem wpSv {ops : Array Oper} {rest : List Oper} {o : Oper} {a : Act} {w : World} {Q : Exit → Act → World → Prop} (hgd : o.guard = none) (p v : Operand) (ho : o.op = .store 34 p v) {g : Nat} {cs : Array Value} {x : XSt} (hb : Bx w g cs 34) (hcs : cs.size = 18) (hp : a.eval p = .pointer (some ⟨g, 0, none⟩)) (hv : a.eval v = x.val)
  (h : ∀ wz, Frm (fun k => k = g) w wz → Bx wz g x.enc.toArray 34 → wpList Tryz.prog ops Q rest (a.put o.dst undef) wz) : wpList Tryz.prog ops Q (o :: rest) a w := by
 obtain ⟨wz, hst, hf, hz⟩ := st_V hb hcs x
 exact wpList_plain hgd fun _ hK => by
  unfold Oper.wp execOp
  simp only [ho, hp, hv, Sem.run_bind, Sem.run_pure, Result.andThen_ok, hst]
  exact hK _ _ (h wz hf hz)
theorem wpLv {ops : Array Oper} {rest : List Oper} {o : Oper} {a : Act} {w : World} {Q : Exit → Act → World → Prop} (hgd : o.guard = none) (p : Operand) (ho : o.op = .load 34 p) {g : Nat} {x : XSt} (hb : Bx w g x.enc.toArray 34) (hp : a.eval p = .pointer (some ⟨g, 0, none⟩))
  (h : wpList Tryz.prog ops Q rest (a.put o.dst x.val) w) : wpList Tryz.prog ops Q (o :: rest) a w := by
 have hld := ld_V hb
 exact wpList_plain hgd fun _ hK => by
  unfold Oper.wp execOp
  simp only [ho, hp, Sem.run_bind, Sem.run_pure, Result.andThen_ok, hld]
  exact hK _ _ h
end Go.Proofs.YtofnkfjhmjecjaaGreatDoor
