/-
  Texts of mine put together, in build order.
  Conditions: as each declaration says.
-/
import Derived.Test.YtofnkfjhmjecjaaGreatDoorZp8
namespace Go.Proofs.YtofnkfjhmjecjaaGreatDoor
set_option maxRecDepth 100000
open Go.RowKit Go.Joins Go.ChangeShapes Go.WideShapes
set_option linter.unusedVariables false
set_option linter.unusedSimpArgs false
def wordX (n : Nat) (tx : List Nat) (s1 : PS) : RX Ex :=
 if tx = wNull then retR (cst 0 0 0 ⟨#[]⟩) s1
 else if tx = wFalse then retR (cst 1 0 0 ⟨#[]⟩) s1
 else if tx = wTrue then retR (cst 1 1 0 ⟨#[]⟩) s1
 else if tx = wNan then retR (cst 3 0 (-1) ⟨#[]⟩) s1
 else if tx = wInf then retR (cst 3 0 (-2) ⟨#[]⟩) s1
 else if tx = wInt then bindR (needP [40] s1) fun _ s2 => bindR (px isN n 8 s2) fun e s3 => retR (mk1 14 e) s3
 else if tx = wReal then bindR (needP [40] s1) fun _ s2 => bindR (px isN n 8 s2) fun e s3 => retR (mk1 15 e) s3
 else if isN tx = true then
  (if atP [46] s1 = true then bindR (nameP isN s1.next) fun c s2 => retR (.mk 22 0 0 0 (strB c) (strB tx) []) s2
  else retR (.mk 22 0 0 0 (strB tx) ⟨#[]⟩ []) s1)
 else failR 130
theorem Hd.leaf {w w1 w2 : World} {pb : Nat} {s s' : PS} (h : Hd w w1 pb s) (h2 : Stp w1 w2 pb s') (op kind num scale : Int) (text qual : ByteArray) :
  Bx (st7 w2 w.heap.size (.mk op kind num scale text qual none 0 [])) w.heap.size (XE.encA (.mk op kind num scale text qual none 0 [])) 30 ∧ EndP w pb (RX1 w.heap.size) (.ok (.mk op kind num scale text qual [], s')) (.returned (XE.val (.mk op kind num scale text qual none 0 []))) (st7 w2 w.heap.size (.mk op kind num scale text qual none 0 [])) := by
 have := h.fin h2 (.mk op kind num scale text qual none 0 []) (XE.Mem.leaf _ _ _ _ _ _ _ _)
 simp only [XE.er, XE.erL] at this
 exact this
theorem lit_ne {tx wd : List Nat} {l : List UInt8} (hq : l = (strB wd).toList) (h1 : ∀ x ∈ tx, x < 256) (h2 : ∀ x ∈ wd, x < 256) (h : ¬ tx = wd) : ((strB tx).toList == l) = false := by
 subst hq
 rw [txt_eq h1 h2]
 simp [h]
theorem lit_eq {wd : List Nat} {l : List UInt8} (hq : l = (strB wd).toList) : ((strB wd).toList == l) = true := by subst hq; simp
theorem lnull : ([110, 117, 108, 108] : List UInt8) = (strB wNull).toList := by rw [ByteArray.toList_eq]; rfl
theorem lfalse : ([102, 97, 108, 115, 101] : List UInt8) = (strB wFalse).toList := by rw [ByteArray.toList_eq]; rfl
theorem ltrue : ([116, 114, 117, 101] : List UInt8) = (strB wTrue).toList := by rw [ByteArray.toList_eq]; rfl
theorem lnan : ([110, 97, 110] : List UInt8) = (strB wNan).toList := by rw [ByteArray.toList_eq]; rfl
theorem linfinity : ([105, 110, 102, 105, 110, 105, 116, 121] : List UInt8) = (strB wInf).toList := by rw [ByteArray.toList_eq]; rfl
theorem lint : ([105, 110, 116] : List UInt8) = (strB wInt).toList := by rw [ByteArray.toList_eq]; rfl
theorem lreal : ([114, 101, 97, 108] : List UInt8) = (strB wReal).toList := by rw [ByteArray.toList_eq]; rfl
theorem qdot : (⟨#[46]⟩ : ByteArray) = strB [46] := by rfl
theorem qopen : (⟨#[40]⟩ : ByteArray) = strB [40] := by rfl
set_option maxHeartbeats 4000000 in
theorem ofWord_p {n pb : Nat} (hs : PX 263 n 8 pb) {w : World} {s : PS} {r : Except Nat (Ex × PS)} (h : PsM w pb s) (tx : List Nat) (htx : ∀ x ∈ tx, x < 256) (hr : wordX n tx s = some r) :
  Calls Tryz.prog 262 #[.pointer (some ⟨pb, 0, none⟩), .string (strB tx)] w (EndP w pb (RX1 w.heap.size) r) := by
 generalize hP : EndP w pb (RX1 w.heap.size) r = P
 have H1 := Hd.mk' h
 have hpb := h.lt
 obtain ⟨wa, hw1⟩ : ∃ w1, w.alloc (.cells zx 30) = w1 := ⟨_, rfl⟩
 rw [hw1] at H1
 have HH := Lib.hid H1
 have HP := Lib.hid hP
 unfold zx at hw1
 obtain ⟨⟨x0, x1, x2, x3, x4, x5, x6⟩, z0, z1, z2, z3, z4, z5, z6⟩ := H1.bx.seven
 unfold wordX at hr
 by_cases c0 : tx = wNull
 ·subst c0
  have hrc : r = .ok (cst 0 0 (0) ⟨#[]⟩, s) := by (first | rw [if_pos rfl] at hr | skip); injection hr with hr; exact hr.symm
  subst hrc
  have t0 := lit_eq lnull
  have HL := Lib.hid (HH.out.leaf (Stp.refl HH.out.st.ps) 21 0 0 (0) ⟨#[]⟩ ⟨#[]⟩)
  generalize strB wNull = tb at *
  clear hs h H1 hP hr
  go_enter Tryz.func262, Tryz.ntmps262
  go_wp2_with fail
  exact ex_ret Tryz.results262 HL.out.1 rfl rfl (by rw [← HP.out]; exact HL.out.2)
 rw [if_neg c0] at hr
 have t0 := lit_ne lnull htx (by decide) c0
 by_cases c1 : tx = wFalse
 ·subst c1
  have hrc : r = .ok (cst 1 0 (0) ⟨#[]⟩, s) := by (first | rw [if_pos rfl] at hr | skip); injection hr with hr; exact hr.symm
  subst hrc
  have t1 := lit_eq lfalse
  have HL := Lib.hid (HH.out.leaf (Stp.refl HH.out.st.ps) 21 1 0 (0) ⟨#[]⟩ ⟨#[]⟩)
  generalize strB wFalse = tb at *
  clear hs h H1 hP hr
  go_enter Tryz.func262, Tryz.ntmps262
  go_wp2_with fail
  exact ex_ret Tryz.results262 HL.out.1 rfl rfl (by rw [← HP.out]; exact HL.out.2)
 rw [if_neg c1] at hr
 have t1 := lit_ne lfalse htx (by decide) c1
 by_cases c2 : tx = wTrue
 ·subst c2
  have hrc : r = .ok (cst 1 1 (0) ⟨#[]⟩, s) := by (first | rw [if_pos rfl] at hr | skip); injection hr with hr; exact hr.symm
  subst hrc
  have t2 := lit_eq ltrue
  have HL := Lib.hid (HH.out.leaf (Stp.refl HH.out.st.ps) 21 1 1 (0) ⟨#[]⟩ ⟨#[]⟩)
  generalize strB wTrue = tb at *
  clear hs h H1 hP hr
  go_enter Tryz.func262, Tryz.ntmps262
  go_wp2_with fail
  exact ex_ret Tryz.results262 HL.out.1 rfl rfl (by rw [← HP.out]; exact HL.out.2)
 rw [if_neg c2] at hr
 have t2 := lit_ne ltrue htx (by decide) c2
 by_cases c3 : tx = wNan
 ·subst c3
  have hrc : r = .ok (cst 3 0 (-1) ⟨#[]⟩, s) := by (first | rw [if_pos rfl] at hr | skip); injection hr with hr; exact hr.symm
  subst hrc
  have t3 := lit_eq lnan
  have HL := Lib.hid (HH.out.leaf (Stp.refl HH.out.st.ps) 21 3 0 (-1) ⟨#[]⟩ ⟨#[]⟩)
  generalize strB wNan = tb at *
  clear hs h H1 hP hr
  go_enter Tryz.func262, Tryz.ntmps262
  go_wp2_with fail
  exact ex_ret Tryz.results262 HL.out.1 rfl rfl (by rw [← HP.out]; exact HL.out.2)
 rw [if_neg c3] at hr
 have t3 := lit_ne lnan htx (by decide) c3
 by_cases c4 : tx = wInf
 ·subst c4
  have hrc : r = .ok (cst 3 0 (-2) ⟨#[]⟩, s) := by (first | rw [if_pos rfl] at hr | skip); injection hr with hr; exact hr.symm
  subst hrc
  have t4 := lit_eq linfinity
  have HL := Lib.hid (HH.out.leaf (Stp.refl HH.out.st.ps) 21 3 0 (-2) ⟨#[]⟩ ⟨#[]⟩)
  generalize strB wInf = tb at *
  clear hs h H1 hP hr
  go_enter Tryz.func262, Tryz.ntmps262
  go_wp2_with fail
  exact ex_ret Tryz.results262 HL.out.1 rfl rfl (by rw [← HP.out]; exact HL.out.2)
 rw [if_neg c4] at hr
 have t4 := lit_ne linfinity htx (by decide) c4
 by_cases c5 : tx = wInt
 ·subst c5
  rw [if_pos rfl] at hr
  have t5 := lit_eq lint
  have HNE := Lib.hid (fun (w' : World) (hp : PsM w' pb s) (g : Nat) (hg : w'.heap.size = g) => need_g hp qopen (by decide) hg)
  have HMD := Lib.hid made_p
  generalize strB wInt = tb at *
  cases hn : atP [40] s with
  | true =>
   replace hr : (bindR (px isN n 8 s.next) fun e s3 => retR (mk1 14 e) s3) = some r := by unfold needP at hr; rw [if_pos hn] at hr; exact hr
   have HNA := Lib.hid hn
   cases h2 : px isN n 8 s.next with
   | none => rw [h2] at hr; cases hr
   | some r2 =>
    have HB := Lib.hid (fun (w' : World) (hp : PsM w' pb s.next) => hs w' s.next r2 hp h2)
    rw [h2] at hr
    clear hs h2 h H1 hP hn x0 x1 x2 x3 x4 x5 x6 z0 z1 z2 z3 z4 z5 z6
    match r2, hr, HB with
    | .error c, hr, HB =>
     have hrc : r = .error c := by injection hr with hr; exact hr.symm
     subst hrc
     clear hr
     go_enter Tryz.func262, Tryz.ntmps262
     go_wp2_with (first | (go_at_call 44; refine (HNE.out _ HH.out.st.ps _ (by first | rfl | exact HH.out.sz | simp)).mono ?_; rintro e w2 hn; obtain ⟨rfl, ss⟩ := hn.1 HNA.out; have S2 := Lib.hid ss; clear ss hn HNE) | (go_at_call 263; refine (HB.out w2 S2.out.ps).mono ?_; rintro e w3 ⟨f3, rfl⟩; have F3 := Lib.hid f3; clear f3))
     exact ⟨rfl, by rw [← HP.out]; exact HH.out.err (S2.out.fr.trans F3.out (New.refl _ _)) c⟩
    | .ok (ex, s3), hr, HB =>
     have hrc : r = .ok (mk1 14 ex, s3) := by injection hr with hr; exact hr.symm
     subst hrc
     clear hr
     go_enter Tryz.func262, Tryz.ntmps262
     go_wp2_with (first | (go_at_call 44; refine (HNE.out _ HH.out.st.ps _ (by first | rfl | exact HH.out.sz | simp)).mono ?_; rintro e w2 hn; obtain ⟨rfl, ss⟩ := hn.1 HNA.out; have S2 := Lib.hid ss; clear ss hn HNE) | (go_at_call 263; refine (HB.out w2 S2.out.ps).mono ?_; rintro e w3 ⟨f3, v, rfl, ⟨x, rfl, rfl, m3⟩, p3⟩; have H3 := Lib.hid (And.intro (S2.out.trans ⟨f3, p3⟩) (XE.Mem.mono (fun k hk => Nat.le_trans S2.out.fr.size hk) x m3)); clear f3 p3 m3; obtain ⟨op2, kind2, num2, scale2, text2, qual2, a2, cap2, args2⟩ := x; unfold XE.val) | (go_at_call 210; refine (HMD.out _ _ _ 1 1 [(XE.mk op2 kind2 num2 scale2 text2 qual2 a2 cap2 args2)] rfl).mono ?_; rintro e w4 ⟨rfl, b4⟩; have H4 := Lib.hid (HH.out.up H3.out.1 (XE.mk op2 kind2 num2 scale2 text2 qual2 a2 cap2 args2) H3.out.2 14 b4); clear b4; obtain ⟨⟨x0, x1, x2, x3, x4, x5, x6⟩, z0, z1, z2, z3, z4, z5, z6⟩ := H4.out.1.seven; unfold XE.val))
     exact ex_ret Tryz.results262 H4.out.2.1 rfl rfl (by rw [← HP.out]; exact H4.out.2.2)
  | false =>
   have hrc : r = .error 130 := by unfold needP at hr; rw [if_neg (by rw [hn]; decide)] at hr; injection hr with hr; exact hr.symm
   subst hrc
   have HNA := Lib.hid hn
   clear hs h H1 hP hr hn x0 x1 x2 x3 x4 x5 x6 z0 z1 z2 z3 z4 z5 z6
   go_enter Tryz.func262, Tryz.ntmps262
   go_wp2_with (first | (go_at_call 44; refine (HNE.out _ HH.out.st.ps _ (by first | rfl | exact HH.out.sz | simp)).mono ?_; rintro e w2 hn; obtain ⟨rfl, ff⟩ := hn.2 HNA.out; have FN := Lib.hid ff; clear ff hn HNE))
   exact ⟨rfl, by rw [← HP.out]; exact HH.out.err FN.out 130⟩
 rw [if_neg c5] at hr
 have t5 := lit_ne lint htx (by decide) c5
 by_cases c6 : tx = wReal
 ·subst c6
  rw [if_pos rfl] at hr
  have t6 := lit_eq lreal
  have HNE := Lib.hid (fun (w' : World) (hp : PsM w' pb s) (g : Nat) (hg : w'.heap.size = g) => need_g hp qopen (by decide) hg)
  have HMD := Lib.hid made_p
  generalize strB wReal = tb at *
  cases hn : atP [40] s with
  | true =>
   replace hr : (bindR (px isN n 8 s.next) fun e s3 => retR (mk1 15 e) s3) = some r := by unfold needP at hr; rw [if_pos hn] at hr; exact hr
   have HNA := Lib.hid hn
   cases h2 : px isN n 8 s.next with
   | none => rw [h2] at hr; cases hr
   | some r2 =>
    have HB := Lib.hid (fun (w' : World) (hp : PsM w' pb s.next) => hs w' s.next r2 hp h2)
    rw [h2] at hr
    clear hs h2 h H1 hP hn x0 x1 x2 x3 x4 x5 x6 z0 z1 z2 z3 z4 z5 z6
    match r2, hr, HB with
    | .error c, hr, HB =>
     have hrc : r = .error c := by injection hr with hr; exact hr.symm
     subst hrc
     clear hr
     go_enter Tryz.func262, Tryz.ntmps262
     go_wp2_with (first | (go_at_call 44; refine (HNE.out _ HH.out.st.ps _ (by first | rfl | exact HH.out.sz | simp)).mono ?_; rintro e w2 hn; obtain ⟨rfl, ss⟩ := hn.1 HNA.out; have S2 := Lib.hid ss; clear ss hn HNE) | (go_at_call 263; refine (HB.out w2 S2.out.ps).mono ?_; rintro e w3 ⟨f3, rfl⟩; have F3 := Lib.hid f3; clear f3))
     exact ⟨rfl, by rw [← HP.out]; exact HH.out.err (S2.out.fr.trans F3.out (New.refl _ _)) c⟩
    | .ok (ex, s3), hr, HB =>
     have hrc : r = .ok (mk1 15 ex, s3) := by injection hr with hr; exact hr.symm
     subst hrc
     clear hr
     go_enter Tryz.func262, Tryz.ntmps262
     go_wp2_with (first | (go_at_call 44; refine (HNE.out _ HH.out.st.ps _ (by first | rfl | exact HH.out.sz | simp)).mono ?_; rintro e w2 hn; obtain ⟨rfl, ss⟩ := hn.1 HNA.out; have S2 := Lib.hid ss; clear ss hn HNE) | (go_at_call 263; refine (HB.out w2 S2.out.ps).mono ?_; rintro e w3 ⟨f3, v, rfl, ⟨x, rfl, rfl, m3⟩, p3⟩; have H3 := Lib.hid (And.intro (S2.out.trans ⟨f3, p3⟩) (XE.Mem.mono (fun k hk => Nat.le_trans S2.out.fr.size hk) x m3)); clear f3 p3 m3; obtain ⟨op2, kind2, num2, scale2, text2, qual2, a2, cap2, args2⟩ := x; unfold XE.val) | (go_at_call 210; refine (HMD.out _ _ _ 1 1 [(XE.mk op2 kind2 num2 scale2 text2 qual2 a2 cap2 args2)] rfl).mono ?_; rintro e w4 ⟨rfl, b4⟩; have H4 := Lib.hid (HH.out.up H3.out.1 (XE.mk op2 kind2 num2 scale2 text2 qual2 a2 cap2 args2) H3.out.2 15 b4); clear b4; obtain ⟨⟨x0, x1, x2, x3, x4, x5, x6⟩, z0, z1, z2, z3, z4, z5, z6⟩ := H4.out.1.seven; unfold XE.val))
     exact ex_ret Tryz.results262 H4.out.2.1 rfl rfl (by rw [← HP.out]; exact H4.out.2.2)
  | false =>
   have hrc : r = .error 130 := by unfold needP at hr; rw [if_neg (by rw [hn]; decide)] at hr; injection hr with hr; exact hr.symm
   subst hrc
   have HNA := Lib.hid hn
   clear hs h H1 hP hr hn x0 x1 x2 x3 x4 x5 x6 z0 z1 z2 z3 z4 z5 z6
   go_enter Tryz.func262, Tryz.ntmps262
   go_wp2_with (first | (go_at_call 44; refine (HNE.out _ HH.out.st.ps _ (by first | rfl | exact HH.out.sz | simp)).mono ?_; rintro e w2 hn; obtain ⟨rfl, ff⟩ := hn.2 HNA.out; have FN := Lib.hid ff; clear ff hn HNE))
   exact ⟨rfl, by rw [← HP.out]; exact HH.out.err FN.out 130⟩
 rw [if_neg c6] at hr
 have t6 := lit_ne lreal htx (by decide) c6
 have HNA := Lib.hid (name_any (strB tx) wa)
 cases hN : nameB (strB tx) with
 | true =>
  rw [if_pos hN] at hr
  rw [hN] at HNA
  have HMO := Lib.hid (pmust_ok 130)
  generalize strB tx = tb at *
  cases hd : atP [46] s with
  | true =>
   rw [if_pos hd] at hr
   have HF := Lib.hid (fun (w' : World) (hp : PsM w' pb s) => found_yes hp qdot (by decide) hd)
   cases h2 : nameP isN s.next with
   | none => rw [h2] at hr; cases hr
   | some r2 =>
    have HNM := Lib.hid (fun (w' : World) (hp : PsM w' pb s.next) => name_p hp h2)
    rw [h2] at hr
    clear hs h2 h H1 hP hd hN x0 x1 x2 x3 x4 x5 x6 z0 z1 z2 z3 z4 z5 z6
    match r2, hr, HNM with
    | .error c, hr, HNM =>
     have hrc : r = .error c := by injection hr with hr; exact hr.symm
     subst hrc
     clear hr
     go_enter Tryz.func262, Tryz.ntmps262
     go_wp2_with (first | (go_at_call 75; refine HNA.out.mono ?_; rintro e w2 ⟨rfl, b2⟩; have S2 := Lib.hid ((Stp.refl HH.out.st.ps).below b2); clear b2) | (go_at_call 21; refine (HMO.out _).mono ?_; rintro e w3 ⟨rfl, rfl⟩; clear HMO) | (go_at_call 38; refine (HF.out w2 S2.out.ps).mono ?_; rintro e w4 ⟨rfl, ss⟩; have S4 := Lib.hid (S2.out.trans ss); clear ss HF) | (go_at_call 45; refine (HNM.out w4 S4.out.ps).mono ?_; rintro e w5 ⟨f5, rfl⟩; have F5 := Lib.hid f5; clear f5))
     exact ⟨rfl, by rw [← HP.out]; exact HH.out.err (S4.out.fr.trans F5.out (New.refl _ _)) c⟩
    | .ok (cn, s3), hr, HNM =>
     have hrc : r = .ok (.mk 22 0 0 0 (strB cn) tb [], s3) := by injection hr with hr; exact hr.symm
     subst hrc
     clear hr
     go_enter Tryz.func262, Tryz.ntmps262
     go_wp2_with (first | (go_at_call 75; refine HNA.out.mono ?_; rintro e w2 ⟨rfl, b2⟩; have S2 := Lib.hid ((Stp.refl HH.out.st.ps).below b2); clear b2) | (go_at_call 21; refine (HMO.out _).mono ?_; rintro e w3 ⟨rfl, rfl⟩; clear HMO) | (go_at_call 38; refine (HF.out w2 S2.out.ps).mono ?_; rintro e w4 ⟨rfl, ss⟩; have S4 := Lib.hid (S2.out.trans ss); clear ss HF) | (go_at_call 45; refine (HNM.out w4 S4.out.ps).mono ?_; rintro e w5 ⟨f5, v, rfl, hv, p5⟩; have hv2 : v = .string (strB cn) := hv; subst hv2; have S5 := Lib.hid (S4.out.trans ⟨f5, p5⟩); have HL := Lib.hid (HH.out.leaf S5.out 22 0 0 0 (strB cn) tb); obtain ⟨⟨x0, x1, x2, x3, x4, x5, x6⟩, z0, z1, z2, z3, z4, z5, z6⟩ := (HH.out.box S5.out).seven; clear f5 p5 hv))
     exact ex_ret Tryz.results262 HL.out.1 rfl rfl (by rw [← HP.out]; exact HL.out.2)
  | false =>
   rw [if_neg (by rw [hd]; decide)] at hr
   have HF := Lib.hid (fun (w' : World) (hp : PsM w' pb s) => found_no hp qdot (by decide) hd)
   have hrc : r = .ok (.mk 22 0 0 0 tb ⟨#[]⟩ [], s) := by injection hr with hr; exact hr.symm
   subst hrc
   clear hs h H1 hP hd hN hr x0 x1 x2 x3 x4 x5 x6 z0 z1 z2 z3 z4 z5 z6
   go_enter Tryz.func262, Tryz.ntmps262
   go_wp2_with (first | (go_at_call 75; refine HNA.out.mono ?_; rintro e w2 ⟨rfl, b2⟩; have S2 := Lib.hid ((Stp.refl HH.out.st.ps).below b2); clear b2) | (go_at_call 21; refine (HMO.out _).mono ?_; rintro e w3 ⟨rfl, rfl⟩; clear HMO) | (go_at_call 38; refine (HF.out w2 S2.out.ps).mono ?_; rintro e w4 ⟨rfl, ss⟩; have S4 := Lib.hid (S2.out.trans ss); have HL := Lib.hid (HH.out.leaf S4.out 22 0 0 0 tb ⟨#[]⟩); obtain ⟨⟨x0, x1, x2, x3, x4, x5, x6⟩, z0, z1, z2, z3, z4, z5, z6⟩ := (HH.out.box S4.out).seven; clear ss HF))
   exact ex_ret Tryz.results262 HL.out.1 rfl rfl (by rw [← HP.out]; exact HL.out.2)
 | false =>
  rw [if_neg (by show ¬ nameB (strB tx) = true; rw [hN]; decide)] at hr
  rw [hN] at HNA
  have hrc : r = .error 130 := by injection hr with hr; exact hr.symm
  subst hrc
  have HMN := Lib.hid (pmust_no 130)
  generalize strB tx = tb at *
  clear hs h H1 hP hN hr x0 x1 x2 x3 x4 x5 x6 z0 z1 z2 z3 z4 z5 z6
  go_enter Tryz.func262, Tryz.ntmps262
  go_wp2_with (first | (go_at_call 75; refine HNA.out.mono ?_; rintro e w2 ⟨rfl, b2⟩; have S2 := Lib.hid ((Stp.refl HH.out.st.ps).below b2); clear b2) | (go_at_call 21; refine (HMN.out _).mono ?_; rintro e w3 ⟨rfl, rfl⟩; clear HMN))
  exact ⟨rfl, by rw [← HP.out]; exact HH.out.err S2.out.fr 130⟩
end Go.Proofs.YtofnkfjhmjecjaaGreatDoor

namespace Go.Proofs.YtofnkfjhmjecjaaGreatDoor
set_option maxRecDepth 100000
open Go.RowKit Go.Joins Go.ChangeShapes Go.WideShapes
set_option linter.unusedVariables false
set_option linter.unusedSimpArgs false
theorem lopen : ([40] : List UInt8) = (strB [40]).toList := by rw [ByteArray.toList_eq]; rfl
theorem kint (a b : Nat) (h : ¬ a = b) : ((a : Int) == (b : Int)) = false := by simp; omega
theorem XE.mem_up {w : World} {a b : Nat} {x : XE} (h : a ≤ b) (hm : XE.Mem (GE b) w x) : XE.Mem (GE a) w x := XE.Mem.mono (fun k hk => Nat.le_trans h hk) x hm
set_option maxHeartbeats 4000000 in
theorem one_p {n pb : Nat} (hs : PX 263 n 8 pb) : PX 261 (n + 1) 7 pb := by
 intro w s r h hr
 generalize hP : EndP w pb (RX1 w.heap.size) r = P
 have H1 := Hd.mk' h
 have hpb := h.lt
 obtain ⟨wa, hw1⟩ : ∃ w1, w.alloc (.cells zx 30) = w1 := ⟨_, rfl⟩
 rw [hw1] at H1
 have HH := Lib.hid H1
 have HP := Lib.hid hP
 have HMO := Lib.hid (pmust_ok 130)
 have HMN := Lib.hid (pmust_no 130)
 unfold zx at hw1
 cases he : s.rest with
 | nil =>
  have hrc : r = .error 130 := by rw [px, he] at hr; injection hr with hr; exact hr.symm
  subst hrc
  have HT := Lib.hid (take_p0 H1.st.ps he)
  unfold Tkv at HT
  clear hs h H1 hP hr he
  go_enter Tryz.func261, Tryz.ntmps261
  go_wp2_with (first | (go_at_call 103; refine HT.out.mono ?_; rintro e w2 ⟨rfl, ss⟩; have S2 := Lib.hid (ss.alloc (.cells #[.int .i64 0, .string ⟨#[]⟩, .int .i64 0, .int .i64 0] 84)); clear ss HT) | (go_at_call 21; refine (HMN.out _).mono ?_; rintro e w3 ⟨rfl, rfl⟩; clear HMN))
  exact ⟨rfl, by rw [← HP.out]; exact HH.out.err (S2.out.fr) 130⟩
 | cons t rr =>
  have hnx : s.next = { s with rest := rr } := by unfold PS.next; rw [he]; rfl
  have HT := Lib.hid (take_p H1.st.ps he)
  have hb : ∀ x ∈ t.text, x < 256 := (h.rt t (by rw [he]; exact List.mem_cons_self ..)).2.2.2.2
  have hq : px isN (n + 1) 7 s = (if t.kind = 2 then retR (cst 2 t.num 0 ⟨#[]⟩) s.next
    else if t.kind = 3 then retR (cst 3 t.num t.scale ⟨#[]⟩) s.next
    else if t.kind = 4 then retR (cst 4 0 0 (strB t.text)) s.next
    else if t.kind = 1 then wordX n t.text s.next
    else if t.text = [40] then px isN n 8 s.next else failR 130) := by rw [px, he, hnx]; rfl
  rw [hq] at hr
  unfold Tkv at HT
  clear hq hnx he h
  by_cases k2 : t.kind = 2
  ·have e2 : ((t.kind : Int) == 2) = true := by rw [k2]; rfl
   rw [if_pos k2] at hr
   have hrc : r = .ok (cst 2 t.num 0 ⟨#[]⟩, s.next) := by injection hr with hr; exact hr.symm
   subst hrc
   clear hs H1 hP hr k2
   go_enter Tryz.func261, Tryz.ntmps261
   go_wp2_with (first | (go_at_call 103; refine HT.out.mono ?_; rintro e w2 ⟨rfl, ss⟩; have S2 := Lib.hid (ss.alloc (.cells #[.int .i64 (t.kind : Int), .string (strB t.text), .int .i64 (t.num : Int), .int .i64 (t.scale : Int)] 84)); obtain ⟨⟨x0, x1, x2, x3, x4, x5, x6⟩, z0, z1, z2, z3, z4, z5, z6⟩ := (HH.out.box S2.out).seven; obtain ⟨y0, y1, y2, y3, -⟩ := (Bx.new w2 #[.int .i64 (t.kind : Int), .string (strB t.text), .int .i64 (t.num : Int), .int .i64 (t.scale : Int)] 84).four; have HL := Lib.hid (HH.out.leaf S2.out 21 2 t.num 0 ⟨#[]⟩ ⟨#[]⟩); clear ss HT))
   exact ex_ret Tryz.results261 HL.out.1 rfl rfl (by rw [← HP.out]; exact HL.out.2)
  have e2 : ((t.kind : Int) == 2) = false := kint _ _ k2
  rw [if_neg k2] at hr
  by_cases k3 : t.kind = 3
  ·have e3 : ((t.kind : Int) == 3) = true := by rw [k3]; rfl
   rw [if_pos k3] at hr
   have hrc : r = .ok (cst 3 t.num t.scale ⟨#[]⟩, s.next) := by injection hr with hr; exact hr.symm
   subst hrc
   clear hs H1 hP hr k3
   go_enter Tryz.func261, Tryz.ntmps261
   go_wp2_with (first | (go_at_call 103; refine HT.out.mono ?_; rintro e w2 ⟨rfl, ss⟩; have S2 := Lib.hid (ss.alloc (.cells #[.int .i64 (t.kind : Int), .string (strB t.text), .int .i64 (t.num : Int), .int .i64 (t.scale : Int)] 84)); obtain ⟨⟨x0, x1, x2, x3, x4, x5, x6⟩, z0, z1, z2, z3, z4, z5, z6⟩ := (HH.out.box S2.out).seven; obtain ⟨y0, y1, y2, y3, -⟩ := (Bx.new w2 #[.int .i64 (t.kind : Int), .string (strB t.text), .int .i64 (t.num : Int), .int .i64 (t.scale : Int)] 84).four; have HL := Lib.hid (HH.out.leaf S2.out 21 3 t.num t.scale ⟨#[]⟩ ⟨#[]⟩); clear ss HT))
   exact ex_ret Tryz.results261 HL.out.1 rfl rfl (by rw [← HP.out]; exact HL.out.2)
  have e3 : ((t.kind : Int) == 3) = false := kint _ _ k3
  rw [if_neg k3] at hr
  by_cases k4 : t.kind = 4
  ·have e4 : ((t.kind : Int) == 4) = true := by rw [k4]; rfl
   rw [if_pos k4] at hr
   have hrc : r = .ok (cst 4 0 0 (strB t.text), s.next) := by injection hr with hr; exact hr.symm
   subst hrc
   clear hs H1 hP hr k4
   go_enter Tryz.func261, Tryz.ntmps261
   go_wp2_with (first | (go_at_call 103; refine HT.out.mono ?_; rintro e w2 ⟨rfl, ss⟩; have S2 := Lib.hid (ss.alloc (.cells #[.int .i64 (t.kind : Int), .string (strB t.text), .int .i64 (t.num : Int), .int .i64 (t.scale : Int)] 84)); obtain ⟨⟨x0, x1, x2, x3, x4, x5, x6⟩, z0, z1, z2, z3, z4, z5, z6⟩ := (HH.out.box S2.out).seven; obtain ⟨y0, y1, y2, y3, -⟩ := (Bx.new w2 #[.int .i64 (t.kind : Int), .string (strB t.text), .int .i64 (t.num : Int), .int .i64 (t.scale : Int)] 84).four; have HL := Lib.hid (HH.out.leaf S2.out 21 4 0 0 (strB t.text) ⟨#[]⟩); clear ss HT))
   exact ex_ret Tryz.results261 HL.out.1 rfl rfl (by rw [← HP.out]; exact HL.out.2)
  have e4 : ((t.kind : Int) == 4) = false := kint _ _ k4
  rw [if_neg k4] at hr
  by_cases k1 : t.kind = 1
  ·have e1 : ((t.kind : Int) == 1) = true := by rw [k1]; rfl
   rw [if_pos k1] at hr
   have HB := Lib.hid (fun (w' : World) (hp : PsM w' pb s.next) => ofWord_p hs hp t.text hb hr)
   clear hs H1 hP hr k1
   match r, HB, HP with
   | .error c, HB, HP =>
    go_enter Tryz.func261, Tryz.ntmps261
    go_wp2_with (first | (go_at_call 103; refine HT.out.mono ?_; rintro e w2 ⟨rfl, ss⟩; have S2 := Lib.hid (ss.alloc (.cells #[.int .i64 (t.kind : Int), .string (strB t.text), .int .i64 (t.num : Int), .int .i64 (t.scale : Int)] 84)); obtain ⟨⟨x0, x1, x2, x3, x4, x5, x6⟩, z0, z1, z2, z3, z4, z5, z6⟩ := (HH.out.box S2.out).seven; obtain ⟨y0, y1, y2, y3, -⟩ := (Bx.new w2 #[.int .i64 (t.kind : Int), .string (strB t.text), .int .i64 (t.num : Int), .int .i64 (t.scale : Int)] 84).four; skip; clear ss HT) | (go_at_call 262; refine (HB.out _ S2.out.ps).mono ?_; rintro e w5 ⟨f5, rfl⟩; have F5 := Lib.hid f5; clear f5))
    exact ⟨rfl, by rw [← HP.out]; exact HH.out.err (S2.out.fr.trans F5.out (New.refl _ _)) c⟩
   | .ok (ex, s3), HB, HP =>
    go_enter Tryz.func261, Tryz.ntmps261
    go_wp2_with (first | (go_at_call 103; refine HT.out.mono ?_; rintro e w2 ⟨rfl, ss⟩; have S2 := Lib.hid (ss.alloc (.cells #[.int .i64 (t.kind : Int), .string (strB t.text), .int .i64 (t.num : Int), .int .i64 (t.scale : Int)] 84)); obtain ⟨⟨x0, x1, x2, x3, x4, x5, x6⟩, z0, z1, z2, z3, z4, z5, z6⟩ := (HH.out.box S2.out).seven; obtain ⟨y0, y1, y2, y3, -⟩ := (Bx.new w2 #[.int .i64 (t.kind : Int), .string (strB t.text), .int .i64 (t.num : Int), .int .i64 (t.scale : Int)] 84).four; skip; clear ss HT) | (go_at_call 262; refine (HB.out _ S2.out.ps).mono ?_; rintro e w5 ⟨f5, v, rfl, ⟨x, rfl, rfl, m5⟩, p5⟩; have st5 := S2.out.trans ⟨f5, p5⟩; obtain ⟨⟨v0, v1, v2, v3, v4, v5, v6⟩, g0, g1, g2, g3, g4, g5, g6⟩ := (HH.out.box st5).seven; have HFI := Lib.hid (HH.out.fin st5 x (XE.mem_up S2.out.fr.size m5)); clear f5 p5 m5 st5; obtain ⟨op2, kind2, num2, scale2, text2, qual2, a2, cap2, args2⟩ := x; unfold XE.val))
    exact ex_ret Tryz.results261 HFI.out.1 rfl rfl (by rw [← HP.out]; exact HFI.out.2)
  have e1 : ((t.kind : Int) == 1) = false := kint _ _ k1
  rw [if_neg k1] at hr
  by_cases k5 : t.text = [40]
  ·have e5 : ((strB t.text).toList == [40]) = true := by rw [k5]; exact lit_eq lopen
   rw [if_pos k5] at hr
   have HB := Lib.hid (fun (w' : World) (hp : PsM w' pb s.next) => hs w' s.next r hp hr)
   clear hs H1 hP hr k5 hb
   match r, HB, HP with
   | .error c, HB, HP =>
    go_enter Tryz.func261, Tryz.ntmps261
    go_wp2_with (first | (go_at_call 103; refine HT.out.mono ?_; rintro e w2 ⟨rfl, ss⟩; have S2 := Lib.hid (ss.alloc (.cells #[.int .i64 (t.kind : Int), .string (strB t.text), .int .i64 (t.num : Int), .int .i64 (t.scale : Int)] 84)); obtain ⟨⟨x0, x1, x2, x3, x4, x5, x6⟩, z0, z1, z2, z3, z4, z5, z6⟩ := (HH.out.box S2.out).seven; obtain ⟨y0, y1, y2, y3, -⟩ := (Bx.new w2 #[.int .i64 (t.kind : Int), .string (strB t.text), .int .i64 (t.num : Int), .int .i64 (t.scale : Int)] 84).four; skip; clear ss HT) | (go_at_call 21; refine (HMO.out _).mono ?_; rintro e w3 ⟨rfl, rfl⟩; clear HMO) | (go_at_call 263; refine (HB.out _ S2.out.ps).mono ?_; rintro e w5 ⟨f5, rfl⟩; have F5 := Lib.hid f5; clear f5))
    exact ⟨rfl, by rw [← HP.out]; exact HH.out.err (S2.out.fr.trans F5.out (New.refl _ _)) c⟩
   | .ok (ex, s3), HB, HP =>
    go_enter Tryz.func261, Tryz.ntmps261
    go_wp2_with (first | (go_at_call 103; refine HT.out.mono ?_; rintro e w2 ⟨rfl, ss⟩; have S2 := Lib.hid (ss.alloc (.cells #[.int .i64 (t.kind : Int), .string (strB t.text), .int .i64 (t.num : Int), .int .i64 (t.scale : Int)] 84)); obtain ⟨⟨x0, x1, x2, x3, x4, x5, x6⟩, z0, z1, z2, z3, z4, z5, z6⟩ := (HH.out.box S2.out).seven; obtain ⟨y0, y1, y2, y3, -⟩ := (Bx.new w2 #[.int .i64 (t.kind : Int), .string (strB t.text), .int .i64 (t.num : Int), .int .i64 (t.scale : Int)] 84).four; skip; clear ss HT) | (go_at_call 21; refine (HMO.out _).mono ?_; rintro e w3 ⟨rfl, rfl⟩; clear HMO) | (go_at_call 263; refine (HB.out _ S2.out.ps).mono ?_; rintro e w5 ⟨f5, v, rfl, ⟨x, rfl, rfl, m5⟩, p5⟩; have st5 := S2.out.trans ⟨f5, p5⟩; obtain ⟨⟨v0, v1, v2, v3, v4, v5, v6⟩, g0, g1, g2, g3, g4, g5, g6⟩ := (HH.out.box st5).seven; have HFI := Lib.hid (HH.out.fin st5 x (XE.mem_up S2.out.fr.size m5)); clear f5 p5 m5 st5; obtain ⟨op2, kind2, num2, scale2, text2, qual2, a2, cap2, args2⟩ := x; unfold XE.val))
    exact ex_ret Tryz.results261 HFI.out.1 rfl rfl (by rw [← HP.out]; exact HFI.out.2)
  ·have e5 : ((strB t.text).toList == [40]) = false := lit_ne lopen hb (by decide) k5
   rw [if_neg k5] at hr
   have hrc : r = .error 130 := by injection hr with hr; exact hr.symm
   subst hrc
   clear hs H1 hP hr k5 hb
   go_enter Tryz.func261, Tryz.ntmps261
   go_wp2_with (first | (go_at_call 103; refine HT.out.mono ?_; rintro e w2 ⟨rfl, ss⟩; have S2 := Lib.hid (ss.alloc (.cells #[.int .i64 (t.kind : Int), .string (strB t.text), .int .i64 (t.num : Int), .int .i64 (t.scale : Int)] 84)); obtain ⟨⟨x0, x1, x2, x3, x4, x5, x6⟩, z0, z1, z2, z3, z4, z5, z6⟩ := (HH.out.box S2.out).seven; obtain ⟨y0, y1, y2, y3, -⟩ := (Bx.new w2 #[.int .i64 (t.kind : Int), .string (strB t.text), .int .i64 (t.num : Int), .int .i64 (t.scale : Int)] 84).four; skip; clear ss HT) | (go_at_call 21; refine (HMN.out _).mono ?_; rintro e w3 ⟨rfl, rfl⟩; clear HMN))
   exact ⟨rfl, by rw [← HP.out]; exact HH.out.err S2.out.fr 130⟩
theorem levels_p (pb : Nat) : ∀ n, PX 173 n 0 pb ∧ PX 194 n 1 pb ∧ PX 211 n 2 pb ∧ PX 224 n 3 pb ∧ PX 239 n 4 pb ∧ PX 253 n 5 pb ∧ PX 259 n 6 pb ∧ PX 261 n 7 pb ∧ PX 263 n 8 pb
 | 0 => by
  have h0 : ∀ g lvl, PX g 0 lvl pb := fun g lvl w s r _ h => (by rw [px] at h; cases h)
  exact ⟨h0 _ _, h0 _ _, h0 _ _, h0 _ _, h0 _ _, h0 _ _, h0 _ _, h0 _ _, h0 _ _⟩
 | n + 1 => by
  obtain ⟨h0, h1, h2, h3, h4, h5, h6, h7, h8⟩ := levels_p pb n
  exact ⟨expr_p h1, both_p h2, not_p h2 h3, test_p h4, sum_p h5, term_p h6, sign_p h6 h7, one_p h8, inner_p h0⟩
theorem expr_any {n pb : Nat} : PX 173 n 0 pb := (levels_p pb n).1
end Go.Proofs.YtofnkfjhmjecjaaGreatDoor

namespace Go.Proofs.YtofnkfjhmjecjaaGreatDoor
set_option maxRecDepth 100000
open Go.RowKit Go.Joins Go.ChangeShapes Go.WideShapes
set_option linter.unusedVariables false
set_option linter.unusedSimpArgs false
mutual
/-- operators have operands, constants and columns none -/
def Ex.Wf : Ex → Prop
 | .mk op _ _ _ _ _ args => (args = [] ↔ (op = 0 ∨ op = 21 ∨ op = 22)) ∧ Ex.WfL args
def Ex.WfL : List Ex → Prop
 | [] => True
 | a :: r => Ex.Wf a ∧ Ex.WfL r
end
theorem Ex.wfL_mem : ∀ {l : List Ex} {e : Ex}, Ex.WfL l → e ∈ l → Ex.Wf e
 | [], e, _, he => by cases he
 | a :: r, e, h, he => by
  unfold Ex.WfL at h
  rcases List.mem_cons.1 he with rfl | he
  ·exact h.1
  ·exact Ex.wfL_mem h.2 he
theorem wfc (kind num scale : Int) (text : ByteArray) : Ex.Wf (cst kind num scale text) := by unfold cst Ex.Wf Ex.WfL; simp
theorem wf0 (kind num scale : Int) (text qual : ByteArray) : Ex.Wf (.mk 22 kind num scale text qual []) := by unfold Ex.Wf Ex.WfL; simp
theorem wf1 {op : Nat} {a : Ex} (h : Ex.Wf a) (ho : op ≠ 0 ∧ op ≠ 21 ∧ op ≠ 22) : Ex.Wf (mk1 op a) := by
 unfold mk1 Ex.Wf Ex.WfL Ex.WfL
 refine ⟨⟨(fun e => by cases e), fun e => by omega⟩, h, trivial⟩
theorem wf2 {op : Nat} {a b : Ex} (h : Ex.Wf a) (h2 : Ex.Wf b) (ho : op ≠ 0 ∧ op ≠ 21 ∧ op ≠ 22) : Ex.Wf (mk2 op a b) := by
 unfold mk2 Ex.Wf Ex.WfL Ex.WfL Ex.WfL
 refine ⟨⟨(fun e => by cases e), fun e => by omega⟩, h, h2, trivial⟩
theorem opsP_ok2 (lvl : Nat) : ((opsP lvl).all fun x => decide (x.2 ≠ 0 ∧ x.2 ≠ 21 ∧ x.2 ≠ 22)) = true := by unfold opsP; split <;> rfl
theorem opsP_rg {lvl op : Nat} {s : PS} (h : whichP (opsP lvl) s = some op) : op ≠ 0 ∧ op ≠ 21 ∧ op ≠ 22 := by
 have gen : ∀ l : List (List Nat × Nat), (∀ x ∈ l, x.2 ≠ 0 ∧ x.2 ≠ 21 ∧ x.2 ≠ 22) → whichP l s = some op → op ≠ 0 ∧ op ≠ 21 ∧ op ≠ 22 := by
  intro l
  induction l with
  | nil => intro _ h; cases h
  | cons x r ih =>
   intro hx h
   obtain ⟨a, b⟩ := x
   rw [whichP] at h
   split at h
   ·injection h with h; subst h; exact hx _ (List.mem_cons_self ..)
   ·exact ih (fun y hy => hx y (List.mem_cons_of_mem _ hy)) h
 exact gen _ (fun x hx => of_decide_eq_true (List.all_eq_true.1 (opsP_ok2 lvl) x hx)) h
section
variable (isName : List Nat → Bool)
theorem px_wf : ∀ n, (∀ lvl s e s', px isName n lvl s = some (.ok (e, s')) → Ex.Wf e) ∧ ∀ lvl e0 s e s', Ex.Wf e0 → pc isName n lvl e0 s = some (.ok (e, s')) → Ex.Wf e
 | 0 => ⟨(fun lvl s e s' h => by rw [px] at h; cases h), (fun lvl e0 s e s' _ h => by rw [pc] at h; cases h)⟩
 | n + 1 => by
  obtain ⟨ih1, ih2⟩ := px_wf n
  have chain : ∀ lvl s e s', bindR (px isName n (lvl + 1) s) (fun e s1 => pc isName n lvl e s1) = some (.ok (e, s')) → Ex.Wf e := fun lvl s e s' h => by
   obtain ⟨a, s1, h1, h2⟩ := bindR_ok h
   exact ih2 _ _ _ _ _ (ih1 _ _ _ _ h1) h2
  have up : ∀ (op : Nat) lvl s0 e s', op ≠ 0 ∧ op ≠ 21 ∧ op ≠ 22 → (bindR (px isName n lvl s0) fun e s1 => retR (mk1 op e) s1) = some (.ok (e, s')) → Ex.Wf e := fun op lvl s0 e s' ho h => by
   obtain ⟨a, s1, h1, h2⟩ := bindR_ok h
   obtain ⟨rfl, rfl⟩ := retR_ok h2
   exact wf1 (ih1 _ _ _ _ h1) ho
  refine ⟨fun lvl s e s' h => ?_, fun lvl e0 s e s' h0 h => ?_⟩
  ·match lvl, h with
   | 0, h => rw [px] at h <;> first | exact chain _ _ _ _ h | (intros; omega)
   | 1, h => rw [px] at h <;> first | exact chain _ _ _ _ h | (intros; omega)
   | 4, h => rw [px] at h <;> first | exact chain _ _ _ _ h | (intros; omega)
   | 5, h => rw [px] at h <;> first | exact chain _ _ _ _ h | (intros; omega)
   | k + 9, h => rw [px] at h <;> first | exact chain _ _ _ _ h | (intros; omega)
   | 2, h =>
    rw [px] at h
    rcases ite_or h with ⟨-, h⟩ | ⟨-, h⟩
    ·exact up _ _ _ _ _ (by decide) h
    ·exact ih1 _ _ _ _ h
   | 6, h =>
    rw [px] at h
    rcases ite_or h with ⟨-, h⟩ | ⟨-, h⟩
    ·exact up _ _ _ _ _ (by decide) h
    ·exact ih1 _ _ _ _ h
   | 3, h =>
    rw [px] at h
    obtain ⟨a, s1, h1, h2⟩ := bindR_ok h
    have a1 := ih1 _ _ _ _ h1
    dsimp only at h2
    rcases ite_or h2 with ⟨-, h2⟩ | ⟨-, h2⟩
    ·rcases ite_or h2 with ⟨-, h2⟩ | ⟨-, h2⟩ <;>
     ·obtain ⟨u, s3, h3, h4⟩ := bindR_ok h2
      obtain ⟨rfl, rfl⟩ := retR_ok h4
      exact wf1 a1 (by decide)
    ·split at h2
     ·obtain ⟨rfl, rfl⟩ := retR_ok h2
      exact a1
     ·rename_i op hw
      obtain ⟨f, s2, h3, h4⟩ := bindR_ok h2
      obtain ⟨rfl, rfl⟩ := retR_ok h4
      exact wf2 a1 (ih1 _ _ _ _ h3) (opsP_rg hw)
   | 7, h =>
    rw [px] at h
    cases er : s.rest with
    | nil => rw [er] at h; cases h
    | cons t r =>
     rw [er] at h
     dsimp only at h
     have call : ∀ (op : Nat) e s', op ≠ 0 ∧ op ≠ 21 ∧ op ≠ 22 → (bindR (needP [40] { s with rest := r }) fun _ s2 => bindR (px isName n 8 s2) fun e s3 => retR (mk1 op e) s3) = some (.ok (e, s')) → Ex.Wf e := fun op e s' ho h => by
      obtain ⟨u, s2, h1, h2⟩ := bindR_ok h
      exact up op 8 _ e s' ho h2
     rcases ite_or h with ⟨-, h⟩ | ⟨-, h⟩
     ·obtain ⟨rfl, rfl⟩ := retR_ok h; exact wfc _ _ _ _
     rcases ite_or h with ⟨-, h⟩ | ⟨-, h⟩
     ·obtain ⟨rfl, rfl⟩ := retR_ok h; exact wfc _ _ _ _
     rcases ite_or h with ⟨-, h⟩ | ⟨-, h⟩
     ·obtain ⟨rfl, rfl⟩ := retR_ok h; exact wfc _ _ _ _
     rcases ite_or h with ⟨-, h⟩ | ⟨-, h⟩
     ·rcases ite_or h with ⟨-, h⟩ | ⟨-, h⟩
      ·obtain ⟨rfl, rfl⟩ := retR_ok h; exact wfc _ _ _ _
      rcases ite_or h with ⟨-, h⟩ | ⟨-, h⟩
      ·obtain ⟨rfl, rfl⟩ := retR_ok h; exact wfc _ _ _ _
      rcases ite_or h with ⟨-, h⟩ | ⟨-, h⟩
      ·obtain ⟨rfl, rfl⟩ := retR_ok h; exact wfc _ _ _ _
      rcases ite_or h with ⟨-, h⟩ | ⟨-, h⟩
      ·obtain ⟨rfl, rfl⟩ := retR_ok h; exact wfc _ _ _ _
      rcases ite_or h with ⟨-, h⟩ | ⟨-, h⟩
      ·obtain ⟨rfl, rfl⟩ := retR_ok h; exact wfc _ _ _ _
      rcases ite_or h with ⟨-, h⟩ | ⟨-, h⟩
      ·exact call _ _ _ (by decide) h
      rcases ite_or h with ⟨-, h⟩ | ⟨-, h⟩
      ·exact call _ _ _ (by decide) h
      rcases ite_or h with ⟨-, h⟩ | ⟨-, h⟩
      ·rcases ite_or h with ⟨cq, h⟩ | ⟨-, h⟩
       ·obtain ⟨c, s2, h1, h2⟩ := bindR_ok h
        obtain ⟨rfl, rfl⟩ := retR_ok h2
        exact wf0 _ _ _ _ _
       ·obtain ⟨rfl, rfl⟩ := retR_ok h; exact wf0 _ _ _ _ _
      ·cases h
     rcases ite_or h with ⟨-, h⟩ | ⟨-, h⟩
     ·exact ih1 _ _ _ _ h
     ·cases h
   | 8, h =>
    rw [px] at h
    rcases ite_or h with ⟨-, h⟩ | ⟨-, h⟩
    ·obtain ⟨a, s1, h1, h2⟩ := bindR_ok h
     obtain ⟨u, s2, h3, h4⟩ := bindR_ok h2
     obtain ⟨rfl, rfl⟩ := retR_ok h4
     exact ih1 _ _ _ _ h1
    ·cases h
  ·rw [pc] at h
   split at h
   ·obtain ⟨rfl, rfl⟩ := retR_ok h
    exact h0
   ·rename_i op hw
    obtain ⟨f, s1, h1, h2⟩ := bindR_ok h
    exact ih2 _ _ _ _ _ (wf2 h0 (ih1 _ _ _ _ h1) (opsP_rg hw)) h2
end
end Go.Proofs.YtofnkfjhmjecjaaGreatDoor

namespace Go.Proofs.YtofnkfjhmjecjaaGreatDoor
set_option maxRecDepth 100000
open Go.RowKit Go.Joins Go.ChangeShapes Go.WideShapes
set_option linter.unusedVariables false
set_option linter.unusedSimpArgs false
def mxL : List Ex → Nat
 | [] => 0
 | a :: r => max (depR a) (mxL r)
theorem depL_mx : ∀ l : List Ex, l ≠ [] → depL l = mxL l + 1
 | [], h => absurd rfl h
 | [a], _ => by simp [depL, mxL]
 | a :: b :: r, _ => by
  have := depL_mx (b :: r) (by simp)
  simp only [depL, mxL] at this ⊢
  omega
theorem mxL_app (l r : List Ex) : mxL (l ++ r) = max (mxL l) (mxL r) := by
 induction l with
 | nil => simp [mxL]
 | cons a l ih => rw [List.cons_append, mxL, mxL, ih]; omega
theorem mxL_mem : ∀ {l : List Ex} {e : Ex}, e ∈ l → depR e ≤ mxL l
 | [], e, h => by cases h
 | a :: r, e, h => by
  rw [mxL]
  rcases List.mem_cons.1 h with rfl | h
  ·omega
  ·have := mxL_mem h; omega
theorem XE.Mem.at {K : Bl} {w : World} {op kind num scale : Int} {text qual : ByteArray} {a : Option Addr} {cap : Nat} {args : List XE} (h : XE.Mem K w (.mk op kind num scale text qual a cap args)) {k : Nat} {x : XE} (hx : args[k]? = some x) :
  ∃ b o, a = some ⟨b, o, none⟩ ∧ K b ∧ b < w.heap.size ∧ (∀ j u, x.enc[j]? = some u → w.cell? ⟨b, o + k * 7 + j, none⟩ = some u) ∧ XE.Mem K w x := by
 unfold XE.Mem at h
 obtain ⟨h1, h2, h3, h4⟩ := h
 rcases h3 with h3 | ⟨b, o, e1, e2, e3, e4⟩
 ·rw [h3] at hx; simp at hx
 ·refine ⟨b, o, e1, e2, e3, fun j u hj => ?_, XE.memL_iff.1 h4 x (List.mem_of_getElem? hx)⟩
  have hj7 : j < 7 := by rw [← XE.enc_len x]; exact (List.getElem?_eq_some_iff.1 hj).1
  rw [Nat.add_assoc]
  refine e4 _ u ?_
  have := RK.cells_at xk args k j x hx hj7
  exact this.trans hj
set_option maxHeartbeats 4000000 in
theorem depth_p : ∀ (N : Nat) {K : Bl} {w : World} (x : XE), depR x.er < N → depR x.er ≤ 4294967296 → Ex.Wf x.er → XE.Mem K w x →
  Calls Tryz.prog 17 #[x.val] w fun e w' => e = .returned (.int .i64 (depR x.er : Int)) ∧ Below w.heap.size w w'
 | 0, K, w, x, h, _, _, _ => absurd h (by omega)
 | N + 1, K, w, .mk op kind num scale text qual a cap args, h, hd, hwf, hm => by
  have HI := Lib.hid (fun (w : World) (x : XE) => depth_p N (K := K) (w := w) x)
  simp only [XE.er] at hwf h hd ⊢
  unfold Ex.Wf at hwf
  obtain ⟨hw0, hwl⟩ := hwf
  rw [depR] at h hd ⊢
  obtain ⟨D, hD⟩ : ∃ D, depL (XE.erL args) = D := ⟨_, rfl⟩
  rw [hD] at h hd ⊢
  generalize hP : (fun (e : Ending) (w' : World) => e = .returned (.int .i64 (D : Int)) ∧ Below w.heap.size w w') = P
  have b1 : Below w.heap.size w (w.alloc (.cells (XE.encA (.mk op kind num scale text qual a cap args)) 30)) := (Below.refl _ _).alloc (Nat.le_refl _) _
  have hn1 := Bx.new w (XE.encA (.mk op kind num scale text qual a cap args)) 30
  simp only [XE.encA] at b1 hn1
  obtain ⟨n, hn⟩ : ∃ n, args.length = n := ⟨_, rfl⟩
  have hnc : n ≤ cap := by rw [← hn]; unfold XE.Mem at hm; exact hm.1
  have hcm : cap ≤ maxLen := by unfold XE.Mem at hm; exact hm.2.1
  have HM0 := hm.below b1
  obtain ⟨wa, hwa⟩ : ∃ wa, w.alloc (.cells #[.int .i64 op, .slice a args.length cap, .int .i64 kind, .int .i64 num, .int .i64 scale, .string text, .string qual] 30) = wa := ⟨_, rfl⟩
  rw [hwa] at b1 hn1 HM0
  rw [hn] at hwa hn1
  have HM := Lib.hid HM0
  clear HM0
  obtain ⟨⟨x0, x1, x2, x3, x4, x5, x6⟩, -⟩ := hn1.seven
  have HP := Lib.hid hP
  have HB := Lib.hid b1
  simp only [XE.val]
  rw [hn]
  by_cases he : args = []
  ·have hop := (hw0.1 (by rw [XE.erL_map, he]; rfl))
   have hD0 : D = 0 := by rw [← hD, he]; simp [XE.erL, depL]
   have HF := Lib.hid (show P (.returned (.int .i64 0)) wa by rw [← hP, hD0]; exact ⟨rfl, b1⟩)
   clear hP b1 hn1 hm hw0 hwl h hd he hn HM
   rcases hop with rfl | rfl | rfl
   all_goals
    go_enter Tryz.func17, Tryz.ntmps17
    go_wp2_with fail
    exact HF.out
  ·have hop : ¬ (op = 0 ∨ op = 21 ∨ op = 22) := fun c => he (by have := hw0.2 c; rw [XE.erL_map] at this; exact List.map_eq_nil_iff.1 this)
   have o0 : (op == 0) = false := by simp; omega
   have o1 : (op == 21) = false := by simp; omega
   have o2 : (op == 22) = false := by simp; omega
   have hDm : D = mxL (XE.erL args) + 1 := by rw [← hD]; exact depL_mx _ (fun e => he (by rw [XE.erL_map] at e; exact List.map_eq_nil_iff.1 e))
   have HN := Lib.hid (And.intro hn (And.intro hwl hDm))
   have hh := Lib.hid (And.intro h hd)
   clear hP b1 hn1 hm hw0 hwl h hd hn hDm he hop hD
   go_enter Tryz.func17, Tryz.ntmps17
   go_wp2_with fail
   go_loopw [3, 15] (fun d i wr => ∃ (k m : Nat), k ≤ n ∧ i = .int .i64 (k : Int) ∧ d = .int .i64 (m : Int) ∧ Hid (m = mxL ((XE.erL args).take k)) ∧ Hid (Below wa.heap.size wa wr)) (fun _ i _ => n - (intOf i).toNat)
   case atStart => exact ⟨0, 0, Nat.zero_le _, rfl, rfl, Lib.hid rfl, Lib.hid (Below.refl _ _)⟩
   case round =>
    obtain ⟨k, m, hk, rfl, rfl, HK, HW⟩ := hrel
    by_cases c : k < n
    ·have c1 : (k : Int) < (n : Int) := by omega
     have hx : args[k]? = some (args[k]'(by rw [HN.out.1]; exact c)) := List.getElem?_eq_getElem _
     generalize args[k]'(by rw [HN.out.1]; exact c) = x at *
     obtain ⟨b, o, rfl, -, hb, hcell, hmx⟩ := XE.Mem.at (HM.out.below HW.out) hx
     have hex : (XE.erL args)[k]? = some x.er := by rw [XE.erL_map, List.getElem?_map, hx]; rfl
     have hle := mxL_mem (List.mem_of_getElem? hex)
     have hwf := Ex.wfL_mem HN.out.2.1 (List.mem_of_getElem? hex)
     have hst : mxL ((XE.erL args).take (k + 1)) = max (mxL ((XE.erL args).take k)) (depR x.er) := by
      rw [List.take_add_one, hex, mxL_app]
      simp [mxL]
     have HCA := Lib.hid (HI.out (wr.alloc (.cells x.encA 30)) x (by have := HN.out.2.2; have := hh.out.1; omega) (by have := HN.out.2.2; have := hh.out.2; omega) hwf (hmx.below ((Below.refl _ _).alloc (Nat.le_refl _) _)))
     have HST := Lib.hid (And.intro hst hle)
     obtain ⟨op1, kind1, num1, scale1, text1, qual1, a1, cap1, args1⟩ := x
     have q0 := hcell 0 _ rfl
     have q1 := hcell 1 _ rfl
     have q2 := hcell 2 _ rfl
     have q3 := hcell 3 _ rfl
     have q4 := hcell 4 _ rfl
     have q5 := hcell 5 _ rfl
     have q6 := hcell 6 _ rfl
     rw [Nat.add_zero] at q0
     simp only [XE.encA, XE.val] at HCA
     obtain ⟨dx, hdx⟩ : ∃ dx, depR (XE.er (.mk op1 kind1 num1 scale1 text1 qual1 a1 cap1 args1)) = dx := ⟨_, rfl⟩
     rw [hdx] at HCA HST
     clear hx hex hle hwf hst hcell hmx hdx
     go_wp2_with (first | (go_at_call 17; refine HCA.out.mono ?_; rintro e w2 ⟨rfl, b2⟩; have HB2 := Lib.hid (HW.out.trans (((Below.refl _ _).alloc (Nat.le_refl _) _).trans (b2.mono (by simp)) |>.mono HW.out.size)); clear b2 HCA))
     have hwk : wrap64 ((k : Int) + 1) = ((k + 1 : Nat) : Int) := by unfold wrap64 maxLen at *; omega
     refine ⟨⟨k + 1, max m dx, by omega, by rw [hwk], by congr 1; omega, Lib.hid (by rw [HST.out.1, HK.out]), HB2⟩, ?_⟩
     rw [hwk]
     simp [intOf]
     omega
    ·have c2 : decide ((k : Int) < (n : Int)) = false := by simp; omega
     obtain rfl : k = n := by omega
     have hm2 : m + 1 = D := by
      rw [HN.out.2.2, HK.out, List.take_of_length_le (by rw [XE.erL_length, HN.out.1]; exact Nat.le_refl _)]
     have hD2 := hh.out.2
     have hwm : wrap64 ((m : Int) + 1) = (D : Int) := by unfold wrap64; omega
     have HF := Lib.hid (show P (.returned (.int .i64 (D : Int))) wr by rw [← HP.out]; exact ⟨rfl, HB.out.trans (HW.out.mono HB.out.size)⟩)
     clear hm2 hD2
     go_wp2_with fail
     first
      | exact HF.out
      | (rw [hwm]; exact HF.out)
end Go.Proofs.YtofnkfjhmjecjaaGreatDoor

namespace Go.Proofs.YtofnkfjhmjecjaaGreatDoor
set_option maxRecDepth 100000
open Go.RowKit Go.Joins Go.ChangeShapes Go.WideShapes
set_option linter.unusedVariables false
set_option linter.unusedSimpArgs false
def PR (g pb : Nat) {α : Type} (R : Nat → World → Value → α → Prop) (f : PS → RX α) : Prop := ∀ (w : World) (s : PS) (r : Except Nat (α × PS)), PsM w pb s → f s = some r → Calls Tryz.prog g #[.pointer (some ⟨pb, 0, none⟩)] w (EndP w pb (R w.heap.size) r)
set_option maxHeartbeats 4000000 in
theorem whole_p (n pb : Nat) : PR 116 pb RX1 (wholeP isN n) := by
 intro w s r h hr
 unfold wholeP at hr
 generalize hP : EndP w pb (RX1 w.heap.size) r = P
 have H1 := Hd.mk' h
 have hpb := h.lt
 obtain ⟨wa, hw1⟩ : ∃ w1, w.alloc (.cells zx 30) = w1 := ⟨_, rfl⟩
 rw [hw1] at H1
 have HH := Lib.hid H1
 have HP := Lib.hid hP
 unfold zx at hw1
 cases h1 : px isN n 0 s with
 | none => rw [h1] at hr; cases hr
 | some r1 =>
  have HB := Lib.hid (expr_any wa s r1 H1.st.ps h1)
  have HU := Lib.hid (fun e s' (q : r1 = .ok (e, s')) => And.intro ((px_dep isN n).1 0 _ _ _ (by rw [h1, q])) ((px_wf isN n).1 0 _ _ _ (by rw [h1, q])))
  have hln := h.ln
  rw [h1] at hr
  clear h1 h H1 hP
  match r1, hr, HB with
  | .error c, hr, HB =>
   have hrc : r = .error c := by injection hr with hr; exact hr.symm
   subst hrc
   clear hr HU
   go_enter Tryz.func116, Tryz.ntmps116
   go_wp2_with (first | (go_at_call 173; refine HB.out.mono ?_; rintro e w1 ⟨f1, rfl⟩; have F1 := Lib.hid f1; clear f1))
   exact ⟨rfl, by rw [← HP.out]; exact HH.out.err F1.out c⟩
  | .ok (ex, s1), hr, HB =>
   have hrc : r = .ok (ex, s1.setD (max s1.deep (depR ex))) := by injection hr with hr; exact hr.symm
   subst hrc
   obtain ⟨hu1, hu2⟩ := HU.out ex s1 rfl
   unfold DpS at hu1
   have hd : depR ex ≤ 4294967296 := by omega
   obtain ⟨dx, hdx⟩ : ∃ dx, depR ex = dx := ⟨_, rfl⟩
   obtain ⟨d0, hd0⟩ : ∃ d0, s1.deep = d0 := ⟨_, rfl⟩
   have HDX := Lib.hid (And.intro hdx (And.intro hd0 (And.intro hu2 hd)))
   have hdle : dx ≤ 4294967296 := by omega
   have hmx : (max (d0 : Int) (dx : Int)) = ((max d0 dx : Nat) : Int) := by omega
   clear hr HU hu1 hu2 hd hdx hd0 hln
   go_enter Tryz.func116, Tryz.ntmps116
   go_wp2_with (first | (go_at_call 173; refine HB.out.mono ?_; rintro e w1 ⟨f1, v, rfl, ⟨x, rfl, rfl, m1⟩, p1⟩; have HCH := Lib.hid (ChS.same (HH.out.st.fr.trans f1 (New.refl _ _)) (by have := f1.size; have := HH.out.sz; omega) p1 hpb ⟨_, _, _, _, _, _, _, HH.out.box ⟨f1, p1⟩⟩ (by rw [HH.out.sz] at m1; exact m1)); clear f1 p1 m1; obtain ⟨op, kind, num, scale, text, qual, a, cap, args⟩ := x; unfold XE.val; simp only [XE.encA] at HCH))
   obtain ⟨W, hW⟩ : ∃ W, w1.alloc (.cells #[.int .i64 op, .slice a args.length cap, .int .i64 kind, .int .i64 num, .int .i64 scale, .string text, .string qual] 30) = W := ⟨_, rfl⟩
   rw [hW] at HCH
   rw [hW]
   obtain ⟨-, -, e1, e2⟩ := HCH.out.st.ps.nums
   rw [HDX.out.2.1] at e1
   have hbx := HCH.out.bx
   simp only [XE.encA] at hbx
   obtain ⟨⟨q0, q1, q2, q3, q4, q5, q6⟩, -⟩ := hbx.seven
   have HCD := Lib.hid (fun (w' : World) (hb : Below W.heap.size W w') => depth_p _ (XE.mk op kind num scale text qual a cap args) (Nat.lt_succ_self _) HDX.out.2.2.2 HDX.out.2.2.1 (HCH.out.mm.below hb))
   rw [HDX.out.1] at HCD
   simp only [XE.val] at HCD
   have HCW := Lib.hid (HCD.out W.drew (Below.refl _ _).drew)
   have HWL := Lib.hid hW
   clear hbx hW
   go_region_with (first | (go_at_call 17; refine HCW.out.mono ?_; rintro e w3 ⟨rfl, b3⟩; have HC3 := Lib.hid (ChS.stp (x := (XE.mk op kind num scale text qual a cap args)) HCH.out hpb ((Stp.refl HCH.out.st.ps).drew.below b3)); obtain ⟨-, -, k1, k2⟩ := HC3.out.st.ps.nums; rw [HDX.out.2.1] at k1; clear b3))
   all_goals
    have HC4 := Lib.hid (ChS.stp (x := (XE.mk op kind num scale text qual a cap args)) HC3.out hpb (HC3.out.st.ps.setD (max d0 dx) (by have h := HC3.out.st.ps.dp; rw [HDX.out.2.1] at h; omega)))
    obtain ⟨wz, hwz⟩ : ∃ wz, w3.setCell ⟨pb, 2, none⟩ (.int .i64 ((max d0 dx : Nat) : Int)) = wz := ⟨_, rfl⟩
    rw [hwz] at HC4
    clear q0 q1 q2 q3 q4 q5 q6
    obtain ⟨⟨q0, q1, q2, q3, q4, q5, q6⟩, -⟩ := HC4.out.bx.seven
    obtain ⟨v0, v1, v2, v3, v4, v5, v6, hb8⟩ := HC4.out.b0
    obtain ⟨⟨x0, x1, x2, x3, x4, x5, x6⟩, z0, z1, z2, z3, z4, z5, z6⟩ := hb8.seven
    clear hb8 k1 k2 e1 e2
    rw [hwz]
    go_wp2_with fail
    have hfi := HC4.out.out hpb
    exact ex_ret Tryz.results116 hfi.1 rfl rfl (by rw [← HP.out, HDX.out.2.1, HDX.out.1]; exact hfi.2)
end Go.Proofs.YtofnkfjhmjecjaaGreatDoor
