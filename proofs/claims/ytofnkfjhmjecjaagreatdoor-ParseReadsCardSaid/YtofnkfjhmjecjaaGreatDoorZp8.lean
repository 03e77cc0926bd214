/-
  Texts of mine put together, in build order.
  Conditions: as each declaration says.
-/
import Derived.Test.YtofnkfjhmjecjaaGreatDoorZp7
namespace Go.Proofs.YtofnkfjhmjecjaaGreatDoor
set_option maxRecDepth 100000
open Go.RowKit Go.Joins Go.ChangeShapes Go.WideShapes
set_option linter.unusedVariables false
set_option linter.unusedSimpArgs false
theorem gotP_true {wd : List Nat} {s : PS} (h : atP wd s = true) : (gotP wd s).2 = s.next := by unfold gotP; rw [h]; rfl
theorem gotP_false {wd : List Nat} {s : PS} (h : atP wd s = false) : (gotP wd s).2 = s := by unfold gotP; rw [h]; rfl
theorem found_yes {w : World} {pb : Nat} {s : PS} (h : PsM w pb s) {q : ByteArray} {wd : List Nat} (hq : q = strB wd) (hw : ∀ x ∈ wd, x < 256) (ha : atP wd s = true) :
  Calls Tryz.prog 38 #[.pointer (some ⟨pb, 0, none⟩), .string q] w fun e w' => e = .returned (.bool true) ∧ Stp w w' pb s.next := by
 have := found_q h hq hw
 rw [ha, gotP_true ha] at this
 exact this
theorem found_no {w : World} {pb : Nat} {s : PS} (h : PsM w pb s) {q : ByteArray} {wd : List Nat} (hq : q = strB wd) (hw : ∀ x ∈ wd, x < 256) (ha : atP wd s = false) :
  Calls Tryz.prog 38 #[.pointer (some ⟨pb, 0, none⟩), .string q] w fun e w' => e = .returned (.bool false) ∧ Stp w w' pb s := by
 have := found_q h hq hw
 rw [ha, gotP_false ha] at this
 exact this
theorem Hd.up {w w1 w3 w4 : World} {pb : Nat} {s s' : PS} (h : Hd w w1 pb s) (h3 : Stp w1 w3 pb s') (x : XE) (hm : XE.Mem (GE w1.heap.size) w3 x) (op : Nat)
  (b4 : Below (w3.alloc (.cells (xk.cells [x]).toArray 30)).heap.size (w3.alloc (.cells (xk.cells [x]).toArray 30)) w4) :
  Bx w4 w.heap.size zx 30 ∧ Bx (st7 w4 w.heap.size (.mk (op : Int) 0 0 0 ⟨#[]⟩ ⟨#[]⟩ (some ⟨w3.heap.size, 0, none⟩) 1 [x])) w.heap.size (XE.encA (.mk (op : Int) 0 0 0 ⟨#[]⟩ ⟨#[]⟩ (some ⟨w3.heap.size, 0, none⟩) 1 [x])) 30 ∧
   EndP w pb (RX1 w.heap.size) (.ok (mk1 op x.er, s')) (.returned (XE.val (.mk (op : Int) 0 0 0 ⟨#[]⟩ ⟨#[]⟩ (some ⟨w3.heap.size, 0, none⟩) 1 [x]))) (st7 w4 w.heap.size (.mk (op : Int) 0 0 0 ⟨#[]⟩ ⟨#[]⟩ (some ⟨w3.heap.size, 0, none⟩) 1 [x])) := by
 have b3 : Below w3.heap.size w3 (w3.alloc (.cells (xk.cells [x]).toArray 30)) := (Below.refl _ _).alloc (Nat.le_refl _) _
 have h4 := h3.below (b3.trans (b4.mono b3.size))
 have hz := (node1 (K := GE w1.heap.size) (op : Int) x (show w1.heap.size ≤ w3.heap.size from h3.fr.size) hm).below b4
 have hf := h.fin h4 _ hz
 refine ⟨h.box h4, hf.1, ?_⟩
 have he : XE.er (.mk (op : Int) 0 0 0 ⟨#[]⟩ ⟨#[]⟩ (some ⟨w3.heap.size, 0, none⟩) 1 [x]) = mk1 op x.er := by simp [XE.er, XE.erL, mk1]
 rw [← he]
 exact hf.2
theorem qnot : (⟨#[110, 111, 116]⟩ : ByteArray) = strB wNot := by rfl
set_option maxHeartbeats 2000000 in
theorem not_p {n pb : Nat} (hs : PX 211 n 2 pb) (ht : PX 224 n 3 pb) : PX 211 (n + 1) 2 pb := by
 intro w s r h hr
 rw [px] at hr
 generalize hP : EndP w pb (RX1 w.heap.size) r = P
 have H1 := Hd.mk' h
 obtain ⟨w1, hw1⟩ : ∃ w1, w.alloc (.cells zx 30) = w1 := ⟨_, rfl⟩
 rw [hw1] at H1
 have HH := Lib.hid H1
 have HP := Lib.hid hP
 have HMD := Lib.hid made_p
 unfold zx at hw1
 cases ha : atP wNot s with
 | true =>
  rw [if_pos ha] at hr
  have HF := Lib.hid (found_yes H1.st.ps qnot (by decide) ha)
  cases h2 : px isN n 2 s.next with
  | none => rw [h2] at hr; cases hr
  | some r2 =>
   have HC := Lib.hid (fun (w' : World) (hp : PsM w' pb s.next) => hs w' s.next r2 hp h2)
   rw [h2] at hr
   clear hs ht h2 h H1 hP ha
   match r2, hr, HC with
   | .error c, hr, HC =>
    have hrc : r = .error c := by injection hr with hr; exact hr.symm
    subst hrc
    clear hr
    go_enter Tryz.func211, Tryz.ntmps211
    go_wp2_with (first | (go_at_call 38; refine HF.out.mono ?_; rintro e w2 ⟨rfl, s2⟩; have S2 := Lib.hid s2; clear s2) | (go_at_call 211; refine (HC.out w2 S2.out.ps).mono ?_; rintro e w3 ⟨f3, rfl⟩; have F3 := Lib.hid f3; clear f3))
    exact ⟨rfl, by rw [← HP.out]; exact HH.out.err (S2.out.fr.trans F3.out (New.refl _ _)) c⟩
   | .ok (ex, s3), hr, HC =>
    have hrc : r = .ok (mk1 16 ex, s3) := by injection hr with hr; exact hr.symm
    subst hrc
    clear hr
    go_enter Tryz.func211, Tryz.ntmps211
    go_wp2_with (first | (go_at_call 38; refine HF.out.mono ?_; rintro e w2 ⟨rfl, s2⟩; have S2 := Lib.hid s2; clear s2) | (go_at_call 211; refine (HC.out w2 S2.out.ps).mono ?_; rintro e w3 ⟨f3, v, rfl, ⟨x, rfl, rfl, m3⟩, p3⟩; have H3 := Lib.hid (And.intro (S2.out.trans ⟨f3, p3⟩) (XE.Mem.mono (fun k hk => Nat.le_trans S2.out.fr.size hk) x m3)); clear f3 p3 m3; obtain ⟨op2, kind2, num2, scale2, text2, qual2, a2, cap2, args2⟩ := x; unfold XE.val) | (go_at_call 210; refine (HMD.out _ _ _ 1 1 [XE.mk op2 kind2 num2 scale2 text2 qual2 a2 cap2 args2] rfl).mono ?_; rintro e w4 ⟨rfl, b4⟩; have H4 := Lib.hid (HH.out.up H3.out.1 (XE.mk op2 kind2 num2 scale2 text2 qual2 a2 cap2 args2) H3.out.2 16 b4); clear b4; obtain ⟨⟨x0, x1, x2, x3, x4, x5, x6⟩, z0, z1, z2, z3, z4, z5, z6⟩ := H4.out.1.seven; unfold XE.val))
    exact ex_ret Tryz.results211 H4.out.2.1 rfl rfl (by rw [← HP.out]; exact H4.out.2.2)
 | false =>
  rw [if_neg (by rw [ha]; decide)] at hr
  have HF := Lib.hid (found_no H1.st.ps qnot (by decide) ha)
  have HC := Lib.hid (fun (w' : World) (hp : PsM w' pb s) => ht w' s r hp hr)
  clear hs ht h H1 hP hr ha
  match r, HC, HP with
  | .error c, HC, HP =>
   go_enter Tryz.func211, Tryz.ntmps211
   go_wp2_with (first | (go_at_call 38; refine HF.out.mono ?_; rintro e w2 ⟨rfl, s2⟩; have S2 := Lib.hid s2; clear s2) | (go_at_call 224; refine (HC.out w2 S2.out.ps).mono ?_; rintro e w3 ⟨f3, rfl⟩; have F3 := Lib.hid f3; clear f3))
   exact ⟨rfl, by rw [← HP.out]; exact HH.out.err (S2.out.fr.trans F3.out (New.refl _ _)) c⟩
  | .ok (ex, s3), HC, HP =>
   go_enter Tryz.func211, Tryz.ntmps211
   go_wp2_with (first | (go_at_call 38; refine HF.out.mono ?_; rintro e w2 ⟨rfl, s2⟩; have S2 := Lib.hid s2; clear s2) | (go_at_call 224; refine (HC.out w2 S2.out.ps).mono ?_; rintro e w3 ⟨f3, v, rfl, ⟨x, rfl, rfl, m3⟩, p3⟩; have st3 := S2.out.trans ⟨f3, p3⟩; obtain ⟨⟨x0, x1, x2, x3, x4, x5, x6⟩, z0, z1, z2, z3, z4, z5, z6⟩ := (HH.out.box st3).seven; have HFI := Lib.hid (HH.out.fin st3 x (XE.Mem.mono (fun k hk => Nat.le_trans S2.out.fr.size hk) x m3)); clear f3 p3 m3 st3; obtain ⟨op2, kind2, num2, scale2, text2, qual2, a2, cap2, args2⟩ := x; unfold XE.val))
   exact ex_ret Tryz.results211 HFI.out.1 rfl rfl (by rw [← HP.out]; exact HFI.out.2)
theorem qsign : (⟨#[45]⟩ : ByteArray) = strB [45] := by rfl
set_option maxHeartbeats 2000000 in
theorem sign_p {n pb : Nat} (hs : PX 259 n 6 pb) (ht : PX 261 n 7 pb) : PX 259 (n + 1) 6 pb := by
 intro w s r h hr
 rw [px] at hr
 generalize hP : EndP w pb (RX1 w.heap.size) r = P
 have H1 := Hd.mk' h
 obtain ⟨w1, hw1⟩ : ∃ w1, w.alloc (.cells zx 30) = w1 := ⟨_, rfl⟩
 rw [hw1] at H1
 have HH := Lib.hid H1
 have HP := Lib.hid hP
 have HMD := Lib.hid made_p
 unfold zx at hw1
 cases ha : atP [45] s with
 | true =>
  rw [if_pos ha] at hr
  have HF := Lib.hid (found_yes H1.st.ps qsign (by decide) ha)
  cases h2 : px isN n 6 s.next with
  | none => rw [h2] at hr; cases hr
  | some r2 =>
   have HC := Lib.hid (fun (w' : World) (hp : PsM w' pb s.next) => hs w' s.next r2 hp h2)
   rw [h2] at hr
   clear hs ht h2 h H1 hP ha
   match r2, hr, HC with
   | .error c, hr, HC =>
    have hrc : r = .error c := by injection hr with hr; exact hr.symm
    subst hrc
    clear hr
    go_enter Tryz.func259, Tryz.ntmps259
    go_wp2_with (first | (go_at_call 38; refine HF.out.mono ?_; rintro e w2 ⟨rfl, s2⟩; have S2 := Lib.hid s2; clear s2) | (go_at_call 259; refine (HC.out w2 S2.out.ps).mono ?_; rintro e w3 ⟨f3, rfl⟩; have F3 := Lib.hid f3; clear f3))
    exact ⟨rfl, by rw [← HP.out]; exact HH.out.err (S2.out.fr.trans F3.out (New.refl _ _)) c⟩
   | .ok (ex, s3), hr, HC =>
    have hrc : r = .ok (mk1 13 ex, s3) := by injection hr with hr; exact hr.symm
    subst hrc
    clear hr
    go_enter Tryz.func259, Tryz.ntmps259
    go_wp2_with (first | (go_at_call 38; refine HF.out.mono ?_; rintro e w2 ⟨rfl, s2⟩; have S2 := Lib.hid s2; clear s2) | (go_at_call 259; refine (HC.out w2 S2.out.ps).mono ?_; rintro e w3 ⟨f3, v, rfl, ⟨x, rfl, rfl, m3⟩, p3⟩; have H3 := Lib.hid (And.intro (S2.out.trans ⟨f3, p3⟩) (XE.Mem.mono (fun k hk => Nat.le_trans S2.out.fr.size hk) x m3)); clear f3 p3 m3; obtain ⟨op2, kind2, num2, scale2, text2, qual2, a2, cap2, args2⟩ := x; unfold XE.val) | (go_at_call 210; refine (HMD.out _ _ _ 1 1 [XE.mk op2 kind2 num2 scale2 text2 qual2 a2 cap2 args2] rfl).mono ?_; rintro e w4 ⟨rfl, b4⟩; have H4 := Lib.hid (HH.out.up H3.out.1 (XE.mk op2 kind2 num2 scale2 text2 qual2 a2 cap2 args2) H3.out.2 13 b4); clear b4; obtain ⟨⟨x0, x1, x2, x3, x4, x5, x6⟩, z0, z1, z2, z3, z4, z5, z6⟩ := H4.out.1.seven; unfold XE.val))
    exact ex_ret Tryz.results259 H4.out.2.1 rfl rfl (by rw [← HP.out]; exact H4.out.2.2)
 | false =>
  rw [if_neg (by rw [ha]; decide)] at hr
  have HF := Lib.hid (found_no H1.st.ps qsign (by decide) ha)
  have HC := Lib.hid (fun (w' : World) (hp : PsM w' pb s) => ht w' s r hp hr)
  clear hs ht h H1 hP hr ha
  match r, HC, HP with
  | .error c, HC, HP =>
   go_enter Tryz.func259, Tryz.ntmps259
   go_wp2_with (first | (go_at_call 38; refine HF.out.mono ?_; rintro e w2 ⟨rfl, s2⟩; have S2 := Lib.hid s2; clear s2) | (go_at_call 261; refine (HC.out w2 S2.out.ps).mono ?_; rintro e w3 ⟨f3, rfl⟩; have F3 := Lib.hid f3; clear f3))
   exact ⟨rfl, by rw [← HP.out]; exact HH.out.err (S2.out.fr.trans F3.out (New.refl _ _)) c⟩
  | .ok (ex, s3), HC, HP =>
   go_enter Tryz.func259, Tryz.ntmps259
   go_wp2_with (first | (go_at_call 38; refine HF.out.mono ?_; rintro e w2 ⟨rfl, s2⟩; have S2 := Lib.hid s2; clear s2) | (go_at_call 261; refine (HC.out w2 S2.out.ps).mono ?_; rintro e w3 ⟨f3, v, rfl, ⟨x, rfl, rfl, m3⟩, p3⟩; have st3 := S2.out.trans ⟨f3, p3⟩; obtain ⟨⟨x0, x1, x2, x3, x4, x5, x6⟩, z0, z1, z2, z3, z4, z5, z6⟩ := (HH.out.box st3).seven; have HFI := Lib.hid (HH.out.fin st3 x (XE.Mem.mono (fun k hk => Nat.le_trans S2.out.fr.size hk) x m3)); clear f3 p3 m3 st3; obtain ⟨op2, kind2, num2, scale2, text2, qual2, a2, cap2, args2⟩ := x; unfold XE.val))
   exact ex_ret Tryz.results259 HFI.out.1 rfl rfl (by rw [← HP.out]; exact HFI.out.2)
end Go.Proofs.YtofnkfjhmjecjaaGreatDoor

namespace Go.Proofs.YtofnkfjhmjecjaaGreatDoor
set_option maxRecDepth 100000
open Go.RowKit Go.Joins Go.ChangeShapes Go.WideShapes
set_option linter.unusedVariables false
set_option linter.unusedSimpArgs false
theorem ChS.fin {w w4 : World} {pb : Nat} {s : PS} (hS : Stp w w4 pb s) (hg : pb < w.heap.size) (b0 : ∃ u0 u1 u2 u3 u4 u5 u6, Bx w4 w.heap.size #[u0, u1, u2, u3, u4, u5, u6] 30) (z : XE) (hz : XE.Mem (fun k => w.heap.size < k) w4 z) :
  Bx (st7 w4 w.heap.size z) w.heap.size z.encA 30 ∧ EndP w pb (RX1 w.heap.size) (.ok (z.er, s)) (.returned z.val) (st7 w4 w.heap.size z) := by
 obtain ⟨u0, u1, u2, u3, u4, u5, u6, c1⟩ := b0
 have hS2 := hS.st7 (Nat.le_refl _) hg z
 refine ⟨st7_box c1 z, hS2.fr, _, rfl, ⟨z, rfl, rfl, ?_⟩, hS2.ps⟩
 have f7 : Frm (fun k => k = w.heap.size) w4 (Go.Proofs.YtofnkfjhmjecjaaGreatDoor.st7 w4 w.heap.size z) := st7_frm (F := fun k => k = w.heap.size) (Frm.refl _ _) (.inl rfl) _
 exact XE.Mem.mono (fun k hk => Nat.le_of_lt hk) z (XE.Mem.frm f7 (fun k hk e => by omega) z hz)
theorem ChS.up1 {w wr w4 : World} {pb gb : Nat} {s : PS} {x : XE} (h : ChS w wr pb gb s x) (hg : pb < w.heap.size) (op : Nat)
  (b4 : Below (wr.alloc (.cells (xk.cells [x]).toArray 30)).heap.size (wr.alloc (.cells (xk.cells [x]).toArray 30)) w4) :
  (∃ u0 u1 u2 u3 u4 u5 u6, Bx w4 w.heap.size #[u0, u1, u2, u3, u4, u5, u6] 30) ∧ Bx (st7 w4 w.heap.size (.mk (op : Int) 0 0 0 ⟨#[]⟩ ⟨#[]⟩ (some ⟨wr.heap.size, 0, none⟩) 1 [x])) w.heap.size (XE.encA (.mk (op : Int) 0 0 0 ⟨#[]⟩ ⟨#[]⟩ (some ⟨wr.heap.size, 0, none⟩) 1 [x])) 30 ∧
   EndP w pb (RX1 w.heap.size) (.ok (mk1 op x.er, s)) (.returned (XE.val (.mk (op : Int) 0 0 0 ⟨#[]⟩ ⟨#[]⟩ (some ⟨wr.heap.size, 0, none⟩) 1 [x]))) (st7 w4 w.heap.size (.mk (op : Int) 0 0 0 ⟨#[]⟩ ⟨#[]⟩ (some ⟨wr.heap.size, 0, none⟩) 1 [x])) := by
 have b3 : Below wr.heap.size wr (wr.alloc (.cells (xk.cells [x]).toArray 30)) := (Below.refl _ _).alloc (Nat.le_refl _) _
 have b := b3.trans (b4.mono b3.size)
 have hb0 : ∃ u0 u1 u2 u3 u4 u5 u6, Bx w4 w.heap.size #[u0, u1, u2, u3, u4, u5, u6] 30 := by
  obtain ⟨u0, u1, u2, u3, u4, u5, u6, c1⟩ := h.b0
  exact ⟨u0, u1, u2, u3, u4, u5, u6, c1.below b⟩
 have hlt : w.heap.size < wr.heap.size := by have := h.lg; have := h.bx.lt; omega
 have hz := (node1 (K := fun k => w.heap.size < k) (op : Int) x hlt (XE.Mem.mono (fun k hk => hk.1) x h.mm)).below b4
 have hf := ChS.fin (h.st.below b) hg hb0 _ hz
 refine ⟨hb0, hf.1, ?_⟩
 have he : XE.er (.mk (op : Int) 0 0 0 ⟨#[]⟩ ⟨#[]⟩ (some ⟨wr.heap.size, 0, none⟩) 1 [x]) = mk1 op x.er := by simp [XE.er, XE.erL, mk1]
 rw [← he]
 exact hf.2
theorem ChS.up2 {w wr w2 w4 : World} {pb gb : Nat} {s s3 : PS} {x y : XE} (h : ChS w wr pb gb s x) (hg : pb < w.heap.size) (h2 : Stp wr w2 pb s3) (hy : XE.Mem (GE wr.heap.size) w2 y) (op : Nat)
  (b4 : Below (w2.alloc (.cells (xk.cells [x, y]).toArray 30)).heap.size (w2.alloc (.cells (xk.cells [x, y]).toArray 30)) w4) :
  (∃ u0 u1 u2 u3 u4 u5 u6, Bx w4 w.heap.size #[u0, u1, u2, u3, u4, u5, u6] 30) ∧ Bx (st7 w4 w.heap.size (.mk (op : Int) 0 0 0 ⟨#[]⟩ ⟨#[]⟩ (some ⟨w2.heap.size, 0, none⟩) 2 [x, y])) w.heap.size (XE.encA (.mk (op : Int) 0 0 0 ⟨#[]⟩ ⟨#[]⟩ (some ⟨w2.heap.size, 0, none⟩) 2 [x, y])) 30 ∧
   EndP w pb (RX1 w.heap.size) (.ok (mk2 op x.er y.er, s3)) (.returned (XE.val (.mk (op : Int) 0 0 0 ⟨#[]⟩ ⟨#[]⟩ (some ⟨w2.heap.size, 0, none⟩) 2 [x, y]))) (st7 w4 w.heap.size (.mk (op : Int) 0 0 0 ⟨#[]⟩ ⟨#[]⟩ (some ⟨w2.heap.size, 0, none⟩) 2 [x, y])) := by
 have hA := h.stp hg h2
 have b3 : Below w2.heap.size w2 (w2.alloc (.cells (xk.cells [x, y]).toArray 30)) := (Below.refl _ _).alloc (Nat.le_refl _) _
 have b := b3.trans (b4.mono b3.size)
 have hb0 : ∃ u0 u1 u2 u3 u4 u5 u6, Bx w4 w.heap.size #[u0, u1, u2, u3, u4, u5, u6] 30 := by
  obtain ⟨u0, u1, u2, u3, u4, u5, u6, c1⟩ := hA.b0
  exact ⟨u0, u1, u2, u3, u4, u5, u6, c1.below b⟩
 have hlt : w.heap.size < wr.heap.size := by have := h.lg; have := h.bx.lt; omega
 have hs2 := h2.fr.size
 have hz := (node2 (K := fun k => w.heap.size < k) (op : Int) x y (by show _ < _; omega) (XE.Mem.mono (fun k hk => hk.1) x hA.mm) (XE.Mem.mono (fun k hk => by have : wr.heap.size ≤ k := hk; show _ < _; omega) y hy)).below b4
 have hf := ChS.fin (hA.st.below b) hg hb0 _ hz
 refine ⟨hb0, hf.1, ?_⟩
 have he : XE.er (.mk (op : Int) 0 0 0 ⟨#[]⟩ ⟨#[]⟩ (some ⟨w2.heap.size, 0, none⟩) 2 [x, y]) = mk2 op x.er y.er := by simp [XE.er, XE.erL, mk2]
 rw [← he]
 exact hf.2
theorem qis : (⟨#[105, 115]⟩ : ByteArray) = strB wIs := by rfl
theorem qnull : (⟨#[110, 117, 108, 108]⟩ : ByteArray) = strB wNull := by rfl
theorem cells3 : (#[.string ⟨#[61]⟩, .int .i64 1, .string ⟨#[60, 62]⟩, .int .i64 2, .string ⟨#[60]⟩, .int .i64 3, .string ⟨#[60, 61]⟩, .int .i64 4, .string ⟨#[62]⟩, .int .i64 5, .string ⟨#[62, 61]⟩, .int .i64 6] : Array Value) = (okk.cells (opB (opsP 3))).toArray := by rfl
set_option maxHeartbeats 4000000 in
theorem test_p {n pb : Nat} (hs : PX 239 n 4 pb) : PX 224 (n + 1) 3 pb := by
 intro w s r h hr
 rw [px] at hr
 generalize hP : EndP w pb (RX1 w.heap.size) r = P
 have H1 := Hd.mk' h
 have hpb := h.lt
 obtain ⟨wa, hw1⟩ : ∃ w1, w.alloc (.cells zx 30) = w1 := ⟨_, rfl⟩
 rw [hw1] at H1
 have HH := Lib.hid H1
 have HP := Lib.hid hP
 have HMD := Lib.hid made_p
 unfold zx at hw1
 cases h1 : px isN n 4 s with
 | none => rw [h1] at hr; cases hr
 | some r1 =>
  have HB := Lib.hid (hs wa s r1 H1.st.ps h1)
  rw [h1] at hr
  have HS := Lib.hid hs
  clear hs h1 h H1 hP
  match r1, hr, HB with
  | .error c, hr, HB =>
   have hrc : r = .error c := by injection hr with hr; exact hr.symm
   subst hrc
   clear hr
   go_enter Tryz.func224, Tryz.ntmps224
   go_wp2_with (first | (go_at_call 239; refine HB.out.mono ?_; rintro e w1 ⟨f1, rfl⟩; have F1 := Lib.hid f1; clear f1))
   exact ⟨rfl, by rw [← HP.out]; exact HH.out.err F1.out c⟩
  | .ok (ex, s1), hr, HB =>
   replace hr : (if atP wIs s1 = true then (if atP wNot s1.next = true then bindR (needP wNull s1.next.next) fun _ s3 => retR (mk1 20 ex) s3 else bindR (needP wNull s1.next) fun _ s3 => retR (mk1 19 ex) s3) else match whichP (opsP 3) s1 with
    | none => retR ex s1
    | some op => bindR (px isN n 4 s1.next) fun f s2 => retR (mk2 op ex f) s2) = some r := by
    refine Eq.trans ?_ hr
    unfold bindR
    by_cases c : atP wIs s1 = true
    ·rw [if_pos c]
     dsimp only
     rw [if_pos c]
    ·rw [if_neg c]
     dsimp only
     rw [if_neg c]
     cases whichP (opsP 3) s1 <;> rfl
   cases ha : atP wIs s1 with
   | true =>
    rw [if_pos ha] at hr
    have HIS := Lib.hid (fun (w' : World) (hp : PsM w' pb s1) => found_yes hp qis (by decide) ha)
    cases hb : atP wNot s1.next with
    | true =>
     rw [if_pos hb] at hr
     have HNO := Lib.hid (fun (w' : World) (hp : PsM w' pb s1.next) => found_yes hp qnot (by decide) hb)
     have HNE := Lib.hid (fun (w' : World) (hp : PsM w' pb s1.next.next) => need_q hp qnull (by decide))
     cases hn : atP wNull s1.next.next with
     | true =>
      have hrc : r = .ok (mk1 20 ex, s1.next.next.next) := by unfold needP at hr; rw [if_pos hn] at hr; injection hr with hr; exact hr.symm
      subst hrc
      have HNA := Lib.hid hn
      clear hr ha hb hn
      go_enter Tryz.func224, Tryz.ntmps224
      go_wp2_with (first | (go_at_call 239; refine HB.out.mono ?_; rintro e w1 ⟨f1, v, rfl, ⟨x, rfl, rfl, m1⟩, p1⟩; have HCH := Lib.hid (ChS.same (HH.out.st.fr.trans f1 (New.refl _ _)) (by have := f1.size; have := HH.out.sz; omega) p1 hpb ⟨_, _, _, _, _, _, _, HH.out.box ⟨f1, p1⟩⟩ (by rw [HH.out.sz] at m1; exact m1)); clear f1 p1 m1; obtain ⟨op, kind, num, scale, text, qual, a, cap, args⟩ := x; unfold XE.val; unfold XE.encA at HCH) | (go_at_call 38; refine (HIS.out _ HCH.out.st.ps).mono ?_; rintro e w2 ⟨rfl, ss⟩; have HC2 := Lib.hid (ChS.stp (x := (XE.mk op kind num scale text qual a cap args)) HCH.out hpb ss); clear ss HIS) | (go_at_call 38; refine (HNO.out _ HC2.out.st.ps).mono ?_; rintro e w3 ⟨rfl, ss⟩; have HC3 := Lib.hid (ChS.stp (x := (XE.mk op kind num scale text qual a cap args)) HC2.out hpb ss); clear ss HNO) | (go_at_call 44; refine (HNE.out _ HC3.out.st.ps).mono ?_; rintro e w4 hn; obtain ⟨rfl, ss⟩ := hn.1 HNA.out; have HC4 := Lib.hid (ChS.stp (x := (XE.mk op kind num scale text qual a cap args)) HC3.out hpb ss); obtain ⟨⟨q0, q1, q2, q3, q4, q5, q6⟩, -⟩ := HC4.out.bx.seven; clear ss hn) | (go_at_call 210; refine (HMD.out _ _ _ 1 1 [(XE.mk op kind num scale text qual a cap args)] rfl).mono ?_; rintro e w8 ⟨rfl, b8⟩; have H8 := Lib.hid (ChS.up1 (x := (XE.mk op kind num scale text qual a cap args)) HC4.out hpb 20 b8); clear b8; obtain ⟨v0, v1, v2, v3, v4, v5, v6, hb8⟩ := H8.out.1; obtain ⟨⟨x0, x1, x2, x3, x4, x5, x6⟩, z0, z1, z2, z3, z4, z5, z6⟩ := hb8.seven; clear hb8; unfold XE.val))
      exact ex_ret Tryz.results224 H8.out.2.1 rfl rfl (by rw [← HP.out]; exact H8.out.2.2)
     | false =>
      have hrc : r = .error 130 := by unfold needP at hr; rw [if_neg (by rw [hn]; decide)] at hr; injection hr with hr; exact hr.symm
      subst hrc
      have HNA := Lib.hid hn
      clear hr ha hb hn
      go_enter Tryz.func224, Tryz.ntmps224
      go_wp2_with (first | (go_at_call 239; refine HB.out.mono ?_; rintro e w1 ⟨f1, v, rfl, ⟨x, rfl, rfl, m1⟩, p1⟩; have HCH := Lib.hid (ChS.same (HH.out.st.fr.trans f1 (New.refl _ _)) (by have := f1.size; have := HH.out.sz; omega) p1 hpb ⟨_, _, _, _, _, _, _, HH.out.box ⟨f1, p1⟩⟩ (by rw [HH.out.sz] at m1; exact m1)); clear f1 p1 m1; obtain ⟨op, kind, num, scale, text, qual, a, cap, args⟩ := x; unfold XE.val; unfold XE.encA at HCH) | (go_at_call 38; refine (HIS.out _ HCH.out.st.ps).mono ?_; rintro e w2 ⟨rfl, ss⟩; have HC2 := Lib.hid (ChS.stp (x := (XE.mk op kind num scale text qual a cap args)) HCH.out hpb ss); clear ss HIS) | (go_at_call 38; refine (HNO.out _ HC2.out.st.ps).mono ?_; rintro e w3 ⟨rfl, ss⟩; have HC3 := Lib.hid (ChS.stp (x := (XE.mk op kind num scale text qual a cap args)) HC2.out hpb ss); clear ss HNO) | (go_at_call 44; refine (HNE.out _ HC3.out.st.ps).mono ?_; rintro e w4 hn; obtain ⟨rfl, ff⟩ := hn.2 HNA.out; have FN := Lib.hid (HC3.out.st.fr.trans ff (New.refl _ _)); clear ff hn))
      exact ⟨rfl, by rw [← HP.out]; exact ⟨FN.out, rfl⟩⟩
    | false =>
     rw [if_neg (by rw [hb]; decide)] at hr
     have HNO := Lib.hid (fun (w' : World) (hp : PsM w' pb s1.next) => found_no hp qnot (by decide) hb)
     have HNE := Lib.hid (fun (w' : World) (hp : PsM w' pb s1.next) => need_q hp qnull (by decide))
     cases hn : atP wNull s1.next with
     | true =>
      have hrc : r = .ok (mk1 19 ex, s1.next.next) := by unfold needP at hr; rw [if_pos hn] at hr; injection hr with hr; exact hr.symm
      subst hrc
      have HNA := Lib.hid hn
      clear hr ha hb hn
      go_enter Tryz.func224, Tryz.ntmps224
      go_wp2_with (first | (go_at_call 239; refine HB.out.mono ?_; rintro e w1 ⟨f1, v, rfl, ⟨x, rfl, rfl, m1⟩, p1⟩; have HCH := Lib.hid (ChS.same (HH.out.st.fr.trans f1 (New.refl _ _)) (by have := f1.size; have := HH.out.sz; omega) p1 hpb ⟨_, _, _, _, _, _, _, HH.out.box ⟨f1, p1⟩⟩ (by rw [HH.out.sz] at m1; exact m1)); clear f1 p1 m1; obtain ⟨op, kind, num, scale, text, qual, a, cap, args⟩ := x; unfold XE.val; unfold XE.encA at HCH) | (go_at_call 38; refine (HIS.out _ HCH.out.st.ps).mono ?_; rintro e w2 ⟨rfl, ss⟩; have HC2 := Lib.hid (ChS.stp (x := (XE.mk op kind num scale text qual a cap args)) HCH.out hpb ss); clear ss HIS) | (go_at_call 38; refine (HNO.out _ HC2.out.st.ps).mono ?_; rintro e w3 ⟨rfl, ss⟩; have HC3 := Lib.hid (ChS.stp (x := (XE.mk op kind num scale text qual a cap args)) HC2.out hpb ss); clear ss HNO) | (go_at_call 44; refine (HNE.out _ HC3.out.st.ps).mono ?_; rintro e w4 hn; obtain ⟨rfl, ss⟩ := hn.1 HNA.out; have HC4 := Lib.hid (ChS.stp (x := (XE.mk op kind num scale text qual a cap args)) HC3.out hpb ss); obtain ⟨⟨q0, q1, q2, q3, q4, q5, q6⟩, -⟩ := HC4.out.bx.seven; clear ss hn) | (go_at_call 210; refine (HMD.out _ _ _ 1 1 [(XE.mk op kind num scale text qual a cap args)] rfl).mono ?_; rintro e w8 ⟨rfl, b8⟩; have H8 := Lib.hid (ChS.up1 (x := (XE.mk op kind num scale text qual a cap args)) HC4.out hpb 19 b8); clear b8; obtain ⟨v0, v1, v2, v3, v4, v5, v6, hb8⟩ := H8.out.1; obtain ⟨⟨x0, x1, x2, x3, x4, x5, x6⟩, z0, z1, z2, z3, z4, z5, z6⟩ := hb8.seven; clear hb8; unfold XE.val))
      exact ex_ret Tryz.results224 H8.out.2.1 rfl rfl (by rw [← HP.out]; exact H8.out.2.2)
     | false =>
      have hrc : r = .error 130 := by unfold needP at hr; rw [if_neg (by rw [hn]; decide)] at hr; injection hr with hr; exact hr.symm
      subst hrc
      have HNA := Lib.hid hn
      clear hr ha hb hn
      go_enter Tryz.func224, Tryz.ntmps224
      go_wp2_with (first | (go_at_call 239; refine HB.out.mono ?_; rintro e w1 ⟨f1, v, rfl, ⟨x, rfl, rfl, m1⟩, p1⟩; have HCH := Lib.hid (ChS.same (HH.out.st.fr.trans f1 (New.refl _ _)) (by have := f1.size; have := HH.out.sz; omega) p1 hpb ⟨_, _, _, _, _, _, _, HH.out.box ⟨f1, p1⟩⟩ (by rw [HH.out.sz] at m1; exact m1)); clear f1 p1 m1; obtain ⟨op, kind, num, scale, text, qual, a, cap, args⟩ := x; unfold XE.val; unfold XE.encA at HCH) | (go_at_call 38; refine (HIS.out _ HCH.out.st.ps).mono ?_; rintro e w2 ⟨rfl, ss⟩; have HC2 := Lib.hid (ChS.stp (x := (XE.mk op kind num scale text qual a cap args)) HCH.out hpb ss); clear ss HIS) | (go_at_call 38; refine (HNO.out _ HC2.out.st.ps).mono ?_; rintro e w3 ⟨rfl, ss⟩; have HC3 := Lib.hid (ChS.stp (x := (XE.mk op kind num scale text qual a cap args)) HC2.out hpb ss); clear ss HNO) | (go_at_call 44; refine (HNE.out _ HC3.out.st.ps).mono ?_; rintro e w4 hn; obtain ⟨rfl, ff⟩ := hn.2 HNA.out; have FN := Lib.hid (HC3.out.st.fr.trans ff (New.refl _ _)); clear ff hn))
      exact ⟨rfl, by rw [← HP.out]; exact ⟨FN.out, rfl⟩⟩
   | false =>
    rw [if_neg (by rw [ha]; decide)] at hr
    have HIS := Lib.hid (fun (w' : World) (hp : PsM w' pb s1) => found_no hp qis (by decide) ha)
    have HWH := Lib.hid (fun (w' : World) (hp : PsM w' pb s1) => which_q hp (opsP 3) (opsP_bytes 3) (opsP_len 3) (n := 6) rfl cells3)
    cases hw : whichP (opsP 3) s1 with
    | none =>
     rw [hw] at hr HWH
     have hrc : r = .ok (ex, s1) := by injection hr with hr; exact hr.symm
     subst hrc
     clear hr ha hw
     go_enter Tryz.func224, Tryz.ntmps224
     go_wp2_with (first | (go_at_call 239; refine HB.out.mono ?_; rintro e w1 ⟨f1, v, rfl, ⟨x, rfl, rfl, m1⟩, p1⟩; have HCH := Lib.hid (ChS.same (HH.out.st.fr.trans f1 (New.refl _ _)) (by have := f1.size; have := HH.out.sz; omega) p1 hpb ⟨_, _, _, _, _, _, _, HH.out.box ⟨f1, p1⟩⟩ (by rw [HH.out.sz] at m1; exact m1)); clear f1 p1 m1; obtain ⟨op, kind, num, scale, text, qual, a, cap, args⟩ := x; unfold XE.val; unfold XE.encA at HCH) | (go_at_call 38; refine (HIS.out _ HCH.out.st.ps).mono ?_; rintro e w2 ⟨rfl, ss⟩; have HC2 := Lib.hid (ChS.stp (x := (XE.mk op kind num scale text qual a cap args)) HCH.out hpb ss); clear ss HIS) | (go_at_call 209; refine (HWH.out _ HC2.out.st.ps).mono ?_; rintro e w3 ⟨rfl, ss⟩; have HC3 := Lib.hid (ChS.stp (x := (XE.mk op kind num scale text qual a cap args)) HC2.out hpb ss); obtain ⟨⟨q0, q1, q2, q3, q4, q5, q6⟩, -⟩ := HC3.out.bx.seven; obtain ⟨v0, v1, v2, v3, v4, v5, v6, hb8⟩ := HC3.out.b0; obtain ⟨⟨x0, x1, x2, x3, x4, x5, x6⟩, z0, z1, z2, z3, z4, z5, z6⟩ := hb8.seven; clear hb8 ss))
     have hfi := HC3.out.out hpb
     exact ex_ret Tryz.results224 hfi.1 rfl rfl (by rw [← HP.out]; exact hfi.2)
    | some op0 =>
     rw [hw] at hr HWH
     have hop := opsP_pos hw
     have k0 : ((op0 : Int) != 0) = true := by simp; omega
     cases h2 : px isN n 4 s1.next with
     | none => rw [h2] at hr; cases hr
     | some r2 =>
      have HB2 := Lib.hid (fun (w' : World) (hp : PsM w' pb s1.next) => HS.out w' s1.next r2 hp h2)
      rw [h2] at hr
      obtain ⟨opj, hopj⟩ : ∃ j, opN (some op0) = j := ⟨_, rfl⟩
      have hopj2 : op0 = opj := hopj
      subst hopj2
      rw [hopj] at HWH
      clear ha hw h2 hopj
      match r2, hr, HB2 with
      | .error c, hr, HB2 =>
       have hrc : r = .error c := by injection hr with hr; exact hr.symm
       subst hrc
       clear hr
       go_enter Tryz.func224, Tryz.ntmps224
       go_wp2_with (first | (go_at_call 239; refine HB.out.mono ?_; rintro e w1 ⟨f1, v, rfl, ⟨x, rfl, rfl, m1⟩, p1⟩; have HCH := Lib.hid (ChS.same (HH.out.st.fr.trans f1 (New.refl _ _)) (by have := f1.size; have := HH.out.sz; omega) p1 hpb ⟨_, _, _, _, _, _, _, HH.out.box ⟨f1, p1⟩⟩ (by rw [HH.out.sz] at m1; exact m1)); clear f1 p1 m1; obtain ⟨op, kind, num, scale, text, qual, a, cap, args⟩ := x; unfold XE.val; unfold XE.encA at HCH) | (go_at_call 38; refine (HIS.out _ HCH.out.st.ps).mono ?_; rintro e w2 ⟨rfl, ss⟩; have HC2 := Lib.hid (ChS.stp (x := (XE.mk op kind num scale text qual a cap args)) HCH.out hpb ss); clear ss HIS) | (go_at_call 209; refine (HWH.out _ HC2.out.st.ps).mono ?_; rintro e w3 ⟨rfl, ss⟩; have HC3 := Lib.hid (ChS.stp (x := (XE.mk op kind num scale text qual a cap args)) HC2.out hpb ss); obtain ⟨⟨q0, q1, q2, q3, q4, q5, q6⟩, -⟩ := HC3.out.bx.seven; obtain ⟨v0, v1, v2, v3, v4, v5, v6, hb8⟩ := HC3.out.b0; obtain ⟨⟨x0, x1, x2, x3, x4, x5, x6⟩, z0, z1, z2, z3, z4, z5, z6⟩ := hb8.seven; clear hb8 ss))
       have hp3 : PsM w3 pb s1.next := HC3.out.st.ps
       go_region_dies
       all_goals
        refine (HB2.out _ (hp3.below (Below.refl _ _).drew)).mono ?_
        rintro e w4 ⟨f4, rfl⟩
        exact ⟨rfl, by rw [← HP.out]; exact ⟨HC3.out.st.drew.fr.trans f4 (New.refl _ _), rfl⟩⟩
      | .ok (ey, s3), hr, HB2 =>
       have hrc : r = .ok (mk2 op0 ex ey, s3) := by injection hr with hr; exact hr.symm
       subst hrc
       clear hr
       go_enter Tryz.func224, Tryz.ntmps224
       go_wp2_with (first | (go_at_call 239; refine HB.out.mono ?_; rintro e w1 ⟨f1, v, rfl, ⟨x, rfl, rfl, m1⟩, p1⟩; have HCH := Lib.hid (ChS.same (HH.out.st.fr.trans f1 (New.refl _ _)) (by have := f1.size; have := HH.out.sz; omega) p1 hpb ⟨_, _, _, _, _, _, _, HH.out.box ⟨f1, p1⟩⟩ (by rw [HH.out.sz] at m1; exact m1)); clear f1 p1 m1; obtain ⟨op, kind, num, scale, text, qual, a, cap, args⟩ := x; unfold XE.val; unfold XE.encA at HCH) | (go_at_call 38; refine (HIS.out _ HCH.out.st.ps).mono ?_; rintro e w2 ⟨rfl, ss⟩; have HC2 := Lib.hid (ChS.stp (x := (XE.mk op kind num scale text qual a cap args)) HCH.out hpb ss); clear ss HIS) | (go_at_call 209; refine (HWH.out _ HC2.out.st.ps).mono ?_; rintro e w3 ⟨rfl, ss⟩; have HC3 := Lib.hid (ChS.stp (x := (XE.mk op kind num scale text qual a cap args)) HC2.out hpb ss); obtain ⟨⟨q0, q1, q2, q3, q4, q5, q6⟩, -⟩ := HC3.out.bx.seven; obtain ⟨v0, v1, v2, v3, v4, v5, v6, hb8⟩ := HC3.out.b0; obtain ⟨⟨x0, x1, x2, x3, x4, x5, x6⟩, z0, z1, z2, z3, z4, z5, z6⟩ := hb8.seven; clear hb8 ss))
       have hp3 : PsM w3 pb s1.next := HC3.out.st.ps
       have HB3 := Lib.hid (HB2.out _ (hp3.below (Below.refl _ _).drew))
       have HRB := Lib.hid (fun (w4 : World) (f4 : Frm (PF pb) w3.drew w4) => HC3.out.bx.frm ((Frm.refl (PF pb) w3).drew.trans f4 (New.refl _ _)) (show ¬ w1.heap.size = pb by have := HC3.out.lg; omega))
       have HRN := Lib.hid (fun (w4 w8 : World) (y : XE) (f4 : Frm (PF pb) w3.drew w4) (p4 : PsM w4 pb s3) (hy : XE.Mem (GE w3.heap.size) w4 y) => ChS.up2 (y := y) HC3.out hpb (⟨(Frm.refl (PF pb) w3).drew.trans f4 (New.refl _ _), p4⟩ : Stp w3 w4 pb s3) hy op0 (w4 := w8))
       unfold XE.encA at HRB
       clear hp3 x0 x1 x2 x3 x4 x5 x6 z0 z1 z2 z3 z4 z5 z6
       go_region_with (first | (go_at_call 239; refine HB3.out.mono ?_; rintro e w4 ⟨f4, v, rfl, ⟨y, rfl, rfl, m4⟩, p4⟩; obtain ⟨⟨e0, e1, e2, e3, e4, e5, e6⟩, -⟩ := (HRB.out w4 f4).seven; have H4 := Lib.hid (And.intro f4 (And.intro p4 m4)); clear f4 p4 m4; obtain ⟨op2, kind2, num2, scale2, text2, qual2, a2, cap2, args2⟩ := y; unfold XE.val) | (go_at_call 210; refine (HMD.out _ _ _ 2 2 [(XE.mk op kind num scale text qual a cap args), (XE.mk op2 kind2 num2 scale2 text2 qual2 a2 cap2 args2)] rfl).mono ?_; rintro e w8 ⟨rfl, b8⟩; have H8 := Lib.hid (HRN.out w4 w8 (XE.mk op2 kind2 num2 scale2 text2 qual2 a2 cap2 args2) H4.out.1 H4.out.2.1 H4.out.2.2 b8); clear b8; obtain ⟨v0, v1, v2, v3, v4, v5, v6, hb8⟩ := H8.out.1; obtain ⟨⟨x0, x1, x2, x3, x4, x5, x6⟩, z0, z1, z2, z3, z4, z5, z6⟩ := hb8.seven; clear hb8; unfold XE.val))
       all_goals
        go_wp2_with fail
        exact ex_ret Tryz.results224 H8.out.2.1 rfl rfl (by rw [← HP.out]; exact H8.out.2.2)
end Go.Proofs.YtofnkfjhmjecjaaGreatDoor

namespace Go.Proofs.YtofnkfjhmjecjaaGreatDoor
set_option maxRecDepth 100000
open Go.RowKit Go.Joins Go.ChangeShapes Go.WideShapes
set_option linter.unusedVariables false
set_option linter.unusedSimpArgs false
def PS.setO (s : PS) (n : Nat) : PS := { s with opn := n }
def PS.setD (s : PS) (n : Nat) : PS := { s with deep := n }
theorem PsM.nums {w : World} {pb : Nat} {s : PS} (h : PsM w pb s) : w.cell? ⟨pb, 1, none⟩ = some (.int .i64 (s.opn : Int)) ∧ w.frozen? ⟨pb, 1, none⟩ = false ∧ w.cell? ⟨pb, 2, none⟩ = some (.int .i64 (s.deep : Int)) ∧ w.frozen? ⟨pb, 2, none⟩ = false := by
 obtain ⟨a, cap, h1, -⟩ := h.hd
 exact ⟨by rw [cell_of_block h1]; rfl, unfrozen_of_block h1 1, by rw [cell_of_block h1]; rfl, unfrozen_of_block h1 2⟩
theorem PsM.setO {w : World} {pb : Nat} {s : PS} (h : PsM w pb s) (n : Nat) (hn : n ≤ 40) : Stp w (w.setCell ⟨pb, 1, none⟩ (.int .i64 (n : Int))) pb (s.setO n) := by
 obtain ⟨a, cap, h1, h2, h3, h4⟩ := h.hd
 have f : Frm (PF pb) w (w.setCell ⟨pb, 1, none⟩ (.int .i64 (n : Int))) := Frm.set1 (F := PF pb) w rfl 1 _
 refine ⟨f, ⟨⟨a, cap, ?_, h2, h3, ?_⟩, h.rt, h.ln, hn, h.dp⟩⟩
 ·rw [setCell_eq_setRow w pb 1 _ _ _ _ h1, setRow_heap w pb _ _ _ _ h1]; rfl
 ·rcases h4 with h4 | ⟨g, o, e1, e2, e4⟩
  ·exact .inl h4
  ·exact .inr ⟨g, o, e1, e2, fun j u hj => (f.cell (Nat.lt_trans e2 h.lt) (show ¬ g = pb by omega) _).trans (e4 j u hj)⟩
theorem PsM.setD {w : World} {pb : Nat} {s : PS} (h : PsM w pb s) (n : Nat) (hn : n ≤ 4294967296) : Stp w (w.setCell ⟨pb, 2, none⟩ (.int .i64 (n : Int))) pb (s.setD n) := by
 obtain ⟨a, cap, h1, h2, h3, h4⟩ := h.hd
 have f : Frm (PF pb) w (w.setCell ⟨pb, 2, none⟩ (.int .i64 (n : Int))) := Frm.set1 (F := PF pb) w rfl 2 _
 refine ⟨f, ⟨⟨a, cap, ?_, h2, h3, ?_⟩, h.rt, h.ln, h.on, hn⟩⟩
 ·rw [setCell_eq_setRow w pb 2 _ _ _ _ h1, setRow_heap w pb _ _ _ _ h1]; rfl
 ·rcases h4 with h4 | ⟨g, o, e1, e2, e4⟩
  ·exact .inl h4
  ·exact .inr ⟨g, o, e1, e2, fun j u hj => (f.cell (Nat.lt_trans e2 h.lt) (show ¬ g = pb by omega) _).trans (e4 j u hj)⟩
theorem need_g {w : World} {pb : Nat} {s : PS} (h : PsM w pb s) {q : ByteArray} {wd : List Nat} (hq : q = strB wd) (hw : ∀ x ∈ wd, x < 256) {g : Nat} (hg : w.heap.size = g) :
  Calls Tryz.prog 44 #[.pointer (some ⟨pb, 0, none⟩), .slice (some ⟨g, 0, none⟩) 1 1] (w.alloc (.cells #[.string q] 9)) (NeedE w pb wd s) := by
 subst hg
 exact need_q h hq hw
theorem qshut : (⟨#[41]⟩ : ByteArray) = strB [41] := by rfl
set_option maxHeartbeats 4000000 in
theorem inner_p {n pb : Nat} (hs : PX 173 n 0 pb) : PX 263 (n + 1) 8 pb := by
 intro w s r h hr
 rw [px] at hr
 generalize hP : EndP w pb (RX1 w.heap.size) r = P
 have H1 := Hd.mk' h
 have hpb := h.lt
 obtain ⟨wa, hw1⟩ : ∃ w1, w.alloc (.cells zx 30) = w1 := ⟨_, rfl⟩
 rw [hw1] at H1
 have HH := Lib.hid H1
 have HP := Lib.hid hP
 unfold zx at hw1
 obtain ⟨c1, f1, -, -⟩ := H1.st.ps.nums
 have hpa : pb < wa.heap.size := H1.st.ps.lt
 obtain ⟨o, ho⟩ : ∃ o, s.opn = o := ⟨_, rfl⟩
 rw [ho] at c1 hr
 by_cases c : o < 40
 ·rw [if_pos c] at hr
  replace hr : (bindR (px isN n 0 (s.setO (o + 1))) fun e s1 => bindR (needP [41] s1) fun _ s2 => retR e { s2 with opn := s2.opn - 1 }) = some r := hr
  have HMO := Lib.hid (pmust_ok 5)
  have c0 : ((o : Int) < 40) := by omega
  have hw : IntKind.i64.wrap ((o : Int) + 1) = (o : Int) + 1 := by rw [IntKind.wrap_i64]; omega
  have hw2 : IntKind.i64.wrap ((o : Int) + 1 - 1) = (o : Int) := by rw [IntKind.wrap_i64]; omega
  have S1 := H1.st.ps.setO (o + 1) (by omega)
  rw [show ((o + 1 : Nat) : Int) = (o : Int) + 1 from rfl] at S1
  obtain ⟨wb, hwb⟩ : ∃ wb, wa.setCell ⟨pb, 1, none⟩ (.int .i64 ((o : Int) + 1)) = wb := ⟨_, rfl⟩
  rw [hwb] at S1
  have HH2 : Hid (Hd w wb pb (s.setO (o + 1))) := Lib.hid ⟨H1.st.trans S1, H1.box S1, by rw [← hwb]; simpa [World.setCell] using H1.sz, h.lt⟩
  cases h1 : px isN n 0 (s.setO (o + 1)) with
  | none => rw [h1] at hr; cases hr
  | some r1 =>
   have HB := Lib.hid (hs wb _ r1 S1.ps h1)
   have HU := Lib.hid (fun e s' (q : r1 = .ok (e, s')) => ((px_uses isN n).1 0 _ _ _ (by rw [h1, q])).2.1)
   rw [h1] at hr
   clear hs h1 h H1 hP S1 ho
   match r1, hr, HB with
   | .error c, hr, HB =>
    have hrc : r = .error c := by injection hr with hr; exact hr.symm
    subst hrc
    clear hr
    go_enter Tryz.func263, Tryz.ntmps263
    go_wp2_with (first | (go_at_call 21; refine (HMO.out _).mono ?_; rintro e w2 ⟨rfl, rfl⟩; clear HMO) | (go_at_call 173; refine HB.out.mono ?_; rintro e w1 ⟨f1, rfl⟩; have F1 := Lib.hid f1; clear f1))
    exact ⟨rfl, by rw [← HP.out]; exact HH2.out.err F1.out c⟩
   | .ok (ex, s1), hr, HB =>
    have hso : s1.opn = o + 1 := HU.out _ _ rfl
    replace hr : (bindR (needP [41] s1) fun _ s2 => retR ex { s2 with opn := s2.opn - 1 }) = some r := hr
    have HNE := Lib.hid (fun (w' : World) (hp : PsM w' pb s1) (g : Nat) (hg : w'.heap.size = g) => need_g hp qshut (by decide) hg)
    cases hn : atP [41] s1 with
    | true =>
     have hrc : r = .ok (ex, s1.next.setO o) := by
      unfold needP at hr
      rw [if_pos hn] at hr
      injection hr with hr
      rw [← hr]
      show Except.ok (ex, { s1.next with opn := s1.next.opn - 1 }) = _
      rw [show s1.next.opn - 1 = o by show s1.opn - 1 = o; omega]
      rfl
     subst hrc
     have HNA := Lib.hid hn
     have hsn : s1.next.opn = o + 1 := hso
     clear hr hn HU
     go_enter Tryz.func263, Tryz.ntmps263
     go_wp2_with (first | (go_at_call 21; refine (HMO.out _).mono ?_; rintro e w2 ⟨rfl, rfl⟩; clear HMO) | (go_at_call 173; refine HB.out.mono ?_; rintro e w1 ⟨f1, v, rfl, ⟨x, rfl, rfl, m1⟩, p1⟩; have HCH := Lib.hid (ChS.same (HH2.out.st.fr.trans f1 (New.refl _ _)) (by have := f1.size; have := HH2.out.sz; omega) p1 hpb ⟨_, _, _, _, _, _, _, HH2.out.box ⟨f1, p1⟩⟩ (by rw [HH2.out.sz] at m1; exact m1)); clear f1 p1 m1; obtain ⟨op, kind, num, scale, text, qual, a, cap, args⟩ := x; unfold XE.val; unfold XE.encA at HCH) | (go_at_call 44; refine (HNE.out _ HCH.out.st.ps _ (by simp)).mono ?_; rintro e w4 hn; obtain ⟨rfl, ss⟩ := hn.1 HNA.out; have HC2 := Lib.hid (ChS.stp (x := (XE.mk op kind num scale text qual a cap args)) HCH.out hpb ss); obtain ⟨k1, g1, -, -⟩ := HC2.out.st.ps.nums; rw [hsn] at k1; have k1 : w4.cell? ⟨pb, 1, none⟩ = some (.int .i64 ((o : Int) + 1)) := k1; have HC3 := Lib.hid (ChS.stp (x := (XE.mk op kind num scale text qual a cap args)) HC2.out hpb (HC2.out.st.ps.setO o (by omega))); obtain ⟨wz, hwz⟩ : ∃ wz, w4.setCell ⟨pb, 1, none⟩ (.int .i64 (o : Int)) = wz := ⟨_, rfl⟩; rw [hwz] at HC3; obtain ⟨⟨q0, q1, q2, q3, q4, q5, q6⟩, -⟩ := HC3.out.bx.seven; obtain ⟨v0, v1, v2, v3, v4, v5, v6, hb8⟩ := HC3.out.b0; obtain ⟨⟨x0, x1, x2, x3, x4, x5, x6⟩, z0, z1, z2, z3, z4, z5, z6⟩ := hb8.seven; clear hb8 ss hn))
     have hfi := HC3.out.out hpb
     exact ex_ret Tryz.results263 hfi.1 rfl rfl (by rw [← HP.out]; exact hfi.2)
    | false =>
     have hrc : r = .error 130 := by unfold needP at hr; rw [if_neg (by rw [hn]; decide)] at hr; injection hr with hr; exact hr.symm
     subst hrc
     have HNA := Lib.hid hn
     clear hr hn HU
     go_enter Tryz.func263, Tryz.ntmps263
     go_wp2_with (first | (go_at_call 21; refine (HMO.out _).mono ?_; rintro e w2 ⟨rfl, rfl⟩; clear HMO) | (go_at_call 173; refine HB.out.mono ?_; rintro e w1 ⟨f1, v, rfl, ⟨x, rfl, rfl, m1⟩, p1⟩; have HCH := Lib.hid (ChS.same (HH2.out.st.fr.trans f1 (New.refl _ _)) (by have := f1.size; have := HH2.out.sz; omega) p1 hpb ⟨_, _, _, _, _, _, _, HH2.out.box ⟨f1, p1⟩⟩ (by rw [HH2.out.sz] at m1; exact m1)); clear f1 p1 m1; obtain ⟨op, kind, num, scale, text, qual, a, cap, args⟩ := x; unfold XE.val; unfold XE.encA at HCH) | (go_at_call 44; refine (HNE.out _ HCH.out.st.ps _ (by simp)).mono ?_; rintro e w4 hn; obtain ⟨rfl, ff⟩ := hn.2 HNA.out; have FN := Lib.hid (HCH.out.st.fr.trans ff (New.refl _ _)); clear ff hn))
     exact ⟨rfl, by rw [← HP.out]; exact ⟨FN.out, rfl⟩⟩
 ·rw [if_neg c] at hr
  have hrc : r = .error 5 := by injection hr with hr; exact hr.symm
  subst hrc
  have c0 : decide ((o : Int) < 40) = false := by simp; omega
  have HMN := Lib.hid (pmust_no 5)
  clear hs h H1 hP hr
  go_enter Tryz.func263, Tryz.ntmps263
  go_wp2_with (first | (go_at_call 21; refine (HMN.out _).mono ?_; rintro e w2 ⟨rfl, rfl⟩))
  exact ⟨rfl, by rw [← HP.out]; exact HH.out.err (Frm.refl _ _) 5⟩
end Go.Proofs.YtofnkfjhmjecjaaGreatDoor
