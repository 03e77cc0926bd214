/-
  Texts of mine put together, in build order.
  Conditions: as each declaration says.
-/
import Derived.Test.YtkffomfbnbcgaaaGreatDoorZp4
namespace Go.Proofs.YtkffomfbnbcgaaaGreatDoor
set_option maxRecDepth 100000
open Go.RowKit Go.Joins Go.ChangeShapes Go.WideShapes
set_option linter.unusedVariables false
set_option linter.unusedSimpArgs false

/-- a function with an expression as result, behind the laying of its box -/
structure Hd (w w1 : World) (pb : Nat) (s : PS) : Prop where
  st : Stp w w1 pb s
  bx : Bx w1 w.heap.size zx 30
  sz : w1.heap.size = w.heap.size + 1
  hp : pb < w.heap.size
theorem Hd.mk' {w : World} {pb : Nat} {s : PS} (h : PsM w pb s) : Hd w (w.alloc (.cells zx 30)) pb s :=
  ⟨(Stp.refl h).alloc _, Bx.new _ _ _, by simp, h.lt⟩
theorem Hd.box {w w1 w2 : World} {pb : Nat} {s s' : PS} (h : Hd w w1 pb s) (h2 : Stp w1 w2 pb s') : Bx w2 w.heap.size zx 30 := h.bx.frm h2.fr (show ¬ w.heap.size = pb by have := h.hp; omega)
theorem Hd.fin {w w1 w2 : World} {pb : Nat} {s s' : PS} (h : Hd w w1 pb s) (h2 : Stp w1 w2 pb s') (x : XE) (hm : XE.Mem (GE w1.heap.size) w2 x) :
    Bx (st7 w2 w.heap.size x) w.heap.size x.encA 30 ∧ EndP w pb (RX1 w.heap.size) (.ok (x.er, s')) (.returned x.val) (st7 w2 w.heap.size x) := by
  have hS := (h.st.trans h2).st7 (Nat.le_refl _) h.hp x
  refine ⟨st7_box (h.box h2) x, hS.fr, _, rfl, ⟨x, rfl, rfl, ?_⟩, hS.ps⟩
  have f7 : Frm (fun k => k = w.heap.size) w2 (Go.Proofs.YtkffomfbnbcgaaaGreatDoor.st7 w2 w.heap.size x) := st7_frm (F := fun k => k = w.heap.size) (Frm.refl _ _) (.inl rfl) _
  have hsz := h.sz
  exact XE.Mem.mono (fun k hk => by have : w1.heap.size ≤ k := hk; show w.heap.size ≤ k; omega) x (XE.Mem.frm f7 (fun k hk e => by have : w1.heap.size ≤ k := hk; omega) x hm)
theorem Hd.err {α : Type} {w w1 w2 : World} {pb : Nat} {s : PS} {R : World → Value → α → Prop} (h : Hd w w1 pb s) (f : Frm (PF pb) w1 w2) (c : Nat) : EndP w pb R (.error c) (PPan (c : Int)) w2 := ⟨h.st.fr.trans f (New.refl _ _), rfl⟩
theorem chain_q {g n lvl pb : Nat} (hg : PX g n (lvl + 1) pb) (henter : ∀ args w, (callFunc g args).run Tryz.prog w = .ok (.enter g args) w) {w : World} {s : PS} (h : PsM w pb s) {r : Except Nat (Ex × PS)}
    (hr : (bindR (px isN n (lvl + 1) s) fun e s1 => pc isN n lvl e s1) = some r) {m : Nat} (hm : m = (opsP lvl).length) {cs : Array Value} (hcs : cs = (okk.cells (opB (opsP lvl))).toArray) :
    Calls Tryz.prog 197 #[.pointer (some ⟨pb, 0, none⟩), .func (.func g) #[.pointer (some ⟨pb, 0, none⟩)] #[], .slice (some ⟨w.heap.size, 0, none⟩) m m] (w.alloc (.cells cs 195)) (EndP w pb (RX1 w.heap.size) r) := by
  subst hm hcs
  have b1 : Below w.heap.size w (w.alloc (.cells (okk.cells (opB (opsP lvl))).toArray 195)) := (Below.refl _ _).alloc (Nat.le_refl _) _
  have hb := Bx.new w (okk.cells (opB (opsP lvl))).toArray 195
  refine (chain_p hg henter (h.below b1) hr w.heap.size h.lt hb.lt (fun j u hj => hb.cell (by simpa using hj))).mono ?_
  rintro e w' ⟨f, h1⟩
  refine ⟨((Frm.refl _ w).step b1).trans f (New.refl _ _), ?_⟩
  match r, h1 with
  | .error c, h1 => exact h1
  | .ok (a, s'), ⟨v, e1, ⟨x, e2, e3, e4⟩, e5⟩ => exact ⟨v, e1, ⟨x, e2, e3, XE.Mem.mono (fun k hk => Nat.le_trans b1.size hk) x e4⟩, e5⟩

theorem cells0 : (#[.string ⟨#[111, 114]⟩, .int .i64 18] : Array Value) = (okk.cells (opB (opsP 0))).toArray := by rfl
set_option maxHeartbeats 2000000 in
theorem expr_p {n pb : Nat} (hg : PX 198 n 1 pb) : PX 178 (n + 1) 0 pb := by
  intro w s r h hr
  have hr' : (bindR (px isN n 1 s) fun e s1 => pc isN n 0 e s1) = some r := by
    rw [px] at hr <;> first | exact hr | (intros; omega)
  have hent : ∀ args w, (callFunc 198 args).run Tryz.prog w = .ok (.enter 198 args) w := enters_of Tryz.func198 (by kernel_rfl) rfl
  generalize hP : EndP w pb (RX1 w.heap.size) r = P
  have H1 := Hd.mk' h
  obtain ⟨w1, hw1⟩ : ∃ w1, w.alloc (.cells zx 30) = w1 := ⟨_, rfl⟩
  rw [hw1] at H1
  have HC := Lib.hid (chain_q hg hent H1.st.ps hr' (m := 1) rfl cells0)
  have HH := Lib.hid H1
  have HP := Lib.hid hP
  unfold zx at hw1
  clear hr hr' hg h H1 hP
  match r, HC, HP with
  | .error c, HC, HP =>
    go_enter Tryz.func178, Tryz.ntmps178
    go_wp2_with (first | (go_at_call 197; refine HC.out.mono ?_; rintro e w2 ⟨f2, rfl⟩; have F2 := Lib.hid f2; clear f2))
    exact ⟨rfl, by rw [← HP.out]; exact HH.out.err F2.out c⟩
  | .ok (ex, s2), HC, HP =>
    go_enter Tryz.func178, Tryz.ntmps178
    go_wp2_with (first | (go_at_call 197; refine HC.out.mono ?_; rintro e w2 ⟨f2, v, rfl, ⟨x, rfl, rfl, m2⟩, p2⟩; obtain ⟨⟨x0, x1, x2, x3, x4, x5, x6⟩, z0, z1, z2, z3, z4, z5, z6⟩ := (HH.out.box ⟨f2, p2⟩).seven; have HF := Lib.hid (HH.out.fin ⟨f2, p2⟩ x m2); clear f2 p2 m2; obtain ⟨op, kind, num, scale, text, qual, a, cap, args⟩ := x; unfold XE.val))
    exact ex_ret Tryz.results178 HF.out.1 rfl rfl (by rw [← HP.out]; exact HF.out.2)

theorem cells1 : (#[.string ⟨#[97, 110, 100]⟩, .int .i64 17] : Array Value) = (okk.cells (opB (opsP 1))).toArray := by rfl
set_option maxHeartbeats 2000000 in
theorem both_p {n pb : Nat} (hg : PX 215 n 2 pb) : PX 198 (n + 1) 1 pb := by
  intro w s r h hr
  have hr' : (bindR (px isN n 2 s) fun e s1 => pc isN n 1 e s1) = some r := by
    rw [px] at hr <;> first | exact hr | (intros; omega)
  have hent : ∀ args w, (callFunc 215 args).run Tryz.prog w = .ok (.enter 215 args) w := enters_of Tryz.func215 (by kernel_rfl) rfl
  generalize hP : EndP w pb (RX1 w.heap.size) r = P
  have H1 := Hd.mk' h
  obtain ⟨w1, hw1⟩ : ∃ w1, w.alloc (.cells zx 30) = w1 := ⟨_, rfl⟩
  rw [hw1] at H1
  have HC := Lib.hid (chain_q hg hent H1.st.ps hr' (m := 1) rfl cells1)
  have HH := Lib.hid H1
  have HP := Lib.hid hP
  unfold zx at hw1
  clear hr hr' hg h H1 hP
  match r, HC, HP with
  | .error c, HC, HP =>
    go_enter Tryz.func198, Tryz.ntmps198
    go_wp2_with (first | (go_at_call 197; refine HC.out.mono ?_; rintro e w2 ⟨f2, rfl⟩; have F2 := Lib.hid f2; clear f2))
    exact ⟨rfl, by rw [← HP.out]; exact HH.out.err F2.out c⟩
  | .ok (ex, s2), HC, HP =>
    go_enter Tryz.func198, Tryz.ntmps198
    go_wp2_with (first | (go_at_call 197; refine HC.out.mono ?_; rintro e w2 ⟨f2, v, rfl, ⟨x, rfl, rfl, m2⟩, p2⟩; obtain ⟨⟨x0, x1, x2, x3, x4, x5, x6⟩, z0, z1, z2, z3, z4, z5, z6⟩ := (HH.out.box ⟨f2, p2⟩).seven; have HF := Lib.hid (HH.out.fin ⟨f2, p2⟩ x m2); clear f2 p2 m2; obtain ⟨op, kind, num, scale, text, qual, a, cap, args⟩ := x; unfold XE.val))
    exact ex_ret Tryz.results198 HF.out.1 rfl rfl (by rw [← HP.out]; exact HF.out.2)

theorem cells4 : (#[.string ⟨#[43]⟩, .int .i64 7, .string ⟨#[45]⟩, .int .i64 8, .string ⟨#[124, 124]⟩, .int .i64 12] : Array Value) = (okk.cells (opB (opsP 4))).toArray := by rfl
set_option maxHeartbeats 2000000 in
theorem sum_p {n pb : Nat} (hg : PX 257 n 5 pb) : PX 243 (n + 1) 4 pb := by
  intro w s r h hr
  have hr' : (bindR (px isN n 5 s) fun e s1 => pc isN n 4 e s1) = some r := by
    rw [px] at hr <;> first | exact hr | (intros; omega)
  have hent : ∀ args w, (callFunc 257 args).run Tryz.prog w = .ok (.enter 257 args) w := enters_of Tryz.func257 (by kernel_rfl) rfl
  generalize hP : EndP w pb (RX1 w.heap.size) r = P
  have H1 := Hd.mk' h
  obtain ⟨w1, hw1⟩ : ∃ w1, w.alloc (.cells zx 30) = w1 := ⟨_, rfl⟩
  rw [hw1] at H1
  have HC := Lib.hid (chain_q hg hent H1.st.ps hr' (m := 3) rfl cells4)
  have HH := Lib.hid H1
  have HP := Lib.hid hP
  unfold zx at hw1
  clear hr hr' hg h H1 hP
  match r, HC, HP with
  | .error c, HC, HP =>
    go_enter Tryz.func243, Tryz.ntmps243
    go_wp2_with (first | (go_at_call 197; refine HC.out.mono ?_; rintro e w2 ⟨f2, rfl⟩; have F2 := Lib.hid f2; clear f2))
    exact ⟨rfl, by rw [← HP.out]; exact HH.out.err F2.out c⟩
  | .ok (ex, s2), HC, HP =>
    go_enter Tryz.func243, Tryz.ntmps243
    go_wp2_with (first | (go_at_call 197; refine HC.out.mono ?_; rintro e w2 ⟨f2, v, rfl, ⟨x, rfl, rfl, m2⟩, p2⟩; obtain ⟨⟨x0, x1, x2, x3, x4, x5, x6⟩, z0, z1, z2, z3, z4, z5, z6⟩ := (HH.out.box ⟨f2, p2⟩).seven; have HF := Lib.hid (HH.out.fin ⟨f2, p2⟩ x m2); clear f2 p2 m2; obtain ⟨op, kind, num, scale, text, qual, a, cap, args⟩ := x; unfold XE.val))
    exact ex_ret Tryz.results243 HF.out.1 rfl rfl (by rw [← HP.out]; exact HF.out.2)

theorem cells5 : (#[.string ⟨#[42]⟩, .int .i64 9, .string ⟨#[47]⟩, .int .i64 10, .string ⟨#[37]⟩, .int .i64 11] : Array Value) = (okk.cells (opB (opsP 5))).toArray := by rfl
set_option maxHeartbeats 2000000 in
theorem term_p {n pb : Nat} (hg : PX 263 n 6 pb) : PX 257 (n + 1) 5 pb := by
  intro w s r h hr
  have hr' : (bindR (px isN n 6 s) fun e s1 => pc isN n 5 e s1) = some r := by
    rw [px] at hr <;> first | exact hr | (intros; omega)
  have hent : ∀ args w, (callFunc 263 args).run Tryz.prog w = .ok (.enter 263 args) w := enters_of Tryz.func263 (by kernel_rfl) rfl
  generalize hP : EndP w pb (RX1 w.heap.size) r = P
  have H1 := Hd.mk' h
  obtain ⟨w1, hw1⟩ : ∃ w1, w.alloc (.cells zx 30) = w1 := ⟨_, rfl⟩
  rw [hw1] at H1
  have HC := Lib.hid (chain_q hg hent H1.st.ps hr' (m := 3) rfl cells5)
  have HH := Lib.hid H1
  have HP := Lib.hid hP
  unfold zx at hw1
  clear hr hr' hg h H1 hP
  match r, HC, HP with
  | .error c, HC, HP =>
    go_enter Tryz.func257, Tryz.ntmps257
    go_wp2_with (first | (go_at_call 197; refine HC.out.mono ?_; rintro e w2 ⟨f2, rfl⟩; have F2 := Lib.hid f2; clear f2))
    exact ⟨rfl, by rw [← HP.out]; exact HH.out.err F2.out c⟩
  | .ok (ex, s2), HC, HP =>
    go_enter Tryz.func257, Tryz.ntmps257
    go_wp2_with (first | (go_at_call 197; refine HC.out.mono ?_; rintro e w2 ⟨f2, v, rfl, ⟨x, rfl, rfl, m2⟩, p2⟩; obtain ⟨⟨x0, x1, x2, x3, x4, x5, x6⟩, z0, z1, z2, z3, z4, z5, z6⟩ := (HH.out.box ⟨f2, p2⟩).seven; have HF := Lib.hid (HH.out.fin ⟨f2, p2⟩ x m2); clear f2 p2 m2; obtain ⟨op, kind, num, scale, text, qual, a, cap, args⟩ := x; unfold XE.val))
    exact ex_ret Tryz.results257 HF.out.1 rfl rfl (by rw [← HP.out]; exact HF.out.2)

end Go.Proofs.YtkffomfbnbcgaaaGreatDoor

namespace Go.Proofs.YtkffomfbnbcgaaaGreatDoor
set_option maxRecDepth 100000
open Go.RowKit Go.Joins Go.ChangeShapes Go.WideShapes
set_option linter.unusedVariables false
set_option linter.unusedSimpArgs false

theorem gotP_true {wd : List Nat} {s : PS} (h : atP wd s = true) : (gotP wd s).2 = s.next := by unfold gotP; rw [h]; rfl
theorem gotP_false {wd : List Nat} {s : PS} (h : atP wd s = false) : (gotP wd s).2 = s := by unfold gotP; rw [h]; rfl
theorem found_yes {w : World} {pb : Nat} {s : PS} (h : PsM w pb s) {q : ByteArray} {wd : List Nat} (hq : q = strB wd) (hw : ∀ x ∈ wd, x < 256) (ha : atP wd s = true) :
    Calls Tryz.prog 50 #[.pointer (some ⟨pb, 0, none⟩), .string q] w fun e w' => e = .returned (.bool true) ∧ Stp w w' pb s.next := by
  have := found_q h hq hw
  rw [ha, gotP_true ha] at this
  exact this
theorem found_no {w : World} {pb : Nat} {s : PS} (h : PsM w pb s) {q : ByteArray} {wd : List Nat} (hq : q = strB wd) (hw : ∀ x ∈ wd, x < 256) (ha : atP wd s = false) :
    Calls Tryz.prog 50 #[.pointer (some ⟨pb, 0, none⟩), .string q] w fun e w' => e = .returned (.bool false) ∧ Stp w w' pb s := by
  have := found_q h hq hw
  rw [ha, gotP_false ha] at this
  exact this
/-- an operator over the one operand that was read -/
theorem Hd.up {w w1 w3 w4 : World} {pb : Nat} {s s' : PS} (h : Hd w w1 pb s) (h3 : Stp w1 w3 pb s') (x : XE) (hm : XE.Mem (GE w1.heap.size) w3 x) (op : Nat)
    (b4 : Below (w3.alloc (.cells (xk.cells [x]).toArray 30)).heap.size (w3.alloc (.cells (xk.cells [x]).toArray 30)) w4) :
    Bx w4 w.heap.size zx 30 ∧ Bx (st7 w4 w.heap.size (.mk (op : Int) 0 0 0 ⟨#[]⟩ ⟨#[]⟩ (some ⟨w3.heap.size, 0, none⟩) 1 [x])) w.heap.size (XE.encA (.mk (op : Int) 0 0 0 ⟨#[]⟩ ⟨#[]⟩ (some ⟨w3.heap.size, 0, none⟩) 1 [x])) 30 ∧
      EndP w pb (RX1 w.heap.size) (.ok (mk1 op x.er, s')) (.returned (XE.val (.mk (op : Int) 0 0 0 ⟨#[]⟩ ⟨#[]⟩ (some ⟨w3.heap.size, 0, none⟩) 1 [x]))) (st7 w4 w.heap.size (.mk (op : Int) 0 0 0 ⟨#[]⟩ ⟨#[]⟩ (some ⟨w3.heap.size, 0, none⟩) 1 [x])) := by
  have b3 : Below w3.heap.size w3 (w3.alloc (.cells (xk.cells [x]).toArray 30)) := (Below.refl _ _).alloc (Nat.le_refl _) _
  have h4 := h3.below (b3.trans (b4.mono b3.size))
  have hz := (node1 (K := GE w1.heap.size) (op : Int) x (show w1.heap.size ≤ w3.heap.size from h3.fr.size) hm).below b4
  have hf := h.fin h4 _ hz
  refine ⟨h.box h4, hf.1, ?_⟩
  have he : XE.er (.mk (op : Int) 0 0 0 ⟨#[]⟩ ⟨#[]⟩ (some ⟨w3.heap.size, 0, none⟩) 1 [x]) = mk1 op x.er := by simp [XE.er, XE.erL, mk1]
  rw [← he]
  exact hf.2

theorem qnot : (⟨#[110, 111, 116]⟩ : ByteArray) = strB wNot := by rfl
set_option maxHeartbeats 2000000 in
theorem not_p {n pb : Nat} (hs : PX 215 n 2 pb) (ht : PX 228 n 3 pb) : PX 215 (n + 1) 2 pb := by
  intro w s r h hr
  rw [px] at hr
  generalize hP : EndP w pb (RX1 w.heap.size) r = P
  have H1 := Hd.mk' h
  obtain ⟨w1, hw1⟩ : ∃ w1, w.alloc (.cells zx 30) = w1 := ⟨_, rfl⟩
  rw [hw1] at H1
  have HH := Lib.hid H1
  have HP := Lib.hid hP
  have HMD := Lib.hid made_p
  unfold zx at hw1
  cases ha : atP wNot s with
  | true =>
    rw [if_pos ha] at hr
    have HF := Lib.hid (found_yes H1.st.ps qnot (by decide) ha)
    cases h2 : px isN n 2 s.next with
    | none => rw [h2] at hr; cases hr
    | some r2 =>
      have HC := Lib.hid (fun (w' : World) (hp : PsM w' pb s.next) => hs w' s.next r2 hp h2)
      rw [h2] at hr
      clear hs ht h2 h H1 hP ha
      match r2, hr, HC with
      | .error c, hr, HC =>
        have hrc : r = .error c := by injection hr with hr; exact hr.symm
        subst hrc
        clear hr
        go_enter Tryz.func215, Tryz.ntmps215
        go_wp2_with (first | (go_at_call 50; refine HF.out.mono ?_; rintro e w2 ⟨rfl, s2⟩; have S2 := Lib.hid s2; clear s2) | (go_at_call 215; refine (HC.out w2 S2.out.ps).mono ?_; rintro e w3 ⟨f3, rfl⟩; have F3 := Lib.hid f3; clear f3))
        exact ⟨rfl, by rw [← HP.out]; exact HH.out.err (S2.out.fr.trans F3.out (New.refl _ _)) c⟩
      | .ok (ex, s3), hr, HC =>
        have hrc : r = .ok (mk1 16 ex, s3) := by injection hr with hr; exact hr.symm
        subst hrc
        clear hr
        go_enter Tryz.func215, Tryz.ntmps215
        go_wp2_with (first | (go_at_call 50; refine HF.out.mono ?_; rintro e w2 ⟨rfl, s2⟩; have S2 := Lib.hid s2; clear s2) | (go_at_call 215; refine (HC.out w2 S2.out.ps).mono ?_; rintro e w3 ⟨f3, v, rfl, ⟨x, rfl, rfl, m3⟩, p3⟩; have H3 := Lib.hid (And.intro (S2.out.trans ⟨f3, p3⟩) (XE.Mem.mono (fun k hk => Nat.le_trans S2.out.fr.size hk) x m3)); clear f3 p3 m3; obtain ⟨op2, kind2, num2, scale2, text2, qual2, a2, cap2, args2⟩ := x; unfold XE.val) | (go_at_call 214; refine (HMD.out _ _ _ 1 1 [XE.mk op2 kind2 num2 scale2 text2 qual2 a2 cap2 args2] rfl).mono ?_; rintro e w4 ⟨rfl, b4⟩; have H4 := Lib.hid (HH.out.up H3.out.1 (XE.mk op2 kind2 num2 scale2 text2 qual2 a2 cap2 args2) H3.out.2 16 b4); clear b4; obtain ⟨⟨x0, x1, x2, x3, x4, x5, x6⟩, z0, z1, z2, z3, z4, z5, z6⟩ := H4.out.1.seven; unfold XE.val))
        exact ex_ret Tryz.results215 H4.out.2.1 rfl rfl (by rw [← HP.out]; exact H4.out.2.2)
  | false =>
    rw [if_neg (by rw [ha]; decide)] at hr
    have HF := Lib.hid (found_no H1.st.ps qnot (by decide) ha)
    have HC := Lib.hid (fun (w' : World) (hp : PsM w' pb s) => ht w' s r hp hr)
    clear hs ht h H1 hP hr ha
    match r, HC, HP with
    | .error c, HC, HP =>
      go_enter Tryz.func215, Tryz.ntmps215
      go_wp2_with (first | (go_at_call 50; refine HF.out.mono ?_; rintro e w2 ⟨rfl, s2⟩; have S2 := Lib.hid s2; clear s2) | (go_at_call 228; refine (HC.out w2 S2.out.ps).mono ?_; rintro e w3 ⟨f3, rfl⟩; have F3 := Lib.hid f3; clear f3))
      exact ⟨rfl, by rw [← HP.out]; exact HH.out.err (S2.out.fr.trans F3.out (New.refl _ _)) c⟩
    | .ok (ex, s3), HC, HP =>
      go_enter Tryz.func215, Tryz.ntmps215
      go_wp2_with (first | (go_at_call 50; refine HF.out.mono ?_; rintro e w2 ⟨rfl, s2⟩; have S2 := Lib.hid s2; clear s2) | (go_at_call 228; refine (HC.out w2 S2.out.ps).mono ?_; rintro e w3 ⟨f3, v, rfl, ⟨x, rfl, rfl, m3⟩, p3⟩; have st3 := S2.out.trans ⟨f3, p3⟩; obtain ⟨⟨x0, x1, x2, x3, x4, x5, x6⟩, z0, z1, z2, z3, z4, z5, z6⟩ := (HH.out.box st3).seven; have HFI := Lib.hid (HH.out.fin st3 x (XE.Mem.mono (fun k hk => Nat.le_trans S2.out.fr.size hk) x m3)); clear f3 p3 m3 st3; obtain ⟨op2, kind2, num2, scale2, text2, qual2, a2, cap2, args2⟩ := x; unfold XE.val))
      exact ex_ret Tryz.results215 HFI.out.1 rfl rfl (by rw [← HP.out]; exact HFI.out.2)

theorem qsign : (⟨#[45]⟩ : ByteArray) = strB [45] := by rfl
set_option maxHeartbeats 2000000 in
theorem sign_p {n pb : Nat} (hs : PX 263 n 6 pb) (ht : PX 265 n 7 pb) : PX 263 (n + 1) 6 pb := by
  intro w s r h hr
  rw [px] at hr
  generalize hP : EndP w pb (RX1 w.heap.size) r = P
  have H1 := Hd.mk' h
  obtain ⟨w1, hw1⟩ : ∃ w1, w.alloc (.cells zx 30) = w1 := ⟨_, rfl⟩
  rw [hw1] at H1
  have HH := Lib.hid H1
  have HP := Lib.hid hP
  have HMD := Lib.hid made_p
  unfold zx at hw1
  cases ha : atP [45] s with
  | true =>
    rw [if_pos ha] at hr
    have HF := Lib.hid (found_yes H1.st.ps qsign (by decide) ha)
    cases h2 : px isN n 6 s.next with
    | none => rw [h2] at hr; cases hr
    | some r2 =>
      have HC := Lib.hid (fun (w' : World) (hp : PsM w' pb s.next) => hs w' s.next r2 hp h2)
      rw [h2] at hr
      clear hs ht h2 h H1 hP ha
      match r2, hr, HC with
      | .error c, hr, HC =>
        have hrc : r = .error c := by injection hr with hr; exact hr.symm
        subst hrc
        clear hr
        go_enter Tryz.func263, Tryz.ntmps263
        go_wp2_with (first | (go_at_call 50; refine HF.out.mono ?_; rintro e w2 ⟨rfl, s2⟩; have S2 := Lib.hid s2; clear s2) | (go_at_call 263; refine (HC.out w2 S2.out.ps).mono ?_; rintro e w3 ⟨f3, rfl⟩; have F3 := Lib.hid f3; clear f3))
        exact ⟨rfl, by rw [← HP.out]; exact HH.out.err (S2.out.fr.trans F3.out (New.refl _ _)) c⟩
      | .ok (ex, s3), hr, HC =>
        have hrc : r = .ok (mk1 13 ex, s3) := by injection hr with hr; exact hr.symm
        subst hrc
        clear hr
        go_enter Tryz.func263, Tryz.ntmps263
        go_wp2_with (first | (go_at_call 50; refine HF.out.mono ?_; rintro e w2 ⟨rfl, s2⟩; have S2 := Lib.hid s2; clear s2) | (go_at_call 263; refine (HC.out w2 S2.out.ps).mono ?_; rintro e w3 ⟨f3, v, rfl, ⟨x, rfl, rfl, m3⟩, p3⟩; have H3 := Lib.hid (And.intro (S2.out.trans ⟨f3, p3⟩) (XE.Mem.mono (fun k hk => Nat.le_trans S2.out.fr.size hk) x m3)); clear f3 p3 m3; obtain ⟨op2, kind2, num2, scale2, text2, qual2, a2, cap2, args2⟩ := x; unfold XE.val) | (go_at_call 214; refine (HMD.out _ _ _ 1 1 [XE.mk op2 kind2 num2 scale2 text2 qual2 a2 cap2 args2] rfl).mono ?_; rintro e w4 ⟨rfl, b4⟩; have H4 := Lib.hid (HH.out.up H3.out.1 (XE.mk op2 kind2 num2 scale2 text2 qual2 a2 cap2 args2) H3.out.2 13 b4); clear b4; obtain ⟨⟨x0, x1, x2, x3, x4, x5, x6⟩, z0, z1, z2, z3, z4, z5, z6⟩ := H4.out.1.seven; unfold XE.val))
        exact ex_ret Tryz.results263 H4.out.2.1 rfl rfl (by rw [← HP.out]; exact H4.out.2.2)
  | false =>
    rw [if_neg (by rw [ha]; decide)] at hr
    have HF := Lib.hid (found_no H1.st.ps qsign (by decide) ha)
    have HC := Lib.hid (fun (w' : World) (hp : PsM w' pb s) => ht w' s r hp hr)
    clear hs ht h H1 hP hr ha
    match r, HC, HP with
    | .error c, HC, HP =>
      go_enter Tryz.func263, Tryz.ntmps263
      go_wp2_with (first | (go_at_call 50; refine HF.out.mono ?_; rintro e w2 ⟨rfl, s2⟩; have S2 := Lib.hid s2; clear s2) | (go_at_call 265; refine (HC.out w2 S2.out.ps).mono ?_; rintro e w3 ⟨f3, rfl⟩; have F3 := Lib.hid f3; clear f3))
      exact ⟨rfl, by rw [← HP.out]; exact HH.out.err (S2.out.fr.trans F3.out (New.refl _ _)) c⟩
    | .ok (ex, s3), HC, HP =>
      go_enter Tryz.func263, Tryz.ntmps263
      go_wp2_with (first | (go_at_call 50; refine HF.out.mono ?_; rintro e w2 ⟨rfl, s2⟩; have S2 := Lib.hid s2; clear s2) | (go_at_call 265; refine (HC.out w2 S2.out.ps).mono ?_; rintro e w3 ⟨f3, v, rfl, ⟨x, rfl, rfl, m3⟩, p3⟩; have st3 := S2.out.trans ⟨f3, p3⟩; obtain ⟨⟨x0, x1, x2, x3, x4, x5, x6⟩, z0, z1, z2, z3, z4, z5, z6⟩ := (HH.out.box st3).seven; have HFI := Lib.hid (HH.out.fin st3 x (XE.Mem.mono (fun k hk => Nat.le_trans S2.out.fr.size hk) x m3)); clear f3 p3 m3 st3; obtain ⟨op2, kind2, num2, scale2, text2, qual2, a2, cap2, args2⟩ := x; unfold XE.val))
      exact ex_ret Tryz.results263 HFI.out.1 rfl rfl (by rw [← HP.out]; exact HFI.out.2)

end Go.Proofs.YtkffomfbnbcgaaaGreatDoor

namespace Go.Proofs.YtkffomfbnbcgaaaGreatDoor
set_option maxRecDepth 100000
open Go.RowKit Go.Joins Go.ChangeShapes Go.WideShapes
set_option linter.unusedVariables false
set_option linter.unusedSimpArgs false

theorem ChS.fin {w w4 : World} {pb : Nat} {s : PS} (hS : Stp w w4 pb s) (hg : pb < w.heap.size) (b0 : ∃ u0 u1 u2 u3 u4 u5 u6, Bx w4 w.heap.size #[u0, u1, u2, u3, u4, u5, u6] 30) (z : XE) (hz : XE.Mem (fun k => w.heap.size < k) w4 z) :
    Bx (st7 w4 w.heap.size z) w.heap.size z.encA 30 ∧ EndP w pb (RX1 w.heap.size) (.ok (z.er, s)) (.returned z.val) (st7 w4 w.heap.size z) := by
  obtain ⟨u0, u1, u2, u3, u4, u5, u6, c1⟩ := b0
  have hS2 := hS.st7 (Nat.le_refl _) hg z
  refine ⟨st7_box c1 z, hS2.fr, _, rfl, ⟨z, rfl, rfl, ?_⟩, hS2.ps⟩
  have f7 : Frm (fun k => k = w.heap.size) w4 (Go.Proofs.YtkffomfbnbcgaaaGreatDoor.st7 w4 w.heap.size z) := st7_frm (F := fun k => k = w.heap.size) (Frm.refl _ _) (.inl rfl) _
  exact XE.Mem.mono (fun k hk => Nat.le_of_lt hk) z (XE.Mem.frm f7 (fun k hk e => by omega) z hz)
theorem ChS.up1 {w wr w4 : World} {pb gb : Nat} {s : PS} {x : XE} (h : ChS w wr pb gb s x) (hg : pb < w.heap.size) (op : Nat)
    (b4 : Below (wr.alloc (.cells (xk.cells [x]).toArray 30)).heap.size (wr.alloc (.cells (xk.cells [x]).toArray 30)) w4) :
    (∃ u0 u1 u2 u3 u4 u5 u6, Bx w4 w.heap.size #[u0, u1, u2, u3, u4, u5, u6] 30) ∧ Bx (st7 w4 w.heap.size (.mk (op : Int) 0 0 0 ⟨#[]⟩ ⟨#[]⟩ (some ⟨wr.heap.size, 0, none⟩) 1 [x])) w.heap.size (XE.encA (.mk (op : Int) 0 0 0 ⟨#[]⟩ ⟨#[]⟩ (some ⟨wr.heap.size, 0, none⟩) 1 [x])) 30 ∧
      EndP w pb (RX1 w.heap.size) (.ok (mk1 op x.er, s)) (.returned (XE.val (.mk (op : Int) 0 0 0 ⟨#[]⟩ ⟨#[]⟩ (some ⟨wr.heap.size, 0, none⟩) 1 [x]))) (st7 w4 w.heap.size (.mk (op : Int) 0 0 0 ⟨#[]⟩ ⟨#[]⟩ (some ⟨wr.heap.size, 0, none⟩) 1 [x])) := by
  have b3 : Below wr.heap.size wr (wr.alloc (.cells (xk.cells [x]).toArray 30)) := (Below.refl _ _).alloc (Nat.le_refl _) _
  have b := b3.trans (b4.mono b3.size)
  have hb0 : ∃ u0 u1 u2 u3 u4 u5 u6, Bx w4 w.heap.size #[u0, u1, u2, u3, u4, u5, u6] 30 := by
    obtain ⟨u0, u1, u2, u3, u4, u5, u6, c1⟩ := h.b0
    exact ⟨u0, u1, u2, u3, u4, u5, u6, c1.below b⟩
  have hlt : w.heap.size < wr.heap.size := by have := h.lg; have := h.bx.lt; omega
  have hz := (node1 (K := fun k => w.heap.size < k) (op : Int) x hlt (XE.Mem.mono (fun k hk => hk.1) x h.mm)).below b4
  have hf := ChS.fin (h.st.below b) hg hb0 _ hz
  refine ⟨hb0, hf.1, ?_⟩
  have he : XE.er (.mk (op : Int) 0 0 0 ⟨#[]⟩ ⟨#[]⟩ (some ⟨wr.heap.size, 0, none⟩) 1 [x]) = mk1 op x.er := by simp [XE.er, XE.erL, mk1]
  rw [← he]
  exact hf.2
theorem ChS.up2 {w wr w2 w4 : World} {pb gb : Nat} {s s3 : PS} {x y : XE} (h : ChS w wr pb gb s x) (hg : pb < w.heap.size) (h2 : Stp wr w2 pb s3) (hy : XE.Mem (GE wr.heap.size) w2 y) (op : Nat)
    (b4 : Below (w2.alloc (.cells (xk.cells [x, y]).toArray 30)).heap.size (w2.alloc (.cells (xk.cells [x, y]).toArray 30)) w4) :
    (∃ u0 u1 u2 u3 u4 u5 u6, Bx w4 w.heap.size #[u0, u1, u2, u3, u4, u5, u6] 30) ∧ Bx (st7 w4 w.heap.size (.mk (op : Int) 0 0 0 ⟨#[]⟩ ⟨#[]⟩ (some ⟨w2.heap.size, 0, none⟩) 2 [x, y])) w.heap.size (XE.encA (.mk (op : Int) 0 0 0 ⟨#[]⟩ ⟨#[]⟩ (some ⟨w2.heap.size, 0, none⟩) 2 [x, y])) 30 ∧
      EndP w pb (RX1 w.heap.size) (.ok (mk2 op x.er y.er, s3)) (.returned (XE.val (.mk (op : Int) 0 0 0 ⟨#[]⟩ ⟨#[]⟩ (some ⟨w2.heap.size, 0, none⟩) 2 [x, y]))) (st7 w4 w.heap.size (.mk (op : Int) 0 0 0 ⟨#[]⟩ ⟨#[]⟩ (some ⟨w2.heap.size, 0, none⟩) 2 [x, y])) := by
  have hA := h.stp hg h2
  have b3 : Below w2.heap.size w2 (w2.alloc (.cells (xk.cells [x, y]).toArray 30)) := (Below.refl _ _).alloc (Nat.le_refl _) _
  have b := b3.trans (b4.mono b3.size)
  have hb0 : ∃ u0 u1 u2 u3 u4 u5 u6, Bx w4 w.heap.size #[u0, u1, u2, u3, u4, u5, u6] 30 := by
    obtain ⟨u0, u1, u2, u3, u4, u5, u6, c1⟩ := hA.b0
    exact ⟨u0, u1, u2, u3, u4, u5, u6, c1.below b⟩
  have hlt : w.heap.size < wr.heap.size := by have := h.lg; have := h.bx.lt; omega
  have hs2 := h2.fr.size
  have hz := (node2 (K := fun k => w.heap.size < k) (op : Int) x y (by show _ < _; omega) (XE.Mem.mono (fun k hk => hk.1) x hA.mm) (XE.Mem.mono (fun k hk => by have : wr.heap.size ≤ k := hk; show _ < _; omega) y hy)).below b4
  have hf := ChS.fin (hA.st.below b) hg hb0 _ hz
  refine ⟨hb0, hf.1, ?_⟩
  have he : XE.er (.mk (op : Int) 0 0 0 ⟨#[]⟩ ⟨#[]⟩ (some ⟨w2.heap.size, 0, none⟩) 2 [x, y]) = mk2 op x.er y.er := by simp [XE.er, XE.erL, mk2]
  rw [← he]
  exact hf.2

theorem qis : (⟨#[105, 115]⟩ : ByteArray) = strB wIs := by rfl
theorem qnull : (⟨#[110, 117, 108, 108]⟩ : ByteArray) = strB wNull := by rfl
theorem cells3 : (#[.string ⟨#[61]⟩, .int .i64 1, .string ⟨#[60, 62]⟩, .int .i64 2, .string ⟨#[60]⟩, .int .i64 3, .string ⟨#[60, 61]⟩, .int .i64 4, .string ⟨#[62]⟩, .int .i64 5, .string ⟨#[62, 61]⟩, .int .i64 6] : Array Value) = (okk.cells (opB (opsP 3))).toArray := by rfl
set_option maxHeartbeats 4000000 in
theorem test_p {n pb : Nat} (hs : PX 243 n 4 pb) : PX 228 (n + 1) 3 pb := by
  intro w s r h hr
  rw [px] at hr
  generalize hP : EndP w pb (RX1 w.heap.size) r = P
  have H1 := Hd.mk' h
  have hpb := h.lt
  obtain ⟨wa, hw1⟩ : ∃ w1, w.alloc (.cells zx 30) = w1 := ⟨_, rfl⟩
  rw [hw1] at H1
  have HH := Lib.hid H1
  have HP := Lib.hid hP
  have HMD := Lib.hid made_p
  unfold zx at hw1
  cases h1 : px isN n 4 s with
  | none => rw [h1] at hr; cases hr
  | some r1 =>
    have HB := Lib.hid (hs wa s r1 H1.st.ps h1)
    rw [h1] at hr
    have HS := Lib.hid hs
    clear hs h1 h H1 hP
    match r1, hr, HB with
    | .error c, hr, HB =>
      have hrc : r = .error c := by injection hr with hr; exact hr.symm
      subst hrc
      clear hr
      go_enter Tryz.func228, Tryz.ntmps228
      go_wp2_with (first | (go_at_call 243; refine HB.out.mono ?_; rintro e w1 ⟨f1, rfl⟩; have F1 := Lib.hid f1; clear f1))
      exact ⟨rfl, by rw [← HP.out]; exact HH.out.err F1.out c⟩
    | .ok (ex, s1), hr, HB =>
      replace hr : (if atP wIs s1 = true then (if atP wNot s1.next = true then bindR (needP wNull s1.next.next) fun _ s3 => retR (mk1 20 ex) s3 else bindR (needP wNull s1.next) fun _ s3 => retR (mk1 19 ex) s3) else match whichP (opsP 3) s1 with
        | none => retR ex s1
        | some op => bindR (px isN n 4 s1.next) fun f s2 => retR (mk2 op ex f) s2) = some r := by
        refine Eq.trans ?_ hr
        unfold bindR
        by_cases c : atP wIs s1 = true
        · rw [if_pos c]
          dsimp only
          rw [if_pos c]
        · rw [if_neg c]
          dsimp only
          rw [if_neg c]
          cases whichP (opsP 3) s1 <;> rfl
      cases ha : atP wIs s1 with
      | true =>
        rw [if_pos ha] at hr
        have HIS := Lib.hid (fun (w' : World) (hp : PsM w' pb s1) => found_yes hp qis (by decide) ha)
        cases hb : atP wNot s1.next with
        | true =>
          rw [if_pos hb] at hr
          have HNO := Lib.hid (fun (w' : World) (hp : PsM w' pb s1.next) => found_yes hp qnot (by decide) hb)
          have HNE := Lib.hid (fun (w' : World) (hp : PsM w' pb s1.next.next) => need_q hp qnull (by decide))
          cases hn : atP wNull s1.next.next with
          | true =>
            have hrc : r = .ok (mk1 20 ex, s1.next.next.next) := by unfold needP at hr; rw [if_pos hn] at hr; injection hr with hr; exact hr.symm
            subst hrc
            have HNA := Lib.hid hn
            clear hr ha hb hn
            go_enter Tryz.func228, Tryz.ntmps228
            go_wp2_with (first | (go_at_call 243; refine HB.out.mono ?_; rintro e w1 ⟨f1, v, rfl, ⟨x, rfl, rfl, m1⟩, p1⟩; have HCH := Lib.hid (ChS.same (HH.out.st.fr.trans f1 (New.refl _ _)) (by have := f1.size; have := HH.out.sz; omega) p1 hpb ⟨_, _, _, _, _, _, _, HH.out.box ⟨f1, p1⟩⟩ (by rw [HH.out.sz] at m1; exact m1)); clear f1 p1 m1; obtain ⟨op, kind, num, scale, text, qual, a, cap, args⟩ := x; unfold XE.val; unfold XE.encA at HCH) | (go_at_call 50; refine (HIS.out _ HCH.out.st.ps).mono ?_; rintro e w2 ⟨rfl, ss⟩; have HC2 := Lib.hid (ChS.stp (x := (XE.mk op kind num scale text qual a cap args)) HCH.out hpb ss); clear ss HIS) | (go_at_call 50; refine (HNO.out _ HC2.out.st.ps).mono ?_; rintro e w3 ⟨rfl, ss⟩; have HC3 := Lib.hid (ChS.stp (x := (XE.mk op kind num scale text qual a cap args)) HC2.out hpb ss); clear ss HNO) | (go_at_call 56; refine (HNE.out _ HC3.out.st.ps).mono ?_; rintro e w4 hn; obtain ⟨rfl, ss⟩ := hn.1 HNA.out; have HC4 := Lib.hid (ChS.stp (x := (XE.mk op kind num scale text qual a cap args)) HC3.out hpb ss); obtain ⟨⟨q0, q1, q2, q3, q4, q5, q6⟩, -⟩ := HC4.out.bx.seven; clear ss hn) | (go_at_call 214; refine (HMD.out _ _ _ 1 1 [(XE.mk op kind num scale text qual a cap args)] rfl).mono ?_; rintro e w8 ⟨rfl, b8⟩; have H8 := Lib.hid (ChS.up1 (x := (XE.mk op kind num scale text qual a cap args)) HC4.out hpb 20 b8); clear b8; obtain ⟨v0, v1, v2, v3, v4, v5, v6, hb8⟩ := H8.out.1; obtain ⟨⟨x0, x1, x2, x3, x4, x5, x6⟩, z0, z1, z2, z3, z4, z5, z6⟩ := hb8.seven; clear hb8; unfold XE.val))
            exact ex_ret Tryz.results228 H8.out.2.1 rfl rfl (by rw [← HP.out]; exact H8.out.2.2)
          | false =>
            have hrc : r = .error 130 := by unfold needP at hr; rw [if_neg (by rw [hn]; decide)] at hr; injection hr with hr; exact hr.symm
            subst hrc
            have HNA := Lib.hid hn
            clear hr ha hb hn
            go_enter Tryz.func228, Tryz.ntmps228
            go_wp2_with (first | (go_at_call 243; refine HB.out.mono ?_; rintro e w1 ⟨f1, v, rfl, ⟨x, rfl, rfl, m1⟩, p1⟩; have HCH := Lib.hid (ChS.same (HH.out.st.fr.trans f1 (New.refl _ _)) (by have := f1.size; have := HH.out.sz; omega) p1 hpb ⟨_, _, _, _, _, _, _, HH.out.box ⟨f1, p1⟩⟩ (by rw [HH.out.sz] at m1; exact m1)); clear f1 p1 m1; obtain ⟨op, kind, num, scale, text, qual, a, cap, args⟩ := x; unfold XE.val; unfold XE.encA at HCH) | (go_at_call 50; refine (HIS.out _ HCH.out.st.ps).mono ?_; rintro e w2 ⟨rfl, ss⟩; have HC2 := Lib.hid (ChS.stp (x := (XE.mk op kind num scale text qual a cap args)) HCH.out hpb ss); clear ss HIS) | (go_at_call 50; refine (HNO.out _ HC2.out.st.ps).mono ?_; rintro e w3 ⟨rfl, ss⟩; have HC3 := Lib.hid (ChS.stp (x := (XE.mk op kind num scale text qual a cap args)) HC2.out hpb ss); clear ss HNO) | (go_at_call 56; refine (HNE.out _ HC3.out.st.ps).mono ?_; rintro e w4 hn; obtain ⟨rfl, ff⟩ := hn.2 HNA.out; have FN := Lib.hid (HC3.out.st.fr.trans ff (New.refl _ _)); clear ff hn))
            exact ⟨rfl, by rw [← HP.out]; exact ⟨FN.out, rfl⟩⟩
        | false =>
          rw [if_neg (by rw [hb]; decide)] at hr
          have HNO := Lib.hid (fun (w' : World) (hp : PsM w' pb s1.next) => found_no hp qnot (by decide) hb)
          have HNE := Lib.hid (fun (w' : World) (hp : PsM w' pb s1.next) => need_q hp qnull (by decide))
          cases hn : atP wNull s1.next with
          | true =>
            have hrc : r = .ok (mk1 19 ex, s1.next.next) := by unfold needP at hr; rw [if_pos hn] at hr; injection hr with hr; exact hr.symm
            subst hrc
            have HNA := Lib.hid hn
            clear hr ha hb hn
            go_enter Tryz.func228, Tryz.ntmps228
            go_wp2_with (first | (go_at_call 243; refine HB.out.mono ?_; rintro e w1 ⟨f1, v, rfl, ⟨x, rfl, rfl, m1⟩, p1⟩; have HCH := Lib.hid (ChS.same (HH.out.st.fr.trans f1 (New.refl _ _)) (by have := f1.size; have := HH.out.sz; omega) p1 hpb ⟨_, _, _, _, _, _, _, HH.out.box ⟨f1, p1⟩⟩ (by rw [HH.out.sz] at m1; exact m1)); clear f1 p1 m1; obtain ⟨op, kind, num, scale, text, qual, a, cap, args⟩ := x; unfold XE.val; unfold XE.encA at HCH) | (go_at_call 50; refine (HIS.out _ HCH.out.st.ps).mono ?_; rintro e w2 ⟨rfl, ss⟩; have HC2 := Lib.hid (ChS.stp (x := (XE.mk op kind num scale text qual a cap args)) HCH.out hpb ss); clear ss HIS) | (go_at_call 50; refine (HNO.out _ HC2.out.st.ps).mono ?_; rintro e w3 ⟨rfl, ss⟩; have HC3 := Lib.hid (ChS.stp (x := (XE.mk op kind num scale text qual a cap args)) HC2.out hpb ss); clear ss HNO) | (go_at_call 56; refine (HNE.out _ HC3.out.st.ps).mono ?_; rintro e w4 hn; obtain ⟨rfl, ss⟩ := hn.1 HNA.out; have HC4 := Lib.hid (ChS.stp (x := (XE.mk op kind num scale text qual a cap args)) HC3.out hpb ss); obtain ⟨⟨q0, q1, q2, q3, q4, q5, q6⟩, -⟩ := HC4.out.bx.seven; clear ss hn) | (go_at_call 214; refine (HMD.out _ _ _ 1 1 [(XE.mk op kind num scale text qual a cap args)] rfl).mono ?_; rintro e w8 ⟨rfl, b8⟩; have H8 := Lib.hid (ChS.up1 (x := (XE.mk op kind num scale text qual a cap args)) HC4.out hpb 19 b8); clear b8; obtain ⟨v0, v1, v2, v3, v4, v5, v6, hb8⟩ := H8.out.1; obtain ⟨⟨x0, x1, x2, x3, x4, x5, x6⟩, z0, z1, z2, z3, z4, z5, z6⟩ := hb8.seven; clear hb8; unfold XE.val))
            exact ex_ret Tryz.results228 H8.out.2.1 rfl rfl (by rw [← HP.out]; exact H8.out.2.2)
          | false =>
            have hrc : r = .error 130 := by unfold needP at hr; rw [if_neg (by rw [hn]; decide)] at hr; injection hr with hr; exact hr.symm
            subst hrc
            have HNA := Lib.hid hn
            clear hr ha hb hn
            go_enter Tryz.func228, Tryz.ntmps228
            go_wp2_with (first | (go_at_call 243; refine HB.out.mono ?_; rintro e w1 ⟨f1, v, rfl, ⟨x, rfl, rfl, m1⟩, p1⟩; have HCH := Lib.hid (ChS.same (HH.out.st.fr.trans f1 (New.refl _ _)) (by have := f1.size; have := HH.out.sz; omega) p1 hpb ⟨_, _, _, _, _, _, _, HH.out.box ⟨f1, p1⟩⟩ (by rw [HH.out.sz] at m1; exact m1)); clear f1 p1 m1; obtain ⟨op, kind, num, scale, text, qual, a, cap, args⟩ := x; unfold XE.val; unfold XE.encA at HCH) | (go_at_call 50; refine (HIS.out _ HCH.out.st.ps).mono ?_; rintro e w2 ⟨rfl, ss⟩; have HC2 := Lib.hid (ChS.stp (x := (XE.mk op kind num scale text qual a cap args)) HCH.out hpb ss); clear ss HIS) | (go_at_call 50; refine (HNO.out _ HC2.out.st.ps).mono ?_; rintro e w3 ⟨rfl, ss⟩; have HC3 := Lib.hid (ChS.stp (x := (XE.mk op kind num scale text qual a cap args)) HC2.out hpb ss); clear ss HNO) | (go_at_call 56; refine (HNE.out _ HC3.out.st.ps).mono ?_; rintro e w4 hn; obtain ⟨rfl, ff⟩ := hn.2 HNA.out; have FN := Lib.hid (HC3.out.st.fr.trans ff (New.refl _ _)); clear ff hn))
            exact ⟨rfl, by rw [← HP.out]; exact ⟨FN.out, rfl⟩⟩
      | false =>
        rw [if_neg (by rw [ha]; decide)] at hr
        have HIS := Lib.hid (fun (w' : World) (hp : PsM w' pb s1) => found_no hp qis (by decide) ha)
        have HWH := Lib.hid (fun (w' : World) (hp : PsM w' pb s1) => which_q hp (opsP 3) (opsP_bytes 3) (opsP_len 3) (n := 6) rfl cells3)
        cases hw : whichP (opsP 3) s1 with
        | none =>
          rw [hw] at hr HWH
          have hrc : r = .ok (ex, s1) := by injection hr with hr; exact hr.symm
          subst hrc
          clear hr ha hw
          go_enter Tryz.func228, Tryz.ntmps228
          go_wp2_with (first | (go_at_call 243; refine HB.out.mono ?_; rintro e w1 ⟨f1, v, rfl, ⟨x, rfl, rfl, m1⟩, p1⟩; have HCH := Lib.hid (ChS.same (HH.out.st.fr.trans f1 (New.refl _ _)) (by have := f1.size; have := HH.out.sz; omega) p1 hpb ⟨_, _, _, _, _, _, _, HH.out.box ⟨f1, p1⟩⟩ (by rw [HH.out.sz] at m1; exact m1)); clear f1 p1 m1; obtain ⟨op, kind, num, scale, text, qual, a, cap, args⟩ := x; unfold XE.val; unfold XE.encA at HCH) | (go_at_call 50; refine (HIS.out _ HCH.out.st.ps).mono ?_; rintro e w2 ⟨rfl, ss⟩; have HC2 := Lib.hid (ChS.stp (x := (XE.mk op kind num scale text qual a cap args)) HCH.out hpb ss); clear ss HIS) | (go_at_call 213; refine (HWH.out _ HC2.out.st.ps).mono ?_; rintro e w3 ⟨rfl, ss⟩; have HC3 := Lib.hid (ChS.stp (x := (XE.mk op kind num scale text qual a cap args)) HC2.out hpb ss); obtain ⟨⟨q0, q1, q2, q3, q4, q5, q6⟩, -⟩ := HC3.out.bx.seven; obtain ⟨v0, v1, v2, v3, v4, v5, v6, hb8⟩ := HC3.out.b0; obtain ⟨⟨x0, x1, x2, x3, x4, x5, x6⟩, z0, z1, z2, z3, z4, z5, z6⟩ := hb8.seven; clear hb8 ss))
          have hfi := HC3.out.out hpb
          exact ex_ret Tryz.results228 hfi.1 rfl rfl (by rw [← HP.out]; exact hfi.2)
        | some op0 =>
          rw [hw] at hr HWH
          have hop := opsP_pos hw
          have k0 : ((op0 : Int) != 0) = true := by simp; omega
          cases h2 : px isN n 4 s1.next with
          | none => rw [h2] at hr; cases hr
          | some r2 =>
            have HB2 := Lib.hid (fun (w' : World) (hp : PsM w' pb s1.next) => HS.out w' s1.next r2 hp h2)
            rw [h2] at hr
            obtain ⟨opj, hopj⟩ : ∃ j, opN (some op0) = j := ⟨_, rfl⟩
            have hopj2 : op0 = opj := hopj
            subst hopj2
            rw [hopj] at HWH
            clear ha hw h2 hopj
            match r2, hr, HB2 with
            | .error c, hr, HB2 =>
              have hrc : r = .error c := by injection hr with hr; exact hr.symm
              subst hrc
              clear hr
              go_enter Tryz.func228, Tryz.ntmps228
              go_wp2_with (first | (go_at_call 243; refine HB.out.mono ?_; rintro e w1 ⟨f1, v, rfl, ⟨x, rfl, rfl, m1⟩, p1⟩; have HCH := Lib.hid (ChS.same (HH.out.st.fr.trans f1 (New.refl _ _)) (by have := f1.size; have := HH.out.sz; omega) p1 hpb ⟨_, _, _, _, _, _, _, HH.out.box ⟨f1, p1⟩⟩ (by rw [HH.out.sz] at m1; exact m1)); clear f1 p1 m1; obtain ⟨op, kind, num, scale, text, qual, a, cap, args⟩ := x; unfold XE.val; unfold XE.encA at HCH) | (go_at_call 50; refine (HIS.out _ HCH.out.st.ps).mono ?_; rintro e w2 ⟨rfl, ss⟩; have HC2 := Lib.hid (ChS.stp (x := (XE.mk op kind num scale text qual a cap args)) HCH.out hpb ss); clear ss HIS) | (go_at_call 213; refine (HWH.out _ HC2.out.st.ps).mono ?_; rintro e w3 ⟨rfl, ss⟩; have HC3 := Lib.hid (ChS.stp (x := (XE.mk op kind num scale text qual a cap args)) HC2.out hpb ss); obtain ⟨⟨q0, q1, q2, q3, q4, q5, q6⟩, -⟩ := HC3.out.bx.seven; obtain ⟨v0, v1, v2, v3, v4, v5, v6, hb8⟩ := HC3.out.b0; obtain ⟨⟨x0, x1, x2, x3, x4, x5, x6⟩, z0, z1, z2, z3, z4, z5, z6⟩ := hb8.seven; clear hb8 ss))
              have hp3 : PsM w3 pb s1.next := HC3.out.st.ps
              go_region_dies
              all_goals
                refine (HB2.out _ (hp3.below (Below.refl _ _).drew)).mono ?_
                rintro e w4 ⟨f4, rfl⟩
                exact ⟨rfl, by rw [← HP.out]; exact ⟨HC3.out.st.drew.fr.trans f4 (New.refl _ _), rfl⟩⟩
            | .ok (ey, s3), hr, HB2 =>
              have hrc : r = .ok (mk2 op0 ex ey, s3) := by injection hr with hr; exact hr.symm
              subst hrc
              clear hr
              go_enter Tryz.func228, Tryz.ntmps228
              go_wp2_with (first | (go_at_call 243; refine HB.out.mono ?_; rintro e w1 ⟨f1, v, rfl, ⟨x, rfl, rfl, m1⟩, p1⟩; have HCH := Lib.hid (ChS.same (HH.out.st.fr.trans f1 (New.refl _ _)) (by have := f1.size; have := HH.out.sz; omega) p1 hpb ⟨_, _, _, _, _, _, _, HH.out.box ⟨f1, p1⟩⟩ (by rw [HH.out.sz] at m1; exact m1)); clear f1 p1 m1; obtain ⟨op, kind, num, scale, text, qual, a, cap, args⟩ := x; unfold XE.val; unfold XE.encA at HCH) | (go_at_call 50; refine (HIS.out _ HCH.out.st.ps).mono ?_; rintro e w2 ⟨rfl, ss⟩; have HC2 := Lib.hid (ChS.stp (x := (XE.mk op kind num scale text qual a cap args)) HCH.out hpb ss); clear ss HIS) | (go_at_call 213; refine (HWH.out _ HC2.out.st.ps).mono ?_; rintro e w3 ⟨rfl, ss⟩; have HC3 := Lib.hid (ChS.stp (x := (XE.mk op kind num scale text qual a cap args)) HC2.out hpb ss); obtain ⟨⟨q0, q1, q2, q3, q4, q5, q6⟩, -⟩ := HC3.out.bx.seven; obtain ⟨v0, v1, v2, v3, v4, v5, v6, hb8⟩ := HC3.out.b0; obtain ⟨⟨x0, x1, x2, x3, x4, x5, x6⟩, z0, z1, z2, z3, z4, z5, z6⟩ := hb8.seven; clear hb8 ss))
              have hp3 : PsM w3 pb s1.next := HC3.out.st.ps
              have HB3 := Lib.hid (HB2.out _ (hp3.below (Below.refl _ _).drew))
              have HRB := Lib.hid (fun (w4 : World) (f4 : Frm (PF pb) w3.drew w4) => HC3.out.bx.frm ((Frm.refl (PF pb) w3).drew.trans f4 (New.refl _ _)) (show ¬ w1.heap.size = pb by have := HC3.out.lg; omega))
              have HRN := Lib.hid (fun (w4 w8 : World) (y : XE) (f4 : Frm (PF pb) w3.drew w4) (p4 : PsM w4 pb s3) (hy : XE.Mem (GE w3.heap.size) w4 y) => ChS.up2 (y := y) HC3.out hpb (⟨(Frm.refl (PF pb) w3).drew.trans f4 (New.refl _ _), p4⟩ : Stp w3 w4 pb s3) hy op0 (w4 := w8))
              unfold XE.encA at HRB
              clear hp3 x0 x1 x2 x3 x4 x5 x6 z0 z1 z2 z3 z4 z5 z6
              go_region_with (first | (go_at_call 243; refine HB3.out.mono ?_; rintro e w4 ⟨f4, v, rfl, ⟨y, rfl, rfl, m4⟩, p4⟩; obtain ⟨⟨e0, e1, e2, e3, e4, e5, e6⟩, -⟩ := (HRB.out w4 f4).seven; have H4 := Lib.hid (And.intro f4 (And.intro p4 m4)); clear f4 p4 m4; obtain ⟨op2, kind2, num2, scale2, text2, qual2, a2, cap2, args2⟩ := y; unfold XE.val) | (go_at_call 214; refine (HMD.out _ _ _ 2 2 [(XE.mk op kind num scale text qual a cap args), (XE.mk op2 kind2 num2 scale2 text2 qual2 a2 cap2 args2)] rfl).mono ?_; rintro e w8 ⟨rfl, b8⟩; have H8 := Lib.hid (HRN.out w4 w8 (XE.mk op2 kind2 num2 scale2 text2 qual2 a2 cap2 args2) H4.out.1 H4.out.2.1 H4.out.2.2 b8); clear b8; obtain ⟨v0, v1, v2, v3, v4, v5, v6, hb8⟩ := H8.out.1; obtain ⟨⟨x0, x1, x2, x3, x4, x5, x6⟩, z0, z1, z2, z3, z4, z5, z6⟩ := hb8.seven; clear hb8; unfold XE.val))
              all_goals
                go_wp2_with fail
                exact ex_ret Tryz.results228 H8.out.2.1 rfl rfl (by rw [← HP.out]; exact H8.out.2.2)

end Go.Proofs.YtkffomfbnbcgaaaGreatDoor

namespace Go.Proofs.YtkffomfbnbcgaaaGreatDoor
set_option maxRecDepth 100000
open Go.RowKit Go.Joins Go.ChangeShapes Go.WideShapes
set_option linter.unusedVariables false
set_option linter.unusedSimpArgs false

def PS.setO (s : PS) (n : Nat) : PS := { s with opn := n }
def PS.setD (s : PS) (n : Nat) : PS := { s with deep := n }
/-- the parser's other cells -/
theorem PsM.nums {w : World} {pb : Nat} {s : PS} (h : PsM w pb s) : w.cell? ⟨pb, 1, none⟩ = some (.int .i64 (s.opn : Int)) ∧ w.frozen? ⟨pb, 1, none⟩ = false ∧ w.cell? ⟨pb, 2, none⟩ = some (.int .i64 (s.deep : Int)) ∧ w.frozen? ⟨pb, 2, none⟩ = false := by
  obtain ⟨a, cap, h1, -⟩ := h.hd
  exact ⟨by rw [cell_of_block h1]; rfl, unfrozen_of_block h1 1, by rw [cell_of_block h1]; rfl, unfrozen_of_block h1 2⟩
theorem PsM.setO {w : World} {pb : Nat} {s : PS} (h : PsM w pb s) (n : Nat) (hn : n ≤ 40) : Stp w (w.setCell ⟨pb, 1, none⟩ (.int .i64 (n : Int))) pb (s.setO n) := by
  obtain ⟨a, cap, h1, h2, h3, h4⟩ := h.hd
  have f : Frm (PF pb) w (w.setCell ⟨pb, 1, none⟩ (.int .i64 (n : Int))) := Frm.set1 (F := PF pb) w rfl 1 _
  refine ⟨f, ⟨⟨a, cap, ?_, h2, h3, ?_⟩, h.rt, h.ln, hn, h.dp⟩⟩
  · rw [setCell_eq_setRow w pb 1 _ _ _ _ h1, setRow_heap w pb _ _ _ _ h1]; rfl
  · rcases h4 with h4 | ⟨g, o, e1, e2, e4⟩
    · exact .inl h4
    · exact .inr ⟨g, o, e1, e2, fun j u hj => (f.cell (Nat.lt_trans e2 h.lt) (show ¬ g = pb by omega) _).trans (e4 j u hj)⟩
theorem PsM.setD {w : World} {pb : Nat} {s : PS} (h : PsM w pb s) (n : Nat) (hn : n ≤ 4294967296) : Stp w (w.setCell ⟨pb, 2, none⟩ (.int .i64 (n : Int))) pb (s.setD n) := by
  obtain ⟨a, cap, h1, h2, h3, h4⟩ := h.hd
  have f : Frm (PF pb) w (w.setCell ⟨pb, 2, none⟩ (.int .i64 (n : Int))) := Frm.set1 (F := PF pb) w rfl 2 _
  refine ⟨f, ⟨⟨a, cap, ?_, h2, h3, ?_⟩, h.rt, h.ln, h.on, hn⟩⟩
  · rw [setCell_eq_setRow w pb 2 _ _ _ _ h1, setRow_heap w pb _ _ _ _ h1]; rfl
  · rcases h4 with h4 | ⟨g, o, e1, e2, e4⟩
    · exact .inl h4
    · exact .inr ⟨g, o, e1, e2, fun j u hj => (f.cell (Nat.lt_trans e2 h.lt) (show ¬ g = pb by omega) _).trans (e4 j u hj)⟩
theorem need_g {w : World} {pb : Nat} {s : PS} (h : PsM w pb s) {q : ByteArray} {wd : List Nat} (hq : q = strB wd) (hw : ∀ x ∈ wd, x < 256) {g : Nat} (hg : w.heap.size = g) :
    Calls Tryz.prog 56 #[.pointer (some ⟨pb, 0, none⟩), .slice (some ⟨g, 0, none⟩) 1 1] (w.alloc (.cells #[.string q] 9)) (NeedE w pb wd s) := by
  subst hg
  exact need_q h hq hw

theorem qshut : (⟨#[41]⟩ : ByteArray) = strB [41] := by rfl
set_option maxHeartbeats 4000000 in
theorem inner_p {n pb : Nat} (hs : PX 178 n 0 pb) : PX 267 (n + 1) 8 pb := by
  intro w s r h hr
  rw [px] at hr
  generalize hP : EndP w pb (RX1 w.heap.size) r = P
  have H1 := Hd.mk' h
  have hpb := h.lt
  obtain ⟨wa, hw1⟩ : ∃ w1, w.alloc (.cells zx 30) = w1 := ⟨_, rfl⟩
  rw [hw1] at H1
  have HH := Lib.hid H1
  have HP := Lib.hid hP
  unfold zx at hw1
  obtain ⟨c1, f1, -, -⟩ := H1.st.ps.nums
  have hpa : pb < wa.heap.size := H1.st.ps.lt
  obtain ⟨o, ho⟩ : ∃ o, s.opn = o := ⟨_, rfl⟩
  rw [ho] at c1 hr
  by_cases c : o < 40
  · rw [if_pos c] at hr
    replace hr : (bindR (px isN n 0 (s.setO (o + 1))) fun e s1 => bindR (needP [41] s1) fun _ s2 => retR e { s2 with opn := s2.opn - 1 }) = some r := hr
    have HMO := Lib.hid (pmust_ok 5)
    have c0 : ((o : Int) < 40) := by omega
    have hw : IntKind.i64.wrap ((o : Int) + 1) = (o : Int) + 1 := by rw [IntKind.wrap_i64]; omega
    have hw2 : IntKind.i64.wrap ((o : Int) + 1 - 1) = (o : Int) := by rw [IntKind.wrap_i64]; omega
    have S1 := H1.st.ps.setO (o + 1) (by omega)
    rw [show ((o + 1 : Nat) : Int) = (o : Int) + 1 from rfl] at S1
    obtain ⟨wb, hwb⟩ : ∃ wb, wa.setCell ⟨pb, 1, none⟩ (.int .i64 ((o : Int) + 1)) = wb := ⟨_, rfl⟩
    rw [hwb] at S1
    have HH2 : Hid (Hd w wb pb (s.setO (o + 1))) := Lib.hid ⟨H1.st.trans S1, H1.box S1, by rw [← hwb]; simpa [World.setCell] using H1.sz, h.lt⟩
    cases h1 : px isN n 0 (s.setO (o + 1)) with
    | none => rw [h1] at hr; cases hr
    | some r1 =>
      have HB := Lib.hid (hs wb _ r1 S1.ps h1)
      have HU := Lib.hid (fun e s' (q : r1 = .ok (e, s')) => ((px_uses isN n).1 0 _ _ _ (by rw [h1, q])).2.1)
      rw [h1] at hr
      clear hs h1 h H1 hP S1 ho
      match r1, hr, HB with
      | .error c, hr, HB =>
        have hrc : r = .error c := by injection hr with hr; exact hr.symm
        subst hrc
        clear hr
        go_enter Tryz.func267, Tryz.ntmps267
        go_wp2_with (first | (go_at_call 31; refine (HMO.out _).mono ?_; rintro e w2 ⟨rfl, rfl⟩; clear HMO) | (go_at_call 178; refine HB.out.mono ?_; rintro e w1 ⟨f1, rfl⟩; have F1 := Lib.hid f1; clear f1))
        exact ⟨rfl, by rw [← HP.out]; exact HH2.out.err F1.out c⟩
      | .ok (ex, s1), hr, HB =>
        have hso : s1.opn = o + 1 := HU.out _ _ rfl
        replace hr : (bindR (needP [41] s1) fun _ s2 => retR ex { s2 with opn := s2.opn - 1 }) = some r := hr
        have HNE := Lib.hid (fun (w' : World) (hp : PsM w' pb s1) (g : Nat) (hg : w'.heap.size = g) => need_g hp qshut (by decide) hg)
        cases hn : atP [41] s1 with
        | true =>
          have hrc : r = .ok (ex, s1.next.setO o) := by
            unfold needP at hr
            rw [if_pos hn] at hr
            injection hr with hr
            rw [← hr]
            show Except.ok (ex, { s1.next with opn := s1.next.opn - 1 }) = _
            rw [show s1.next.opn - 1 = o by show s1.opn - 1 = o; omega]
            rfl
          subst hrc
          have HNA := Lib.hid hn
          have hsn : s1.next.opn = o + 1 := hso
          clear hr hn HU
          go_enter Tryz.func267, Tryz.ntmps267
          go_wp2_with (first | (go_at_call 31; refine (HMO.out _).mono ?_; rintro e w2 ⟨rfl, rfl⟩; clear HMO) | (go_at_call 178; refine HB.out.mono ?_; rintro e w1 ⟨f1, v, rfl, ⟨x, rfl, rfl, m1⟩, p1⟩; have HCH := Lib.hid (ChS.same (HH2.out.st.fr.trans f1 (New.refl _ _)) (by have := f1.size; have := HH2.out.sz; omega) p1 hpb ⟨_, _, _, _, _, _, _, HH2.out.box ⟨f1, p1⟩⟩ (by rw [HH2.out.sz] at m1; exact m1)); clear f1 p1 m1; obtain ⟨op, kind, num, scale, text, qual, a, cap, args⟩ := x; unfold XE.val; unfold XE.encA at HCH) | (go_at_call 56; refine (HNE.out _ HCH.out.st.ps _ (by simp)).mono ?_; rintro e w4 hn; obtain ⟨rfl, ss⟩ := hn.1 HNA.out; have HC2 := Lib.hid (ChS.stp (x := (XE.mk op kind num scale text qual a cap args)) HCH.out hpb ss); obtain ⟨k1, g1, -, -⟩ := HC2.out.st.ps.nums; rw [hsn] at k1; have k1 : w4.cell? ⟨pb, 1, none⟩ = some (.int .i64 ((o : Int) + 1)) := k1; have HC3 := Lib.hid (ChS.stp (x := (XE.mk op kind num scale text qual a cap args)) HC2.out hpb (HC2.out.st.ps.setO o (by omega))); obtain ⟨wz, hwz⟩ : ∃ wz, w4.setCell ⟨pb, 1, none⟩ (.int .i64 (o : Int)) = wz := ⟨_, rfl⟩; rw [hwz] at HC3; obtain ⟨⟨q0, q1, q2, q3, q4, q5, q6⟩, -⟩ := HC3.out.bx.seven; obtain ⟨v0, v1, v2, v3, v4, v5, v6, hb8⟩ := HC3.out.b0; obtain ⟨⟨x0, x1, x2, x3, x4, x5, x6⟩, z0, z1, z2, z3, z4, z5, z6⟩ := hb8.seven; clear hb8 ss hn))
          have hfi := HC3.out.out hpb
          exact ex_ret Tryz.results267 hfi.1 rfl rfl (by rw [← HP.out]; exact hfi.2)
        | false =>
          have hrc : r = .error 130 := by unfold needP at hr; rw [if_neg (by rw [hn]; decide)] at hr; injection hr with hr; exact hr.symm
          subst hrc
          have HNA := Lib.hid hn
          clear hr hn HU
          go_enter Tryz.func267, Tryz.ntmps267
          go_wp2_with (first | (go_at_call 31; refine (HMO.out _).mono ?_; rintro e w2 ⟨rfl, rfl⟩; clear HMO) | (go_at_call 178; refine HB.out.mono ?_; rintro e w1 ⟨f1, v, rfl, ⟨x, rfl, rfl, m1⟩, p1⟩; have HCH := Lib.hid (ChS.same (HH2.out.st.fr.trans f1 (New.refl _ _)) (by have := f1.size; have := HH2.out.sz; omega) p1 hpb ⟨_, _, _, _, _, _, _, HH2.out.box ⟨f1, p1⟩⟩ (by rw [HH2.out.sz] at m1; exact m1)); clear f1 p1 m1; obtain ⟨op, kind, num, scale, text, qual, a, cap, args⟩ := x; unfold XE.val; unfold XE.encA at HCH) | (go_at_call 56; refine (HNE.out _ HCH.out.st.ps _ (by simp)).mono ?_; rintro e w4 hn; obtain ⟨rfl, ff⟩ := hn.2 HNA.out; have FN := Lib.hid (HCH.out.st.fr.trans ff (New.refl _ _)); clear ff hn))
          exact ⟨rfl, by rw [← HP.out]; exact ⟨FN.out, rfl⟩⟩
  · rw [if_neg c] at hr
    have hrc : r = .error 5 := by injection hr with hr; exact hr.symm
    subst hrc
    have c0 : decide ((o : Int) < 40) = false := by simp; omega
    have HMN := Lib.hid (pmust_no 5)
    clear hs h H1 hP hr
    go_enter Tryz.func267, Tryz.ntmps267
    go_wp2_with (first | (go_at_call 31; refine (HMN.out _).mono ?_; rintro e w2 ⟨rfl, rfl⟩))
    exact ⟨rfl, by rw [← HP.out]; exact HH.out.err (Frm.refl _ _) 5⟩

end Go.Proofs.YtkffomfbnbcgaaaGreatDoor

namespace Go.Proofs.YtkffomfbnbcgaaaGreatDoor
set_option maxRecDepth 100000
open Go.RowKit Go.Joins Go.ChangeShapes Go.WideShapes
set_option linter.unusedVariables false
set_option linter.unusedSimpArgs false

def wordX (n : Nat) (tx : List Nat) (s1 : PS) : RX Ex :=
  if tx = wNull then retR (cst 0 0 0 ⟨#[]⟩) s1
  else if tx = wFalse then retR (cst 1 0 0 ⟨#[]⟩) s1
  else if tx = wTrue then retR (cst 1 1 0 ⟨#[]⟩) s1
  else if tx = wNan then retR (cst 3 0 (-1) ⟨#[]⟩) s1
  else if tx = wInf then retR (cst 3 0 (-2) ⟨#[]⟩) s1
  else if tx = wInt then bindR (needP [40] s1) fun _ s2 => bindR (px isN n 8 s2) fun e s3 => retR (mk1 14 e) s3
  else if tx = wReal then bindR (needP [40] s1) fun _ s2 => bindR (px isN n 8 s2) fun e s3 => retR (mk1 15 e) s3
  else if isN tx = true then
    (if atP [46] s1 = true then bindR (nameP isN s1.next) fun c s2 => retR (.mk 22 0 0 0 (strB c) (strB tx) []) s2
    else retR (.mk 22 0 0 0 (strB tx) ⟨#[]⟩ []) s1)
  else failR 130
theorem Hd.leaf {w w1 w2 : World} {pb : Nat} {s s' : PS} (h : Hd w w1 pb s) (h2 : Stp w1 w2 pb s') (op kind num scale : Int) (text qual : ByteArray) :
    Bx (st7 w2 w.heap.size (.mk op kind num scale text qual none 0 [])) w.heap.size (XE.encA (.mk op kind num scale text qual none 0 [])) 30 ∧ EndP w pb (RX1 w.heap.size) (.ok (.mk op kind num scale text qual [], s')) (.returned (XE.val (.mk op kind num scale text qual none 0 []))) (st7 w2 w.heap.size (.mk op kind num scale text qual none 0 [])) := by
  have := h.fin h2 (.mk op kind num scale text qual none 0 []) (XE.Mem.leaf _ _ _ _ _ _ _ _)
  simp only [XE.er, XE.erL] at this
  exact this
theorem lit_ne {tx wd : List Nat} {l : List UInt8} (hq : l = (strB wd).toList) (h1 : ∀ x ∈ tx, x < 256) (h2 : ∀ x ∈ wd, x < 256) (h : ¬ tx = wd) : ((strB tx).toList == l) = false := by
  subst hq
  rw [txt_eq h1 h2]
  simp [h]
theorem lit_eq {wd : List Nat} {l : List UInt8} (hq : l = (strB wd).toList) : ((strB wd).toList == l) = true := by subst hq; simp
theorem lnull : ([110, 117, 108, 108] : List UInt8) = (strB wNull).toList := by rw [ByteArray.toList_eq]; rfl
theorem lfalse : ([102, 97, 108, 115, 101] : List UInt8) = (strB wFalse).toList := by rw [ByteArray.toList_eq]; rfl
theorem ltrue : ([116, 114, 117, 101] : List UInt8) = (strB wTrue).toList := by rw [ByteArray.toList_eq]; rfl
theorem lnan : ([110, 97, 110] : List UInt8) = (strB wNan).toList := by rw [ByteArray.toList_eq]; rfl
theorem linfinity : ([105, 110, 102, 105, 110, 105, 116, 121] : List UInt8) = (strB wInf).toList := by rw [ByteArray.toList_eq]; rfl
theorem lint : ([105, 110, 116] : List UInt8) = (strB wInt).toList := by rw [ByteArray.toList_eq]; rfl
theorem lreal : ([114, 101, 97, 108] : List UInt8) = (strB wReal).toList := by rw [ByteArray.toList_eq]; rfl
theorem qdot : (⟨#[46]⟩ : ByteArray) = strB [46] := by rfl
theorem qopen : (⟨#[40]⟩ : ByteArray) = strB [40] := by rfl

set_option maxHeartbeats 4000000 in
theorem ofWord_p {n pb : Nat} (hs : PX 267 n 8 pb) {w : World} {s : PS} {r : Except Nat (Ex × PS)} (h : PsM w pb s) (tx : List Nat) (htx : ∀ x ∈ tx, x < 256) (hr : wordX n tx s = some r) :
    Calls Tryz.prog 266 #[.pointer (some ⟨pb, 0, none⟩), .string (strB tx)] w (EndP w pb (RX1 w.heap.size) r) := by
  generalize hP : EndP w pb (RX1 w.heap.size) r = P
  have H1 := Hd.mk' h
  have hpb := h.lt
  obtain ⟨wa, hw1⟩ : ∃ w1, w.alloc (.cells zx 30) = w1 := ⟨_, rfl⟩
  rw [hw1] at H1
  have HH := Lib.hid H1
  have HP := Lib.hid hP
  unfold zx at hw1
  obtain ⟨⟨x0, x1, x2, x3, x4, x5, x6⟩, z0, z1, z2, z3, z4, z5, z6⟩ := H1.bx.seven
  unfold wordX at hr
  by_cases c0 : tx = wNull
  · subst c0
    have hrc : r = .ok (cst 0 0 (0) ⟨#[]⟩, s) := by (first | rw [if_pos rfl] at hr | skip); injection hr with hr; exact hr.symm
    subst hrc
    have t0 := lit_eq lnull
    have HL := Lib.hid (HH.out.leaf (Stp.refl HH.out.st.ps) 21 0 0 (0) ⟨#[]⟩ ⟨#[]⟩)
    generalize strB wNull = tb at *
    clear hs h H1 hP hr
    go_enter Tryz.func266, Tryz.ntmps266
    go_wp2_with fail
    exact ex_ret Tryz.results266 HL.out.1 rfl rfl (by rw [← HP.out]; exact HL.out.2)
  rw [if_neg c0] at hr
  have t0 := lit_ne lnull htx (by decide) c0
  by_cases c1 : tx = wFalse
  · subst c1
    have hrc : r = .ok (cst 1 0 (0) ⟨#[]⟩, s) := by (first | rw [if_pos rfl] at hr | skip); injection hr with hr; exact hr.symm
    subst hrc
    have t1 := lit_eq lfalse
    have HL := Lib.hid (HH.out.leaf (Stp.refl HH.out.st.ps) 21 1 0 (0) ⟨#[]⟩ ⟨#[]⟩)
    generalize strB wFalse = tb at *
    clear hs h H1 hP hr
    go_enter Tryz.func266, Tryz.ntmps266
    go_wp2_with fail
    exact ex_ret Tryz.results266 HL.out.1 rfl rfl (by rw [← HP.out]; exact HL.out.2)
  rw [if_neg c1] at hr
  have t1 := lit_ne lfalse htx (by decide) c1
  by_cases c2 : tx = wTrue
  · subst c2
    have hrc : r = .ok (cst 1 1 (0) ⟨#[]⟩, s) := by (first | rw [if_pos rfl] at hr | skip); injection hr with hr; exact hr.symm
    subst hrc
    have t2 := lit_eq ltrue
    have HL := Lib.hid (HH.out.leaf (Stp.refl HH.out.st.ps) 21 1 1 (0) ⟨#[]⟩ ⟨#[]⟩)
    generalize strB wTrue = tb at *
    clear hs h H1 hP hr
    go_enter Tryz.func266, Tryz.ntmps266
    go_wp2_with fail
    exact ex_ret Tryz.results266 HL.out.1 rfl rfl (by rw [← HP.out]; exact HL.out.2)
  rw [if_neg c2] at hr
  have t2 := lit_ne ltrue htx (by decide) c2
  by_cases c3 : tx = wNan
  · subst c3
    have hrc : r = .ok (cst 3 0 (-1) ⟨#[]⟩, s) := by (first | rw [if_pos rfl] at hr | skip); injection hr with hr; exact hr.symm
    subst hrc
    have t3 := lit_eq lnan
    have HL := Lib.hid (HH.out.leaf (Stp.refl HH.out.st.ps) 21 3 0 (-1) ⟨#[]⟩ ⟨#[]⟩)
    generalize strB wNan = tb at *
    clear hs h H1 hP hr
    go_enter Tryz.func266, Tryz.ntmps266
    go_wp2_with fail
    exact ex_ret Tryz.results266 HL.out.1 rfl rfl (by rw [← HP.out]; exact HL.out.2)
  rw [if_neg c3] at hr
  have t3 := lit_ne lnan htx (by decide) c3
  by_cases c4 : tx = wInf
  · subst c4
    have hrc : r = .ok (cst 3 0 (-2) ⟨#[]⟩, s) := by (first | rw [if_pos rfl] at hr | skip); injection hr with hr; exact hr.symm
    subst hrc
    have t4 := lit_eq linfinity
    have HL := Lib.hid (HH.out.leaf (Stp.refl HH.out.st.ps) 21 3 0 (-2) ⟨#[]⟩ ⟨#[]⟩)
    generalize strB wInf = tb at *
    clear hs h H1 hP hr
    go_enter Tryz.func266, Tryz.ntmps266
    go_wp2_with fail
    exact ex_ret Tryz.results266 HL.out.1 rfl rfl (by rw [← HP.out]; exact HL.out.2)
  rw [if_neg c4] at hr
  have t4 := lit_ne linfinity htx (by decide) c4
  by_cases c5 : tx = wInt
  · subst c5
    rw [if_pos rfl] at hr
    have t5 := lit_eq lint
    have HNE := Lib.hid (fun (w' : World) (hp : PsM w' pb s) (g : Nat) (hg : w'.heap.size = g) => need_g hp qopen (by decide) hg)
    have HMD := Lib.hid made_p
    generalize strB wInt = tb at *
    cases hn : atP [40] s with
    | true =>
      replace hr : (bindR (px isN n 8 s.next) fun e s3 => retR (mk1 14 e) s3) = some r := by unfold needP at hr; rw [if_pos hn] at hr; exact hr
      have HNA := Lib.hid hn
      cases h2 : px isN n 8 s.next with
      | none => rw [h2] at hr; cases hr
      | some r2 =>
        have HB := Lib.hid (fun (w' : World) (hp : PsM w' pb s.next) => hs w' s.next r2 hp h2)
        rw [h2] at hr
        clear hs h2 h H1 hP hn x0 x1 x2 x3 x4 x5 x6 z0 z1 z2 z3 z4 z5 z6
        match r2, hr, HB with
        | .error c, hr, HB =>
          have hrc : r = .error c := by injection hr with hr; exact hr.symm
          subst hrc
          clear hr
          go_enter Tryz.func266, Tryz.ntmps266
          go_wp2_with (first | (go_at_call 56; refine (HNE.out _ HH.out.st.ps _ (by first | rfl | exact HH.out.sz | simp)).mono ?_; rintro e w2 hn; obtain ⟨rfl, ss⟩ := hn.1 HNA.out; have S2 := Lib.hid ss; clear ss hn HNE) | (go_at_call 267; refine (HB.out w2 S2.out.ps).mono ?_; rintro e w3 ⟨f3, rfl⟩; have F3 := Lib.hid f3; clear f3))
          exact ⟨rfl, by rw [← HP.out]; exact HH.out.err (S2.out.fr.trans F3.out (New.refl _ _)) c⟩
        | .ok (ex, s3), hr, HB =>
          have hrc : r = .ok (mk1 14 ex, s3) := by injection hr with hr; exact hr.symm
          subst hrc
          clear hr
          go_enter Tryz.func266, Tryz.ntmps266
          go_wp2_with (first | (go_at_call 56; refine (HNE.out _ HH.out.st.ps _ (by first | rfl | exact HH.out.sz | simp)).mono ?_; rintro e w2 hn; obtain ⟨rfl, ss⟩ := hn.1 HNA.out; have S2 := Lib.hid ss; clear ss hn HNE) | (go_at_call 267; refine (HB.out w2 S2.out.ps).mono ?_; rintro e w3 ⟨f3, v, rfl, ⟨x, rfl, rfl, m3⟩, p3⟩; have H3 := Lib.hid (And.intro (S2.out.trans ⟨f3, p3⟩) (XE.Mem.mono (fun k hk => Nat.le_trans S2.out.fr.size hk) x m3)); clear f3 p3 m3; obtain ⟨op2, kind2, num2, scale2, text2, qual2, a2, cap2, args2⟩ := x; unfold XE.val) | (go_at_call 214; refine (HMD.out _ _ _ 1 1 [(XE.mk op2 kind2 num2 scale2 text2 qual2 a2 cap2 args2)] rfl).mono ?_; rintro e w4 ⟨rfl, b4⟩; have H4 := Lib.hid (HH.out.up H3.out.1 (XE.mk op2 kind2 num2 scale2 text2 qual2 a2 cap2 args2) H3.out.2 14 b4); clear b4; obtain ⟨⟨x0, x1, x2, x3, x4, x5, x6⟩, z0, z1, z2, z3, z4, z5, z6⟩ := H4.out.1.seven; unfold XE.val))
          exact ex_ret Tryz.results266 H4.out.2.1 rfl rfl (by rw [← HP.out]; exact H4.out.2.2)
    | false =>
      have hrc : r = .error 130 := by unfold needP at hr; rw [if_neg (by rw [hn]; decide)] at hr; injection hr with hr; exact hr.symm
      subst hrc
      have HNA := Lib.hid hn
      clear hs h H1 hP hr hn x0 x1 x2 x3 x4 x5 x6 z0 z1 z2 z3 z4 z5 z6
      go_enter Tryz.func266, Tryz.ntmps266
      go_wp2_with (first | (go_at_call 56; refine (HNE.out _ HH.out.st.ps _ (by first | rfl | exact HH.out.sz | simp)).mono ?_; rintro e w2 hn; obtain ⟨rfl, ff⟩ := hn.2 HNA.out; have FN := Lib.hid ff; clear ff hn HNE))
      exact ⟨rfl, by rw [← HP.out]; exact HH.out.err FN.out 130⟩
  rw [if_neg c5] at hr
  have t5 := lit_ne lint htx (by decide) c5
  by_cases c6 : tx = wReal
  · subst c6
    rw [if_pos rfl] at hr
    have t6 := lit_eq lreal
    have HNE := Lib.hid (fun (w' : World) (hp : PsM w' pb s) (g : Nat) (hg : w'.heap.size = g) => need_g hp qopen (by decide) hg)
    have HMD := Lib.hid made_p
    generalize strB wReal = tb at *
    cases hn : atP [40] s with
    | true =>
      replace hr : (bindR (px isN n 8 s.next) fun e s3 => retR (mk1 15 e) s3) = some r := by unfold needP at hr; rw [if_pos hn] at hr; exact hr
      have HNA := Lib.hid hn
      cases h2 : px isN n 8 s.next with
      | none => rw [h2] at hr; cases hr
      | some r2 =>
        have HB := Lib.hid (fun (w' : World) (hp : PsM w' pb s.next) => hs w' s.next r2 hp h2)
        rw [h2] at hr
        clear hs h2 h H1 hP hn x0 x1 x2 x3 x4 x5 x6 z0 z1 z2 z3 z4 z5 z6
        match r2, hr, HB with
        | .error c, hr, HB =>
          have hrc : r = .error c := by injection hr with hr; exact hr.symm
          subst hrc
          clear hr
          go_enter Tryz.func266, Tryz.ntmps266
          go_wp2_with (first | (go_at_call 56; refine (HNE.out _ HH.out.st.ps _ (by first | rfl | exact HH.out.sz | simp)).mono ?_; rintro e w2 hn; obtain ⟨rfl, ss⟩ := hn.1 HNA.out; have S2 := Lib.hid ss; clear ss hn HNE) | (go_at_call 267; refine (HB.out w2 S2.out.ps).mono ?_; rintro e w3 ⟨f3, rfl⟩; have F3 := Lib.hid f3; clear f3))
          exact ⟨rfl, by rw [← HP.out]; exact HH.out.err (S2.out.fr.trans F3.out (New.refl _ _)) c⟩
        | .ok (ex, s3), hr, HB =>
          have hrc : r = .ok (mk1 15 ex, s3) := by injection hr with hr; exact hr.symm
          subst hrc
          clear hr
          go_enter Tryz.func266, Tryz.ntmps266
          go_wp2_with (first | (go_at_call 56; refine (HNE.out _ HH.out.st.ps _ (by first | rfl | exact HH.out.sz | simp)).mono ?_; rintro e w2 hn; obtain ⟨rfl, ss⟩ := hn.1 HNA.out; have S2 := Lib.hid ss; clear ss hn HNE) | (go_at_call 267; refine (HB.out w2 S2.out.ps).mono ?_; rintro e w3 ⟨f3, v, rfl, ⟨x, rfl, rfl, m3⟩, p3⟩; have H3 := Lib.hid (And.intro (S2.out.trans ⟨f3, p3⟩) (XE.Mem.mono (fun k hk => Nat.le_trans S2.out.fr.size hk) x m3)); clear f3 p3 m3; obtain ⟨op2, kind2, num2, scale2, text2, qual2, a2, cap2, args2⟩ := x; unfold XE.val) | (go_at_call 214; refine (HMD.out _ _ _ 1 1 [(XE.mk op2 kind2 num2 scale2 text2 qual2 a2 cap2 args2)] rfl).mono ?_; rintro e w4 ⟨rfl, b4⟩; have H4 := Lib.hid (HH.out.up H3.out.1 (XE.mk op2 kind2 num2 scale2 text2 qual2 a2 cap2 args2) H3.out.2 15 b4); clear b4; obtain ⟨⟨x0, x1, x2, x3, x4, x5, x6⟩, z0, z1, z2, z3, z4, z5, z6⟩ := H4.out.1.seven; unfold XE.val))
          exact ex_ret Tryz.results266 H4.out.2.1 rfl rfl (by rw [← HP.out]; exact H4.out.2.2)
    | false =>
      have hrc : r = .error 130 := by unfold needP at hr; rw [if_neg (by rw [hn]; decide)] at hr; injection hr with hr; exact hr.symm
      subst hrc
      have HNA := Lib.hid hn
      clear hs h H1 hP hr hn x0 x1 x2 x3 x4 x5 x6 z0 z1 z2 z3 z4 z5 z6
      go_enter Tryz.func266, Tryz.ntmps266
      go_wp2_with (first | (go_at_call 56; refine (HNE.out _ HH.out.st.ps _ (by first | rfl | exact HH.out.sz | simp)).mono ?_; rintro e w2 hn; obtain ⟨rfl, ff⟩ := hn.2 HNA.out; have FN := Lib.hid ff; clear ff hn HNE))
      exact ⟨rfl, by rw [← HP.out]; exact HH.out.err FN.out 130⟩
  rw [if_neg c6] at hr
  have t6 := lit_ne lreal htx (by decide) c6
  have HNA := Lib.hid (name_any (strB tx) wa)
  cases hN : nameB (strB tx) with
  | true =>
    rw [if_pos hN] at hr
    rw [hN] at HNA
    have HMO := Lib.hid (pmust_ok 130)
    generalize strB tx = tb at *
    cases hd : atP [46] s with
    | true =>
      rw [if_pos hd] at hr
      have HF := Lib.hid (fun (w' : World) (hp : PsM w' pb s) => found_yes hp qdot (by decide) hd)
      cases h2 : nameP isN s.next with
      | none => rw [h2] at hr; cases hr
      | some r2 =>
        have HNM := Lib.hid (fun (w' : World) (hp : PsM w' pb s.next) => name_p hp h2)
        rw [h2] at hr
        clear hs h2 h H1 hP hd hN x0 x1 x2 x3 x4 x5 x6 z0 z1 z2 z3 z4 z5 z6
        match r2, hr, HNM with
        | .error c, hr, HNM =>
          have hrc : r = .error c := by injection hr with hr; exact hr.symm
          subst hrc
          clear hr
          go_enter Tryz.func266, Tryz.ntmps266
          go_wp2_with (first | (go_at_call 92; refine HNA.out.mono ?_; rintro e w2 ⟨rfl, b2⟩; have S2 := Lib.hid ((Stp.refl HH.out.st.ps).below b2); clear b2) | (go_at_call 31; refine (HMO.out _).mono ?_; rintro e w3 ⟨rfl, rfl⟩; clear HMO) | (go_at_call 50; refine (HF.out w2 S2.out.ps).mono ?_; rintro e w4 ⟨rfl, ss⟩; have S4 := Lib.hid (S2.out.trans ss); clear ss HF) | (go_at_call 57; refine (HNM.out w4 S4.out.ps).mono ?_; rintro e w5 ⟨f5, rfl⟩; have F5 := Lib.hid f5; clear f5))
          exact ⟨rfl, by rw [← HP.out]; exact HH.out.err (S4.out.fr.trans F5.out (New.refl _ _)) c⟩
        | .ok (cn, s3), hr, HNM =>
          have hrc : r = .ok (.mk 22 0 0 0 (strB cn) tb [], s3) := by injection hr with hr; exact hr.symm
          subst hrc
          clear hr
          go_enter Tryz.func266, Tryz.ntmps266
          go_wp2_with (first | (go_at_call 92; refine HNA.out.mono ?_; rintro e w2 ⟨rfl, b2⟩; have S2 := Lib.hid ((Stp.refl HH.out.st.ps).below b2); clear b2) | (go_at_call 31; refine (HMO.out _).mono ?_; rintro e w3 ⟨rfl, rfl⟩; clear HMO) | (go_at_call 50; refine (HF.out w2 S2.out.ps).mono ?_; rintro e w4 ⟨rfl, ss⟩; have S4 := Lib.hid (S2.out.trans ss); clear ss HF) | (go_at_call 57; refine (HNM.out w4 S4.out.ps).mono ?_; rintro e w5 ⟨f5, v, rfl, hv, p5⟩; have hv2 : v = .string (strB cn) := hv; subst hv2; have S5 := Lib.hid (S4.out.trans ⟨f5, p5⟩); have HL := Lib.hid (HH.out.leaf S5.out 22 0 0 0 (strB cn) tb); obtain ⟨⟨x0, x1, x2, x3, x4, x5, x6⟩, z0, z1, z2, z3, z4, z5, z6⟩ := (HH.out.box S5.out).seven; clear f5 p5 hv))
          exact ex_ret Tryz.results266 HL.out.1 rfl rfl (by rw [← HP.out]; exact HL.out.2)
    | false =>
      rw [if_neg (by rw [hd]; decide)] at hr
      have HF := Lib.hid (fun (w' : World) (hp : PsM w' pb s) => found_no hp qdot (by decide) hd)
      have hrc : r = .ok (.mk 22 0 0 0 tb ⟨#[]⟩ [], s) := by injection hr with hr; exact hr.symm
      subst hrc
      clear hs h H1 hP hd hN hr x0 x1 x2 x3 x4 x5 x6 z0 z1 z2 z3 z4 z5 z6
      go_enter Tryz.func266, Tryz.ntmps266
      go_wp2_with (first | (go_at_call 92; refine HNA.out.mono ?_; rintro e w2 ⟨rfl, b2⟩; have S2 := Lib.hid ((Stp.refl HH.out.st.ps).below b2); clear b2) | (go_at_call 31; refine (HMO.out _).mono ?_; rintro e w3 ⟨rfl, rfl⟩; clear HMO) | (go_at_call 50; refine (HF.out w2 S2.out.ps).mono ?_; rintro e w4 ⟨rfl, ss⟩; have S4 := Lib.hid (S2.out.trans ss); have HL := Lib.hid (HH.out.leaf S4.out 22 0 0 0 tb ⟨#[]⟩); obtain ⟨⟨x0, x1, x2, x3, x4, x5, x6⟩, z0, z1, z2, z3, z4, z5, z6⟩ := (HH.out.box S4.out).seven; clear ss HF))
      exact ex_ret Tryz.results266 HL.out.1 rfl rfl (by rw [← HP.out]; exact HL.out.2)
  | false =>
    rw [if_neg (by show ¬ nameB (strB tx) = true; rw [hN]; decide)] at hr
    rw [hN] at HNA
    have hrc : r = .error 130 := by injection hr with hr; exact hr.symm
    subst hrc
    have HMN := Lib.hid (pmust_no 130)
    generalize strB tx = tb at *
    clear hs h H1 hP hN hr x0 x1 x2 x3 x4 x5 x6 z0 z1 z2 z3 z4 z5 z6
    go_enter Tryz.func266, Tryz.ntmps266
    go_wp2_with (first | (go_at_call 92; refine HNA.out.mono ?_; rintro e w2 ⟨rfl, b2⟩; have S2 := Lib.hid ((Stp.refl HH.out.st.ps).below b2); clear b2) | (go_at_call 31; refine (HMN.out _).mono ?_; rintro e w3 ⟨rfl, rfl⟩; clear HMN))
    exact ⟨rfl, by rw [← HP.out]; exact HH.out.err S2.out.fr 130⟩

end Go.Proofs.YtkffomfbnbcgaaaGreatDoor

namespace Go.Proofs.YtkffomfbnbcgaaaGreatDoor
set_option maxRecDepth 100000
open Go.RowKit Go.Joins Go.ChangeShapes Go.WideShapes
set_option linter.unusedVariables false
set_option linter.unusedSimpArgs false

theorem lopen : ([40] : List UInt8) = (strB [40]).toList := by rw [ByteArray.toList_eq]; rfl
theorem Hd.below {w w1 w2 : World} {pb : Nat} {s : PS} (h : Hd w w1 pb s) (h2 : Stp w1 w2 pb s) (b : w2.heap.size = w1.heap.size) : Hd w w2 pb s := ⟨h.st.trans h2, h.box h2, by rw [b]; exact h.sz, h.hp⟩
theorem kint (a b : Nat) (h : ¬ a = b) : ((a : Int) == (b : Int)) = false := by simp; omega
theorem XE.mem_up {w : World} {a b : Nat} {x : XE} (h : a ≤ b) (hm : XE.Mem (GE b) w x) : XE.Mem (GE a) w x := XE.Mem.mono (fun k hk => Nat.le_trans h hk) x hm

set_option maxHeartbeats 4000000 in
theorem one_p {n pb : Nat} (hs : PX 267 n 8 pb) : PX 265 (n + 1) 7 pb := by
  intro w s r h hr
  generalize hP : EndP w pb (RX1 w.heap.size) r = P
  have H1 := Hd.mk' h
  have hpb := h.lt
  obtain ⟨wa, hw1⟩ : ∃ w1, w.alloc (.cells zx 30) = w1 := ⟨_, rfl⟩
  rw [hw1] at H1
  have HH := Lib.hid H1
  have HP := Lib.hid hP
  have HMO := Lib.hid (pmust_ok 130)
  have HMN := Lib.hid (pmust_no 130)
  unfold zx at hw1
  cases he : s.rest with
  | nil =>
    have hrc : r = .error 130 := by rw [px, he] at hr; injection hr with hr; exact hr.symm
    subst hrc
    have HT := Lib.hid (take_p0 H1.st.ps he)
    unfold Tkv at HT
    clear hs h H1 hP hr he
    go_enter Tryz.func265, Tryz.ntmps265
    go_wp2_with (first | (go_at_call 119; refine HT.out.mono ?_; rintro e w2 ⟨rfl, ss⟩; have S2 := Lib.hid (ss.alloc (.cells #[.int .i64 0, .string ⟨#[]⟩, .int .i64 0, .int .i64 0] 47)); clear ss HT) | (go_at_call 31; refine (HMN.out _).mono ?_; rintro e w3 ⟨rfl, rfl⟩; clear HMN))
    exact ⟨rfl, by rw [← HP.out]; exact HH.out.err (S2.out.fr) 130⟩
  | cons t rr =>
    have hnx : s.next = { s with rest := rr } := by unfold PS.next; rw [he]; rfl
    have HT := Lib.hid (take_p H1.st.ps he)
    have hb : ∀ x ∈ t.text, x < 256 := (h.rt t (by rw [he]; exact List.mem_cons_self ..)).2.2.2.2
    have hq : px isN (n + 1) 7 s = (if t.kind = 2 then retR (cst 2 t.num 0 ⟨#[]⟩) s.next
        else if t.kind = 3 then retR (cst 3 t.num t.scale ⟨#[]⟩) s.next
        else if t.kind = 4 then retR (cst 4 0 0 (strB t.text)) s.next
        else if t.kind = 1 then wordX n t.text s.next
        else if t.text = [40] then px isN n 8 s.next else failR 130) := by rw [px, he, hnx]; rfl
    rw [hq] at hr
    unfold Tkv at HT
    clear hq hnx he h
    by_cases k2 : t.kind = 2
    · have e2 : ((t.kind : Int) == 2) = true := by rw [k2]; rfl
      rw [if_pos k2] at hr
      have hrc : r = .ok (cst 2 t.num 0 ⟨#[]⟩, s.next) := by injection hr with hr; exact hr.symm
      subst hrc
      clear hs H1 hP hr k2
      go_enter Tryz.func265, Tryz.ntmps265
      go_wp2_with (first | (go_at_call 119; refine HT.out.mono ?_; rintro e w2 ⟨rfl, ss⟩; have S2 := Lib.hid (ss.alloc (.cells #[.int .i64 (t.kind : Int), .string (strB t.text), .int .i64 (t.num : Int), .int .i64 (t.scale : Int)] 47)); obtain ⟨⟨x0, x1, x2, x3, x4, x5, x6⟩, z0, z1, z2, z3, z4, z5, z6⟩ := (HH.out.box S2.out).seven; obtain ⟨y0, y1, y2, y3, -⟩ := (Bx.new w2 #[.int .i64 (t.kind : Int), .string (strB t.text), .int .i64 (t.num : Int), .int .i64 (t.scale : Int)] 47).four; have HL := Lib.hid (HH.out.leaf S2.out 21 2 t.num 0 ⟨#[]⟩ ⟨#[]⟩); clear ss HT))
      exact ex_ret Tryz.results265 HL.out.1 rfl rfl (by rw [← HP.out]; exact HL.out.2)
    have e2 : ((t.kind : Int) == 2) = false := kint _ _ k2
    rw [if_neg k2] at hr
    by_cases k3 : t.kind = 3
    · have e3 : ((t.kind : Int) == 3) = true := by rw [k3]; rfl
      rw [if_pos k3] at hr
      have hrc : r = .ok (cst 3 t.num t.scale ⟨#[]⟩, s.next) := by injection hr with hr; exact hr.symm
      subst hrc
      clear hs H1 hP hr k3
      go_enter Tryz.func265, Tryz.ntmps265
      go_wp2_with (first | (go_at_call 119; refine HT.out.mono ?_; rintro e w2 ⟨rfl, ss⟩; have S2 := Lib.hid (ss.alloc (.cells #[.int .i64 (t.kind : Int), .string (strB t.text), .int .i64 (t.num : Int), .int .i64 (t.scale : Int)] 47)); obtain ⟨⟨x0, x1, x2, x3, x4, x5, x6⟩, z0, z1, z2, z3, z4, z5, z6⟩ := (HH.out.box S2.out).seven; obtain ⟨y0, y1, y2, y3, -⟩ := (Bx.new w2 #[.int .i64 (t.kind : Int), .string (strB t.text), .int .i64 (t.num : Int), .int .i64 (t.scale : Int)] 47).four; have HL := Lib.hid (HH.out.leaf S2.out 21 3 t.num t.scale ⟨#[]⟩ ⟨#[]⟩); clear ss HT))
      exact ex_ret Tryz.results265 HL.out.1 rfl rfl (by rw [← HP.out]; exact HL.out.2)
    have e3 : ((t.kind : Int) == 3) = false := kint _ _ k3
    rw [if_neg k3] at hr
    by_cases k4 : t.kind = 4
    · have e4 : ((t.kind : Int) == 4) = true := by rw [k4]; rfl
      rw [if_pos k4] at hr
      have hrc : r = .ok (cst 4 0 0 (strB t.text), s.next) := by injection hr with hr; exact hr.symm
      subst hrc
      clear hs H1 hP hr k4
      go_enter Tryz.func265, Tryz.ntmps265
      go_wp2_with (first | (go_at_call 119; refine HT.out.mono ?_; rintro e w2 ⟨rfl, ss⟩; have S2 := Lib.hid (ss.alloc (.cells #[.int .i64 (t.kind : Int), .string (strB t.text), .int .i64 (t.num : Int), .int .i64 (t.scale : Int)] 47)); obtain ⟨⟨x0, x1, x2, x3, x4, x5, x6⟩, z0, z1, z2, z3, z4, z5, z6⟩ := (HH.out.box S2.out).seven; obtain ⟨y0, y1, y2, y3, -⟩ := (Bx.new w2 #[.int .i64 (t.kind : Int), .string (strB t.text), .int .i64 (t.num : Int), .int .i64 (t.scale : Int)] 47).four; have HL := Lib.hid (HH.out.leaf S2.out 21 4 0 0 (strB t.text) ⟨#[]⟩); clear ss HT))
      exact ex_ret Tryz.results265 HL.out.1 rfl rfl (by rw [← HP.out]; exact HL.out.2)
    have e4 : ((t.kind : Int) == 4) = false := kint _ _ k4
    rw [if_neg k4] at hr
    by_cases k1 : t.kind = 1
    · have e1 : ((t.kind : Int) == 1) = true := by rw [k1]; rfl
      rw [if_pos k1] at hr
      have HB := Lib.hid (fun (w' : World) (hp : PsM w' pb s.next) => ofWord_p hs hp t.text hb hr)
      clear hs H1 hP hr k1
      match r, HB, HP with
      | .error c, HB, HP =>
        go_enter Tryz.func265, Tryz.ntmps265
        go_wp2_with (first | (go_at_call 119; refine HT.out.mono ?_; rintro e w2 ⟨rfl, ss⟩; have S2 := Lib.hid (ss.alloc (.cells #[.int .i64 (t.kind : Int), .string (strB t.text), .int .i64 (t.num : Int), .int .i64 (t.scale : Int)] 47)); obtain ⟨⟨x0, x1, x2, x3, x4, x5, x6⟩, z0, z1, z2, z3, z4, z5, z6⟩ := (HH.out.box S2.out).seven; obtain ⟨y0, y1, y2, y3, -⟩ := (Bx.new w2 #[.int .i64 (t.kind : Int), .string (strB t.text), .int .i64 (t.num : Int), .int .i64 (t.scale : Int)] 47).four; skip; clear ss HT) | (go_at_call 266; refine (HB.out _ S2.out.ps).mono ?_; rintro e w5 ⟨f5, rfl⟩; have F5 := Lib.hid f5; clear f5))
        exact ⟨rfl, by rw [← HP.out]; exact HH.out.err (S2.out.fr.trans F5.out (New.refl _ _)) c⟩
      | .ok (ex, s3), HB, HP =>
        go_enter Tryz.func265, Tryz.ntmps265
        go_wp2_with (first | (go_at_call 119; refine HT.out.mono ?_; rintro e w2 ⟨rfl, ss⟩; have S2 := Lib.hid (ss.alloc (.cells #[.int .i64 (t.kind : Int), .string (strB t.text), .int .i64 (t.num : Int), .int .i64 (t.scale : Int)] 47)); obtain ⟨⟨x0, x1, x2, x3, x4, x5, x6⟩, z0, z1, z2, z3, z4, z5, z6⟩ := (HH.out.box S2.out).seven; obtain ⟨y0, y1, y2, y3, -⟩ := (Bx.new w2 #[.int .i64 (t.kind : Int), .string (strB t.text), .int .i64 (t.num : Int), .int .i64 (t.scale : Int)] 47).four; skip; clear ss HT) | (go_at_call 266; refine (HB.out _ S2.out.ps).mono ?_; rintro e w5 ⟨f5, v, rfl, ⟨x, rfl, rfl, m5⟩, p5⟩; have st5 := S2.out.trans ⟨f5, p5⟩; obtain ⟨⟨v0, v1, v2, v3, v4, v5, v6⟩, g0, g1, g2, g3, g4, g5, g6⟩ := (HH.out.box st5).seven; have HFI := Lib.hid (HH.out.fin st5 x (XE.mem_up S2.out.fr.size m5)); clear f5 p5 m5 st5; obtain ⟨op2, kind2, num2, scale2, text2, qual2, a2, cap2, args2⟩ := x; unfold XE.val))
        exact ex_ret Tryz.results265 HFI.out.1 rfl rfl (by rw [← HP.out]; exact HFI.out.2)
    have e1 : ((t.kind : Int) == 1) = false := kint _ _ k1
    rw [if_neg k1] at hr
    by_cases k5 : t.text = [40]
    · have e5 : ((strB t.text).toList == [40]) = true := by rw [k5]; exact lit_eq lopen
      rw [if_pos k5] at hr
      have HB := Lib.hid (fun (w' : World) (hp : PsM w' pb s.next) => hs w' s.next r hp hr)
      clear hs H1 hP hr k5 hb
      match r, HB, HP with
      | .error c, HB, HP =>
        go_enter Tryz.func265, Tryz.ntmps265
        go_wp2_with (first | (go_at_call 119; refine HT.out.mono ?_; rintro e w2 ⟨rfl, ss⟩; have S2 := Lib.hid (ss.alloc (.cells #[.int .i64 (t.kind : Int), .string (strB t.text), .int .i64 (t.num : Int), .int .i64 (t.scale : Int)] 47)); obtain ⟨⟨x0, x1, x2, x3, x4, x5, x6⟩, z0, z1, z2, z3, z4, z5, z6⟩ := (HH.out.box S2.out).seven; obtain ⟨y0, y1, y2, y3, -⟩ := (Bx.new w2 #[.int .i64 (t.kind : Int), .string (strB t.text), .int .i64 (t.num : Int), .int .i64 (t.scale : Int)] 47).four; skip; clear ss HT) | (go_at_call 31; refine (HMO.out _).mono ?_; rintro e w3 ⟨rfl, rfl⟩; clear HMO) | (go_at_call 267; refine (HB.out _ S2.out.ps).mono ?_; rintro e w5 ⟨f5, rfl⟩; have F5 := Lib.hid f5; clear f5))
        exact ⟨rfl, by rw [← HP.out]; exact HH.out.err (S2.out.fr.trans F5.out (New.refl _ _)) c⟩
      | .ok (ex, s3), HB, HP =>
        go_enter Tryz.func265, Tryz.ntmps265
        go_wp2_with (first | (go_at_call 119; refine HT.out.mono ?_; rintro e w2 ⟨rfl, ss⟩; have S2 := Lib.hid (ss.alloc (.cells #[.int .i64 (t.kind : Int), .string (strB t.text), .int .i64 (t.num : Int), .int .i64 (t.scale : Int)] 47)); obtain ⟨⟨x0, x1, x2, x3, x4, x5, x6⟩, z0, z1, z2, z3, z4, z5, z6⟩ := (HH.out.box S2.out).seven; obtain ⟨y0, y1, y2, y3, -⟩ := (Bx.new w2 #[.int .i64 (t.kind : Int), .string (strB t.text), .int .i64 (t.num : Int), .int .i64 (t.scale : Int)] 47).four; skip; clear ss HT) | (go_at_call 31; refine (HMO.out _).mono ?_; rintro e w3 ⟨rfl, rfl⟩; clear HMO) | (go_at_call 267; refine (HB.out _ S2.out.ps).mono ?_; rintro e w5 ⟨f5, v, rfl, ⟨x, rfl, rfl, m5⟩, p5⟩; have st5 := S2.out.trans ⟨f5, p5⟩; obtain ⟨⟨v0, v1, v2, v3, v4, v5, v6⟩, g0, g1, g2, g3, g4, g5, g6⟩ := (HH.out.box st5).seven; have HFI := Lib.hid (HH.out.fin st5 x (XE.mem_up S2.out.fr.size m5)); clear f5 p5 m5 st5; obtain ⟨op2, kind2, num2, scale2, text2, qual2, a2, cap2, args2⟩ := x; unfold XE.val))
        exact ex_ret Tryz.results265 HFI.out.1 rfl rfl (by rw [← HP.out]; exact HFI.out.2)
    · have e5 : ((strB t.text).toList == [40]) = false := lit_ne lopen hb (by decide) k5
      rw [if_neg k5] at hr
      have hrc : r = .error 130 := by injection hr with hr; exact hr.symm
      subst hrc
      clear hs H1 hP hr k5 hb
      go_enter Tryz.func265, Tryz.ntmps265
      go_wp2_with (first | (go_at_call 119; refine HT.out.mono ?_; rintro e w2 ⟨rfl, ss⟩; have S2 := Lib.hid (ss.alloc (.cells #[.int .i64 (t.kind : Int), .string (strB t.text), .int .i64 (t.num : Int), .int .i64 (t.scale : Int)] 47)); obtain ⟨⟨x0, x1, x2, x3, x4, x5, x6⟩, z0, z1, z2, z3, z4, z5, z6⟩ := (HH.out.box S2.out).seven; obtain ⟨y0, y1, y2, y3, -⟩ := (Bx.new w2 #[.int .i64 (t.kind : Int), .string (strB t.text), .int .i64 (t.num : Int), .int .i64 (t.scale : Int)] 47).four; skip; clear ss HT) | (go_at_call 31; refine (HMN.out _).mono ?_; rintro e w3 ⟨rfl, rfl⟩; clear HMN))
      exact ⟨rfl, by rw [← HP.out]; exact HH.out.err S2.out.fr 130⟩
/-- all levels -/
theorem levels_p (pb : Nat) : ∀ n, PX 178 n 0 pb ∧ PX 198 n 1 pb ∧ PX 215 n 2 pb ∧ PX 228 n 3 pb ∧ PX 243 n 4 pb ∧ PX 257 n 5 pb ∧ PX 263 n 6 pb ∧ PX 265 n 7 pb ∧ PX 267 n 8 pb
  | 0 => by
    have h0 : ∀ g lvl, PX g 0 lvl pb := fun g lvl w s r _ h => (by rw [px] at h; cases h)
    exact ⟨h0 _ _, h0 _ _, h0 _ _, h0 _ _, h0 _ _, h0 _ _, h0 _ _, h0 _ _, h0 _ _⟩
  | n + 1 => by
    obtain ⟨h0, h1, h2, h3, h4, h5, h6, h7, h8⟩ := levels_p pb n
    exact ⟨expr_p h1, both_p h2, not_p h2 h3, test_p h4, sum_p h5, term_p h6, sign_p h6 h7, one_p h8, inner_p h0⟩
/-- an expression -/
theorem expr_any {n pb : Nat} : PX 178 n 0 pb := (levels_p pb n).1

end Go.Proofs.YtkffomfbnbcgaaaGreatDoor

namespace Go.Proofs.YtkffomfbnbcgaaaGreatDoor
set_option maxRecDepth 100000
open Go.RowKit Go.Joins Go.ChangeShapes Go.WideShapes
set_option linter.unusedVariables false
set_option linter.unusedSimpArgs false

mutual
/-- operators have operands, constants and columns none -/
def Ex.Wf : Ex → Prop
  | .mk op _ _ _ _ _ args => (args = [] ↔ (op = 0 ∨ op = 21 ∨ op = 22)) ∧ Ex.WfL args
def Ex.WfL : List Ex → Prop
  | [] => True
  | a :: r => Ex.Wf a ∧ Ex.WfL r
end
theorem Ex.wfL_mem : ∀ {l : List Ex} {e : Ex}, Ex.WfL l → e ∈ l → Ex.Wf e
  | [], e, _, he => by cases he
  | a :: r, e, h, he => by
    unfold Ex.WfL at h
    rcases List.mem_cons.1 he with rfl | he
    · exact h.1
    · exact Ex.wfL_mem h.2 he
theorem wfc (kind num scale : Int) (text : ByteArray) : Ex.Wf (cst kind num scale text) := by unfold cst Ex.Wf Ex.WfL; simp
theorem wf0 (kind num scale : Int) (text qual : ByteArray) : Ex.Wf (.mk 22 kind num scale text qual []) := by unfold Ex.Wf Ex.WfL; simp
theorem wfz : Ex.Wf zE := by unfold zE Ex.Wf Ex.WfL; simp
theorem wf1 {op : Nat} {a : Ex} (h : Ex.Wf a) (ho : op ≠ 0 ∧ op ≠ 21 ∧ op ≠ 22) : Ex.Wf (mk1 op a) := by
  unfold mk1 Ex.Wf Ex.WfL Ex.WfL
  refine ⟨⟨(fun e => by cases e), fun e => by omega⟩, h, trivial⟩
theorem wf2 {op : Nat} {a b : Ex} (h : Ex.Wf a) (h2 : Ex.Wf b) (ho : op ≠ 0 ∧ op ≠ 21 ∧ op ≠ 22) : Ex.Wf (mk2 op a b) := by
  unfold mk2 Ex.Wf Ex.WfL Ex.WfL Ex.WfL
  refine ⟨⟨(fun e => by cases e), fun e => by omega⟩, h, h2, trivial⟩
theorem opsP_ok2 (lvl : Nat) : ((opsP lvl).all fun x => decide (x.2 ≠ 0 ∧ x.2 ≠ 21 ∧ x.2 ≠ 22)) = true := by unfold opsP; split <;> rfl
theorem opsP_rg {lvl op : Nat} {s : PS} (h : whichP (opsP lvl) s = some op) : op ≠ 0 ∧ op ≠ 21 ∧ op ≠ 22 := by
  have gen : ∀ l : List (List Nat × Nat), (∀ x ∈ l, x.2 ≠ 0 ∧ x.2 ≠ 21 ∧ x.2 ≠ 22) → whichP l s = some op → op ≠ 0 ∧ op ≠ 21 ∧ op ≠ 22 := by
    intro l
    induction l with
    | nil => intro _ h; cases h
    | cons x r ih =>
      intro hx h
      obtain ⟨a, b⟩ := x
      rw [whichP] at h
      split at h
      · injection h with h; subst h; exact hx _ (List.mem_cons_self ..)
      · exact ih (fun y hy => hx y (List.mem_cons_of_mem _ hy)) h
  exact gen _ (fun x hx => of_decide_eq_true (List.all_eq_true.1 (opsP_ok2 lvl) x hx)) h
section
variable (isName : List Nat → Bool)
theorem px_wf : ∀ n, (∀ lvl s e s', px isName n lvl s = some (.ok (e, s')) → Ex.Wf e) ∧ ∀ lvl e0 s e s', Ex.Wf e0 → pc isName n lvl e0 s = some (.ok (e, s')) → Ex.Wf e
  | 0 => ⟨(fun lvl s e s' h => by rw [px] at h; cases h), (fun lvl e0 s e s' _ h => by rw [pc] at h; cases h)⟩
  | n + 1 => by
    obtain ⟨ih1, ih2⟩ := px_wf n
    have chain : ∀ lvl s e s', bindR (px isName n (lvl + 1) s) (fun e s1 => pc isName n lvl e s1) = some (.ok (e, s')) → Ex.Wf e := fun lvl s e s' h => by
      obtain ⟨a, s1, h1, h2⟩ := bindR_ok h
      exact ih2 _ _ _ _ _ (ih1 _ _ _ _ h1) h2
    have up : ∀ (op : Nat) lvl s0 e s', op ≠ 0 ∧ op ≠ 21 ∧ op ≠ 22 → (bindR (px isName n lvl s0) fun e s1 => retR (mk1 op e) s1) = some (.ok (e, s')) → Ex.Wf e := fun op lvl s0 e s' ho h => by
      obtain ⟨a, s1, h1, h2⟩ := bindR_ok h
      obtain ⟨rfl, rfl⟩ := retR_ok h2
      exact wf1 (ih1 _ _ _ _ h1) ho
    refine ⟨fun lvl s e s' h => ?_, fun lvl e0 s e s' h0 h => ?_⟩
    · match lvl, h with
      | 0, h => rw [px] at h <;> first | exact chain _ _ _ _ h | (intros; omega)
      | 1, h => rw [px] at h <;> first | exact chain _ _ _ _ h | (intros; omega)
      | 4, h => rw [px] at h <;> first | exact chain _ _ _ _ h | (intros; omega)
      | 5, h => rw [px] at h <;> first | exact chain _ _ _ _ h | (intros; omega)
      | k + 9, h => rw [px] at h <;> first | exact chain _ _ _ _ h | (intros; omega)
      | 2, h =>
        rw [px] at h
        rcases ite_or h with ⟨-, h⟩ | ⟨-, h⟩
        · exact up _ _ _ _ _ (by decide) h
        · exact ih1 _ _ _ _ h
      | 6, h =>
        rw [px] at h
        rcases ite_or h with ⟨-, h⟩ | ⟨-, h⟩
        · exact up _ _ _ _ _ (by decide) h
        · exact ih1 _ _ _ _ h
      | 3, h =>
        rw [px] at h
        obtain ⟨a, s1, h1, h2⟩ := bindR_ok h
        have a1 := ih1 _ _ _ _ h1
        dsimp only at h2
        rcases ite_or h2 with ⟨-, h2⟩ | ⟨-, h2⟩
        · rcases ite_or h2 with ⟨-, h2⟩ | ⟨-, h2⟩ <;>
          · obtain ⟨u, s3, h3, h4⟩ := bindR_ok h2
            obtain ⟨rfl, rfl⟩ := retR_ok h4
            exact wf1 a1 (by decide)
        · split at h2
          · obtain ⟨rfl, rfl⟩ := retR_ok h2
            exact a1
          · rename_i op hw
            obtain ⟨f, s2, h3, h4⟩ := bindR_ok h2
            obtain ⟨rfl, rfl⟩ := retR_ok h4
            exact wf2 a1 (ih1 _ _ _ _ h3) (opsP_rg hw)
      | 7, h =>
        rw [px] at h
        cases er : s.rest with
        | nil => rw [er] at h; cases h
        | cons t r =>
          rw [er] at h
          dsimp only at h
          have call : ∀ (op : Nat) e s', op ≠ 0 ∧ op ≠ 21 ∧ op ≠ 22 → (bindR (needP [40] { s with rest := r }) fun _ s2 => bindR (px isName n 8 s2) fun e s3 => retR (mk1 op e) s3) = some (.ok (e, s')) → Ex.Wf e := fun op e s' ho h => by
            obtain ⟨u, s2, h1, h2⟩ := bindR_ok h
            exact up op 8 _ e s' ho h2
          rcases ite_or h with ⟨-, h⟩ | ⟨-, h⟩
          · obtain ⟨rfl, rfl⟩ := retR_ok h; exact wfc _ _ _ _
          rcases ite_or h with ⟨-, h⟩ | ⟨-, h⟩
          · obtain ⟨rfl, rfl⟩ := retR_ok h; exact wfc _ _ _ _
          rcases ite_or h with ⟨-, h⟩ | ⟨-, h⟩
          · obtain ⟨rfl, rfl⟩ := retR_ok h; exact wfc _ _ _ _
          rcases ite_or h with ⟨-, h⟩ | ⟨-, h⟩
          · rcases ite_or h with ⟨-, h⟩ | ⟨-, h⟩
            · obtain ⟨rfl, rfl⟩ := retR_ok h; exact wfc _ _ _ _
            rcases ite_or h with ⟨-, h⟩ | ⟨-, h⟩
            · obtain ⟨rfl, rfl⟩ := retR_ok h; exact wfc _ _ _ _
            rcases ite_or h with ⟨-, h⟩ | ⟨-, h⟩
            · obtain ⟨rfl, rfl⟩ := retR_ok h; exact wfc _ _ _ _
            rcases ite_or h with ⟨-, h⟩ | ⟨-, h⟩
            · obtain ⟨rfl, rfl⟩ := retR_ok h; exact wfc _ _ _ _
            rcases ite_or h with ⟨-, h⟩ | ⟨-, h⟩
            · obtain ⟨rfl, rfl⟩ := retR_ok h; exact wfc _ _ _ _
            rcases ite_or h with ⟨-, h⟩ | ⟨-, h⟩
            · exact call _ _ _ (by decide) h
            rcases ite_or h with ⟨-, h⟩ | ⟨-, h⟩
            · exact call _ _ _ (by decide) h
            rcases ite_or h with ⟨-, h⟩ | ⟨-, h⟩
            · rcases ite_or h with ⟨cq, h⟩ | ⟨-, h⟩
              · obtain ⟨c, s2, h1, h2⟩ := bindR_ok h
                obtain ⟨rfl, rfl⟩ := retR_ok h2
                exact wf0 _ _ _ _ _
              · obtain ⟨rfl, rfl⟩ := retR_ok h; exact wf0 _ _ _ _ _
            · cases h
          rcases ite_or h with ⟨-, h⟩ | ⟨-, h⟩
          · exact ih1 _ _ _ _ h
          · cases h
      | 8, h =>
        rw [px] at h
        rcases ite_or h with ⟨-, h⟩ | ⟨-, h⟩
        · obtain ⟨a, s1, h1, h2⟩ := bindR_ok h
          obtain ⟨u, s2, h3, h4⟩ := bindR_ok h2
          obtain ⟨rfl, rfl⟩ := retR_ok h4
          exact ih1 _ _ _ _ h1
        · cases h
    · rw [pc] at h
      split at h
      · obtain ⟨rfl, rfl⟩ := retR_ok h
        exact h0
      · rename_i op hw
        obtain ⟨f, s1, h1, h2⟩ := bindR_ok h
        exact ih2 _ _ _ _ _ (wf2 h0 (ih1 _ _ _ _ h1) (opsP_rg hw)) h2
end

end Go.Proofs.YtkffomfbnbcgaaaGreatDoor

namespace Go.Proofs.YtkffomfbnbcgaaaGreatDoor
set_option maxRecDepth 100000
open Go.RowKit Go.Joins Go.ChangeShapes Go.WideShapes
set_option linter.unusedVariables false
set_option linter.unusedSimpArgs false

def mxL : List Ex → Nat
  | [] => 0
  | a :: r => max (depR a) (mxL r)
theorem depL_mx : ∀ l : List Ex, l ≠ [] → depL l = mxL l + 1
  | [], h => absurd rfl h
  | [a], _ => by simp [depL, mxL]
  | a :: b :: r, _ => by
    have := depL_mx (b :: r) (by simp)
    simp only [depL, mxL] at this ⊢
    omega
theorem mxL_app (l r : List Ex) : mxL (l ++ r) = max (mxL l) (mxL r) := by
  induction l with
  | nil => simp [mxL]
  | cons a l ih => rw [List.cons_append, mxL, mxL, ih]; omega
theorem mxL_mem : ∀ {l : List Ex} {e : Ex}, e ∈ l → depR e ≤ mxL l
  | [], e, h => by cases h
  | a :: r, e, h => by
    rw [mxL]
    rcases List.mem_cons.1 h with rfl | h
    · omega
    · have := mxL_mem h; omega
/-- the operands of an expression that lies -/
theorem XE.Mem.at {K : Bl} {w : World} {op kind num scale : Int} {text qual : ByteArray} {a : Option Addr} {cap : Nat} {args : List XE} (h : XE.Mem K w (.mk op kind num scale text qual a cap args)) {k : Nat} {x : XE} (hx : args[k]? = some x) :
    ∃ b o, a = some ⟨b, o, none⟩ ∧ K b ∧ b < w.heap.size ∧ (∀ j u, x.enc[j]? = some u → w.cell? ⟨b, o + k * 7 + j, none⟩ = some u) ∧ XE.Mem K w x := by
  unfold XE.Mem at h
  obtain ⟨h1, h2, h3, h4⟩ := h
  rcases h3 with h3 | ⟨b, o, e1, e2, e3, e4⟩
  · rw [h3] at hx; simp at hx
  · refine ⟨b, o, e1, e2, e3, fun j u hj => ?_, XE.memL_iff.1 h4 x (List.mem_of_getElem? hx)⟩
    have hj7 : j < 7 := by rw [← XE.enc_len x]; exact (List.getElem?_eq_some_iff.1 hj).1
    rw [Nat.add_assoc]
    refine e4 _ u ?_
    have := RK.cells_at xk args k j x hx hj7
    exact this.trans hj
set_option maxHeartbeats 4000000 in
theorem depth_p : ∀ (N : Nat) {K : Bl} {w : World} (x : XE), depR x.er < N → depR x.er ≤ 4294967296 → Ex.Wf x.er → XE.Mem K w x →
    Calls Tryz.prog 27 #[x.val] w fun e w' => e = .returned (.int .i64 (depR x.er : Int)) ∧ Below w.heap.size w w'
  | 0, K, w, x, h, _, _, _ => absurd h (by omega)
  | N + 1, K, w, .mk op kind num scale text qual a cap args, h, hd, hwf, hm => by
    have HI := Lib.hid (fun (w : World) (x : XE) => depth_p N (K := K) (w := w) x)
    simp only [XE.er] at hwf h hd ⊢
    unfold Ex.Wf at hwf
    obtain ⟨hw0, hwl⟩ := hwf
    rw [depR] at h hd ⊢
    obtain ⟨D, hD⟩ : ∃ D, depL (XE.erL args) = D := ⟨_, rfl⟩
    rw [hD] at h hd ⊢
    generalize hP : (fun (e : Ending) (w' : World) => e = .returned (.int .i64 (D : Int)) ∧ Below w.heap.size w w') = P
    have b1 : Below w.heap.size w (w.alloc (.cells (XE.encA (.mk op kind num scale text qual a cap args)) 30)) := (Below.refl _ _).alloc (Nat.le_refl _) _
    have hn1 := Bx.new w (XE.encA (.mk op kind num scale text qual a cap args)) 30
    simp only [XE.encA] at b1 hn1
    obtain ⟨n, hn⟩ : ∃ n, args.length = n := ⟨_, rfl⟩
    have hnc : n ≤ cap := by rw [← hn]; unfold XE.Mem at hm; exact hm.1
    have hcm : cap ≤ maxLen := by unfold XE.Mem at hm; exact hm.2.1
    have HM0 := hm.below b1
    obtain ⟨wa, hwa⟩ : ∃ wa, w.alloc (.cells #[.int .i64 op, .slice a args.length cap, .int .i64 kind, .int .i64 num, .int .i64 scale, .string text, .string qual] 30) = wa := ⟨_, rfl⟩
    rw [hwa] at b1 hn1 HM0
    rw [hn] at hwa hn1
    have HM := Lib.hid HM0
    clear HM0
    obtain ⟨⟨x0, x1, x2, x3, x4, x5, x6⟩, -⟩ := hn1.seven
    have HP := Lib.hid hP
    have HB := Lib.hid b1
    simp only [XE.val]
    rw [hn]
    by_cases he : args = []
    · have hop := (hw0.1 (by rw [XE.erL_map, he]; rfl))
      have hD0 : D = 0 := by rw [← hD, he]; simp [XE.erL, depL]
      have HF := Lib.hid (show P (.returned (.int .i64 0)) wa by rw [← hP, hD0]; exact ⟨rfl, b1⟩)
      clear hP b1 hn1 hm hw0 hwl h hd he hn HM
      rcases hop with rfl | rfl | rfl
      all_goals
        go_enter Tryz.func27, Tryz.ntmps27
        go_wp2_with fail
        exact HF.out
    · have hop : ¬ (op = 0 ∨ op = 21 ∨ op = 22) := fun c => he (by have := hw0.2 c; rw [XE.erL_map] at this; exact List.map_eq_nil_iff.1 this)
      have o0 : (op == 0) = false := by simp; omega
      have o1 : (op == 21) = false := by simp; omega
      have o2 : (op == 22) = false := by simp; omega
      have hDm : D = mxL (XE.erL args) + 1 := by rw [← hD]; exact depL_mx _ (fun e => he (by rw [XE.erL_map] at e; exact List.map_eq_nil_iff.1 e))
      have HN := Lib.hid (And.intro hn (And.intro hwl hDm))
      have hh := Lib.hid (And.intro h hd)
      clear hP b1 hn1 hm hw0 hwl h hd hn hDm he hop hD
      go_enter Tryz.func27, Tryz.ntmps27
      go_wp2_with fail
      go_loopw [3, 15] (fun d i wr => ∃ (k m : Nat), k ≤ n ∧ i = .int .i64 (k : Int) ∧ d = .int .i64 (m : Int) ∧ Hid (m = mxL ((XE.erL args).take k)) ∧ Hid (Below wa.heap.size wa wr)) (fun _ i _ => n - (intOf i).toNat)
      case atStart => exact ⟨0, 0, Nat.zero_le _, rfl, rfl, Lib.hid rfl, Lib.hid (Below.refl _ _)⟩
      case round =>
        obtain ⟨k, m, hk, rfl, rfl, HK, HW⟩ := hrel
        by_cases c : k < n
        · have c1 : (k : Int) < (n : Int) := by omega
          have hx : args[k]? = some (args[k]'(by rw [HN.out.1]; exact c)) := List.getElem?_eq_getElem _
          generalize args[k]'(by rw [HN.out.1]; exact c) = x at *
          obtain ⟨b, o, rfl, -, hb, hcell, hmx⟩ := XE.Mem.at (HM.out.below HW.out) hx
          have hex : (XE.erL args)[k]? = some x.er := by rw [XE.erL_map, List.getElem?_map, hx]; rfl
          have hle := mxL_mem (List.mem_of_getElem? hex)
          have hwf := Ex.wfL_mem HN.out.2.1 (List.mem_of_getElem? hex)
          have hst : mxL ((XE.erL args).take (k + 1)) = max (mxL ((XE.erL args).take k)) (depR x.er) := by
            rw [List.take_add_one, hex, mxL_app]
            simp [mxL]
          have HCA := Lib.hid (HI.out (wr.alloc (.cells x.encA 30)) x (by have := HN.out.2.2; have := hh.out.1; omega) (by have := HN.out.2.2; have := hh.out.2; omega) hwf (hmx.below ((Below.refl _ _).alloc (Nat.le_refl _) _)))
          have HST := Lib.hid (And.intro hst hle)
          obtain ⟨op1, kind1, num1, scale1, text1, qual1, a1, cap1, args1⟩ := x
          have q0 := hcell 0 _ rfl
          have q1 := hcell 1 _ rfl
          have q2 := hcell 2 _ rfl
          have q3 := hcell 3 _ rfl
          have q4 := hcell 4 _ rfl
          have q5 := hcell 5 _ rfl
          have q6 := hcell 6 _ rfl
          rw [Nat.add_zero] at q0
          simp only [XE.encA, XE.val] at HCA
          obtain ⟨dx, hdx⟩ : ∃ dx, depR (XE.er (.mk op1 kind1 num1 scale1 text1 qual1 a1 cap1 args1)) = dx := ⟨_, rfl⟩
          rw [hdx] at HCA HST
          clear hx hex hle hwf hst hcell hmx hdx
          go_wp2_with (first | (go_at_call 27; refine HCA.out.mono ?_; rintro e w2 ⟨rfl, b2⟩; have HB2 := Lib.hid (HW.out.trans (((Below.refl _ _).alloc (Nat.le_refl _) _).trans (b2.mono (by simp)) |>.mono HW.out.size)); clear b2 HCA))
          have hwk : wrap64 ((k : Int) + 1) = ((k + 1 : Nat) : Int) := by unfold wrap64 maxLen at *; omega
          refine ⟨⟨k + 1, max m dx, by omega, by rw [hwk], by congr 1; omega, Lib.hid (by rw [HST.out.1, HK.out]), HB2⟩, ?_⟩
          rw [hwk]
          simp [intOf]
          omega
        · have c2 : decide ((k : Int) < (n : Int)) = false := by simp; omega
          obtain rfl : k = n := by omega
          have hm2 : m + 1 = D := by
            rw [HN.out.2.2, HK.out, List.take_of_length_le (by rw [XE.erL_length, HN.out.1]; exact Nat.le_refl _)]
          have hD2 := hh.out.2
          have hwm : wrap64 ((m : Int) + 1) = (D : Int) := by unfold wrap64; omega
          have HF := Lib.hid (show P (.returned (.int .i64 (D : Int))) wr by rw [← HP.out]; exact ⟨rfl, HB.out.trans (HW.out.mono HB.out.size)⟩)
          clear hm2 hD2
          go_wp2_with fail
          first
            | exact HF.out
            | (rw [hwm]; exact HF.out)

end Go.Proofs.YtkffomfbnbcgaaaGreatDoor

namespace Go.Proofs.YtkffomfbnbcgaaaGreatDoor
set_option maxRecDepth 100000
open Go.RowKit Go.Joins Go.ChangeShapes Go.WideShapes
set_option linter.unusedVariables false
set_option linter.unusedSimpArgs false

/-- the contract of a reader that answers an expression -/
def PR (g pb : Nat) {α : Type} (R : Nat → World → Value → α → Prop) (f : PS → RX α) : Prop := ∀ (w : World) (s : PS) (r : Except Nat (α × PS)), PsM w pb s → f s = some r → Calls Tryz.prog g #[.pointer (some ⟨pb, 0, none⟩)] w (EndP w pb (R w.heap.size) r)
set_option maxHeartbeats 4000000 in
theorem whole_p (n pb : Nat) : PR 132 pb RX1 (wholeP isN n) := by
  intro w s r h hr
  unfold wholeP at hr
  generalize hP : EndP w pb (RX1 w.heap.size) r = P
  have H1 := Hd.mk' h
  have hpb := h.lt
  obtain ⟨wa, hw1⟩ : ∃ w1, w.alloc (.cells zx 30) = w1 := ⟨_, rfl⟩
  rw [hw1] at H1
  have HH := Lib.hid H1
  have HP := Lib.hid hP
  unfold zx at hw1
  cases h1 : px isN n 0 s with
  | none => rw [h1] at hr; cases hr
  | some r1 =>
    have HB := Lib.hid (expr_any wa s r1 H1.st.ps h1)
    have HU := Lib.hid (fun e s' (q : r1 = .ok (e, s')) => And.intro ((px_dep isN n).1 0 _ _ _ (by rw [h1, q])) ((px_wf isN n).1 0 _ _ _ (by rw [h1, q])))
    have hln := h.ln
    rw [h1] at hr
    clear h1 h H1 hP
    match r1, hr, HB with
    | .error c, hr, HB =>
      have hrc : r = .error c := by injection hr with hr; exact hr.symm
      subst hrc
      clear hr HU
      go_enter Tryz.func132, Tryz.ntmps132
      go_wp2_with (first | (go_at_call 178; refine HB.out.mono ?_; rintro e w1 ⟨f1, rfl⟩; have F1 := Lib.hid f1; clear f1))
      exact ⟨rfl, by rw [← HP.out]; exact HH.out.err F1.out c⟩
    | .ok (ex, s1), hr, HB =>
      have hrc : r = .ok (ex, s1.setD (max s1.deep (depR ex))) := by injection hr with hr; exact hr.symm
      subst hrc
      obtain ⟨hu1, hu2⟩ := HU.out ex s1 rfl
      unfold DpS at hu1
      have hd : depR ex ≤ 4294967296 := by omega
      obtain ⟨dx, hdx⟩ : ∃ dx, depR ex = dx := ⟨_, rfl⟩
      obtain ⟨d0, hd0⟩ : ∃ d0, s1.deep = d0 := ⟨_, rfl⟩
      have HDX := Lib.hid (And.intro hdx (And.intro hd0 (And.intro hu2 hd)))
      have hdle : dx ≤ 4294967296 := by omega
      have hmx : (max (d0 : Int) (dx : Int)) = ((max d0 dx : Nat) : Int) := by omega
      clear hr HU hu1 hu2 hd hdx hd0 hln
      go_enter Tryz.func132, Tryz.ntmps132
      go_wp2_with (first | (go_at_call 178; refine HB.out.mono ?_; rintro e w1 ⟨f1, v, rfl, ⟨x, rfl, rfl, m1⟩, p1⟩; have HCH := Lib.hid (ChS.same (HH.out.st.fr.trans f1 (New.refl _ _)) (by have := f1.size; have := HH.out.sz; omega) p1 hpb ⟨_, _, _, _, _, _, _, HH.out.box ⟨f1, p1⟩⟩ (by rw [HH.out.sz] at m1; exact m1)); clear f1 p1 m1; obtain ⟨op, kind, num, scale, text, qual, a, cap, args⟩ := x; unfold XE.val; simp only [XE.encA] at HCH))
      obtain ⟨W, hW⟩ : ∃ W, w1.alloc (.cells #[.int .i64 op, .slice a args.length cap, .int .i64 kind, .int .i64 num, .int .i64 scale, .string text, .string qual] 30) = W := ⟨_, rfl⟩
      rw [hW] at HCH
      rw [hW]
      obtain ⟨-, -, e1, e2⟩ := HCH.out.st.ps.nums
      rw [HDX.out.2.1] at e1
      have hbx := HCH.out.bx
      simp only [XE.encA] at hbx
      obtain ⟨⟨q0, q1, q2, q3, q4, q5, q6⟩, -⟩ := hbx.seven
      have HCD := Lib.hid (fun (w' : World) (hb : Below W.heap.size W w') => depth_p _ (XE.mk op kind num scale text qual a cap args) (Nat.lt_succ_self _) HDX.out.2.2.2 HDX.out.2.2.1 (HCH.out.mm.below hb))
      rw [HDX.out.1] at HCD
      simp only [XE.val] at HCD
      have HCW := Lib.hid (HCD.out W.drew (Below.refl _ _).drew)
      have HWL := Lib.hid hW
      clear hbx hW
      go_region_with (first | (go_at_call 27; refine HCW.out.mono ?_; rintro e w3 ⟨rfl, b3⟩; have HC3 := Lib.hid (ChS.stp (x := (XE.mk op kind num scale text qual a cap args)) HCH.out hpb ((Stp.refl HCH.out.st.ps).drew.below b3)); obtain ⟨-, -, k1, k2⟩ := HC3.out.st.ps.nums; rw [HDX.out.2.1] at k1; clear b3))
      all_goals
        have HC4 := Lib.hid (ChS.stp (x := (XE.mk op kind num scale text qual a cap args)) HC3.out hpb (HC3.out.st.ps.setD (max d0 dx) (by have h := HC3.out.st.ps.dp; rw [HDX.out.2.1] at h; omega)))
        obtain ⟨wz, hwz⟩ : ∃ wz, w3.setCell ⟨pb, 2, none⟩ (.int .i64 ((max d0 dx : Nat) : Int)) = wz := ⟨_, rfl⟩
        rw [hwz] at HC4
        clear q0 q1 q2 q3 q4 q5 q6
        obtain ⟨⟨q0, q1, q2, q3, q4, q5, q6⟩, -⟩ := HC4.out.bx.seven
        obtain ⟨v0, v1, v2, v3, v4, v5, v6, hb8⟩ := HC4.out.b0
        obtain ⟨⟨x0, x1, x2, x3, x4, x5, x6⟩, z0, z1, z2, z3, z4, z5, z6⟩ := hb8.seven
        clear hb8 k1 k2 e1 e2
        rw [hwz]
        go_wp2_with fail
        have hfi := HC4.out.out hpb
        exact ex_ret Tryz.results132 hfi.1 rfl rfl (by rw [← HP.out, HDX.out.2.1, HDX.out.1]; exact hfi.2)

end Go.Proofs.YtkffomfbnbcgaaaGreatDoor
