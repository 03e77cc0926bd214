/-
  Texts of mine put together, in build order.
  Conditions: as each declaration says.
-/
import Derived.Test.YtofnkfjhmjecjaaGreatDoorZp6
import Derived.Test.YtofnkfjhmjecjaaGreatDoorZp23
namespace Go.Proofs.YtofnkfjhmjecjaaGreatDoor
set_option maxRecDepth 100000
open Go.RowKit Go.Joins Go.ChangeShapes Go.WideShapes Go.Great
set_option linter.unusedVariables false
set_option linter.unusedSimpArgs false
structure ExB (w4 wr : World) (pb g lo : Nat) (ts : List Tk) (s : DS) (z : XE) : Prop where
 dp : Dp w4 wr pb ts s
 bx : Bx wr g z.encA 30
 mm : XE.Mem (fun k => lo ≤ k ∧ k ≠ g) wr z
 lg : g < wr.heap.size
theorem ExB.start {w4 : World} {pb lo : Nat} {ts : List Tk} {s : DS} {x : XE} (h : DsM w4 pb ts s) (hm : XE.Mem (GE lo) w4 x) : ExB w4 (st7 (w4.alloc (.cells zx 30)) w4.heap.size x) pb w4.heap.size lo ts s x := by
 have h8 := xbox (w1 := w4) x
 refine ⟨(Dp.refl h).below h8.1, h8.2, ?_, h8.2.lt⟩
 exact XE.Mem.frm (Frm.of_below (F := fun _ => False) h8.1) (fun _ _ e => e) x (XE.Mem.mono (fun k hk => ⟨hk.1, Nat.ne_of_lt hk.2⟩) x (XE.Mem.old x hm))
theorem ExB.step {w4 wr w5 : World} {pb g lo : Nat} {ts : List Tk} {s s2 : DS} {z : XE} (h : ExB w4 wr pb g lo ts s z) (d : Dp wr w5 pb ts s2) (h1 : pb < g) (h2 : pb < lo) : ExB w4 w5 pb g lo ts s2 z :=
 ⟨h.dp.trans d, h.bx.frm d.fr (fun e => by have h1 : g = pb := e; omega), XE.Mem.frm d.fr (fun k hk e => by have h1 := hk.1; have h2 : k = pb := e; omega) z h.mm, Nat.lt_of_lt_of_le h.lg d.fr.size⟩
theorem ExB.below {w4 wr w5 : World} {pb g lo : Nat} {ts : List Tk} {s : DS} {z : XE} (h : ExB w4 wr pb g lo ts s z) (d : Below wr.heap.size wr w5) : ExB w4 w5 pb g lo ts s z :=
 ⟨h.dp.below d, h.bx.below d, h.mm.below d, Nat.lt_of_lt_of_le h.lg d.size⟩
theorem ExB.put {w4 wr : World} {pb g lo : Nat} {ts : List Tk} {s : DS} {z y : XE} (h : ExB w4 wr pb g lo ts s z) (hg : w4.heap.size ≤ g) (hp : pb < w4.heap.size) (hy : XE.Mem (fun k => lo ≤ k ∧ k ≠ g) wr y) : ExB w4 (st7 wr g y) pb g lo ts s y := by
 have f : Frm (fun k => k = g) wr (Go.Proofs.YtofnkfjhmjecjaaGreatDoor.st7 wr g y) := st7_frm (F := fun k => k = g) (Frm.refl _ _) (.inl rfl) y
 have hb : Bx (Go.Proofs.YtofnkfjhmjecjaaGreatDoor.st7 wr g y) g y.encA 30 := by
  have h0 := h.bx
  obtain ⟨op, kind, num, scale, text, qual, a, cap, args⟩ := z
  exact st7_box h0 y
 exact ⟨⟨st7_frm h.dp.fr (.inr hg) y, h.dp.ds.frm f (fun k hk e => by have h1 : k = g := e; omega)⟩, hb, XE.Mem.frm f (fun k hk e => hk.2 e) y hy, Nat.lt_of_lt_of_le h.lg f.size⟩
theorem ExB.up1 {w4 wr : World} {pb g lo : Nat} {ts : List Tk} {s : DS} {z : XE} (h : ExB w4 wr pb g lo ts s z) (hg : w4.heap.size ≤ g) (hp : pb < w4.heap.size) (hl : lo ≤ wr.heap.size) (op : Int) :
  Bx (wr.alloc (.cells (xk.cells [z]).toArray 30)) g z.encA 30 ∧ ExB w4 (st7 (wr.alloc (.cells (xk.cells [z]).toArray 30)) g (.mk op 0 0 0 ⟨#[]⟩ ⟨#[]⟩ (some ⟨wr.heap.size, 0, none⟩) 1 [z])) pb g lo ts s (.mk op 0 0 0 ⟨#[]⟩ ⟨#[]⟩ (some ⟨wr.heap.size, 0, none⟩) 1 [z]) := by
 have hb : Below wr.heap.size wr (wr.alloc (.cells (xk.cells [z]).toArray 30)) := (Below.refl _ _).alloc (Nat.le_refl _) _
 exact ⟨h.bx.below hb, (h.below hb).put hg hp (node1 op z ⟨hl, Nat.ne_of_gt h.lg⟩ h.mm)⟩
theorem ExB.up2 {w4 wr : World} {pb g lo : Nat} {ts : List Tk} {s : DS} {z y : XE} (h : ExB w4 wr pb g lo ts s z) (hg : w4.heap.size ≤ g) (hp : pb < w4.heap.size) (hl : lo ≤ wr.heap.size) (hy : XE.Mem (fun k => lo ≤ k ∧ k ≠ g) wr y) (op : Int) :
  Bx (wr.alloc (.cells (xk.cells [z, y]).toArray 30)) g z.encA 30 ∧ ExB w4 (st7 (wr.alloc (.cells (xk.cells [z, y]).toArray 30)) g (.mk op 0 0 0 ⟨#[]⟩ ⟨#[]⟩ (some ⟨wr.heap.size, 0, none⟩) 2 [z, y])) pb g lo ts s (.mk op 0 0 0 ⟨#[]⟩ ⟨#[]⟩ (some ⟨wr.heap.size, 0, none⟩) 2 [z, y]) := by
 have hb : Below wr.heap.size wr (wr.alloc (.cells (xk.cells [z, y]).toArray 30)) := (Below.refl _ _).alloc (Nat.le_refl _) _
 exact ⟨h.bx.below hb, (h.below hb).put hg hp (node2 op z y ⟨hl, Nat.ne_of_gt h.lg⟩ h.mm hy)⟩
theorem dWhich_opn (ts : List Tk) : ∀ (l : List (Nat × List Nat × Nat)) (s : DS), (dWhich ts l s).2.opn = s.opn ∧ s.i ≤ (dWhich ts l s).2.i ∧ ((dWhich ts l s).1 ≠ 0 → (dWhich ts l s).2.i = s.i + 1 ∧ s.i < ts.length)
 | [], s => ⟨rfl, Nat.le_refl _, fun h => absurd rfl h⟩
 | (k, w, op) :: r, s => by
  unfold dWhich
  by_cases c : dIs ts k w s = true
  ·rw [if_pos c]; exact ⟨rfl, Nat.le_succ _, fun _ => ⟨rfl, dIs_lt c⟩⟩
  ·rw [if_neg c]; exact dWhich_opn ts r s
theorem level_d {w : World} {pb : Nat} {ts : List Tk} {s : DS} (h : DsM w pb ts s) {lvl : Nat} (hl : lvl = 0 ∨ lvl = 1 ∨ lvl = 4 ∨ lvl = 5) :
  Calls Tryz.prog 176 #[.pointer (some ⟨pb, 0, none⟩), .int .i64 (lvl : Int)] w fun e w' => e = .returned (.int .i64 ((dLevel ts lvl s).1 : Int)) ∧ Dp w w' pb ts (dLevel ts lvl s).2 := by
 rcases hl with rfl | rfl | rfl | rfl
 ·exact level_d0 h
 ·exact level_d1 h
 ·exact level_d4 h
 ·exact level_d5 h
def dlen (w : World) (pb : Nat) : Nat := match w.cell? ⟨pb, 0, none⟩, w.cell? ⟨pb, 1, none⟩ with
 | some (.slice _ n _), some (.int _ i) => n - i.toNat
 | _, _ => 0
theorem DsM.dlen {w : World} {pb : Nat} {ts : List Tk} {s : DS} (h : DsM w pb ts s) : dlen w pb = ts.length - s.i := by
 obtain ⟨a, cap, hb, -⟩ := h.hd
 obtain ⟨⟨x0, x1, -⟩, -⟩ := hb.five
 unfold Go.Proofs.YtofnkfjhmjecjaaGreatDoor.dlen
 rw [x0, x1]
 simp
set_option maxHeartbeats 8000000 in
theorem expr_z {w : World} {s : DS} {ts : List Tk} {pb lvl : Nat} (h : DsM w pb ts s) (he : s.e ≠ 0) (hl : lvl ≤ 7) :
  Calls Tryz.prog 126 #[.pointer (some ⟨pb, 0, none⟩), .int .i64 (lvl : Int)] w (EndX w pb ts s (zE, s)) := by
 generalize hP : EndX w pb ts s (zE, s) = P
 have HP := Lib.hid hP
 have HPB := Lib.hid h.lt
 have hn1 := Bx.new w zx 30
 have b1 : Below w.heap.size w (w.alloc (.cells zx 30)) := (Below.refl _ _).alloc (Nat.le_refl _) _
 obtain ⟨w1, hw1⟩ : ∃ w1, w.alloc (.cells zx 30) = w1 := ⟨_, rfl⟩
 rw [hw1] at hn1 b1
 have HB0 := Lib.hid hn1
 have HD1 := Lib.hid ((Dp.refl h).below b1)
 have HSZ := Lib.hid (show w.heap.size < w1.heap.size from hn1.lt)
 unfold zx at hw1
 obtain ⟨a, cap, hb, -⟩ := HD1.out.ds.hd
 obtain ⟨⟨x0, x1, x2, x3, x4⟩, f0, f1, f2, f3, f4⟩ := hb.five
 have q : ((s.e : Int) == 0) = false := by simp; omega
 have q2 : ((s.e : Int) != 0) = true := by simp; omega
 have hfin := fin_X (s := s) (x := (XE.mk 0 0 0 0 ⟨#[]⟩ ⟨#[]⟩ none 0 [])) HPB.out (Nat.le_of_lt HSZ.out) HB0.out HD1.out (XE.Mem.leaf (GE w1.heap.size) _ _ _ _ _ _ _) HSZ.out rfl (Nat.le_refl _)
 rw [er0, HP.out] at hfin
 have HFI := Lib.hid hfin
 clear hP hn1 b1 h he hb x0 x1 x2 x4 f0 f1 f2 f3 f4 hfin hl
 go_enter Tryz.func126, Tryz.ntmps126
 go_wp2_with (first | (refine wpSx (x := (XE.mk 0 0 0 0 ⟨#[]⟩ ⟨#[]⟩ none 0 [])) rfl _ _ rfl HB0.out rfl rfl ?_))
 exact ex_ret Tryz.results126 HFI.out.1 rfl rfl HFI.out.2
set_option maxHeartbeats 8000000 in
theorem expr_t {w : World} {s : DS} {ts : List Tk} {pb n : Nat} {r : Ex × DS} (ht : TsD ts n pb) (h : DsM w pb ts s) (he : s.e = 0) (ho : s.opn ≤ 40) (hr : dT ts n s = some r) :
  Calls Tryz.prog 126 #[.pointer (some ⟨pb, 0, none⟩), .int .i64 3] w (EndX w pb ts s r) := by
 generalize hP : EndX w pb ts s r = P
 have HP := Lib.hid hP
 have HO := Lib.hid ho
 have HPB := Lib.hid h.lt
 have hn1 := Bx.new w zx 30
 have b1 : Below w.heap.size w (w.alloc (.cells zx 30)) := (Below.refl _ _).alloc (Nat.le_refl _) _
 obtain ⟨w1, hw1⟩ : ∃ w1, w.alloc (.cells zx 30) = w1 := ⟨_, rfl⟩
 rw [hw1] at hn1 b1
 have HB0 := Lib.hid hn1
 have HD1 := Lib.hid ((Dp.refl h).below b1)
 have HSZ := Lib.hid (show w.heap.size < w1.heap.size from hn1.lt)
 unfold zx at hw1
 obtain ⟨a, cap, hb, -⟩ := HD1.out.ds.hd
 obtain ⟨⟨x0, x1, x2, x3, x4⟩, f0, f1, f2, f3, f4⟩ := hb.five
 rw [he] at x3
 have HX1 := Lib.hid (ht w1 s r HD1.out.ds ho hr)
 clear ht hr
 clear hP hn1 b1 h ho he hb x0 x1 x2 x4 f0 f1 f2 f3 f4
 go_enter Tryz.func126, Tryz.ntmps126
 go_wp2_with fail
 try go_at_call 174
 refine HX1.out.mono ?_
 rintro e2 w2 ⟨x, rfl, hxe, hxm, hd2, ho2, hi2⟩
 have hrb : Bx w2 w.heap.size zx 30 := HB0.out.frm hd2.fr (fun e => by have h1 : w.heap.size = pb := e; have := HPB.out; omega)
 have hfin := fin_X (s := s) (x := x) HPB.out (Nat.le_of_lt HSZ.out) hrb (HD1.out.trans hd2) hxm HSZ.out ho2 hi2
 rw [hxe, HP.out] at hfin
 have HFI := Lib.hid hfin
 have HRB := Lib.hid hrb
 clear hrb hfin hxe hxm hd2 ho2 hi2
 go_wp2_with (first | (refine wpSx (x := x) rfl _ _ rfl HRB.out rfl rfl ?_))
 exact ex_ret Tryz.results126 HFI.out.1 rfl rfl HFI.out.2
set_option maxHeartbeats 8000000 in
theorem expr_o {w : World} {s : DS} {ts : List Tk} {pb n : Nat} {r : Ex × DS} (ht : OnD ts n pb) (h : DsM w pb ts s) (he : s.e = 0) (ho : s.opn ≤ 40) (hr : dO ts n s = some r) :
  Calls Tryz.prog 126 #[.pointer (some ⟨pb, 0, none⟩), .int .i64 7] w (EndX w pb ts s r) := by
 generalize hP : EndX w pb ts s r = P
 have HP := Lib.hid hP
 have HO := Lib.hid ho
 have HPB := Lib.hid h.lt
 have hn1 := Bx.new w zx 30
 have b1 : Below w.heap.size w (w.alloc (.cells zx 30)) := (Below.refl _ _).alloc (Nat.le_refl _) _
 obtain ⟨w1, hw1⟩ : ∃ w1, w.alloc (.cells zx 30) = w1 := ⟨_, rfl⟩
 rw [hw1] at hn1 b1
 have HB0 := Lib.hid hn1
 have HD1 := Lib.hid ((Dp.refl h).below b1)
 have HSZ := Lib.hid (show w.heap.size < w1.heap.size from hn1.lt)
 unfold zx at hw1
 obtain ⟨a, cap, hb, -⟩ := HD1.out.ds.hd
 obtain ⟨⟨x0, x1, x2, x3, x4⟩, f0, f1, f2, f3, f4⟩ := hb.five
 rw [he] at x3
 have HX1 := Lib.hid (ht w1 s r HD1.out.ds ho he hr)
 clear ht hr
 clear hP hn1 b1 h ho he hb x0 x1 x2 x4 f0 f1 f2 f3 f4
 go_enter Tryz.func126, Tryz.ntmps126
 go_wp2_with fail
 try go_at_call 175
 refine HX1.out.mono ?_
 rintro e2 w2 ⟨x, rfl, hxe, hxm, hd2, ho2, hi2⟩
 have hrb : Bx w2 w.heap.size zx 30 := HB0.out.frm hd2.fr (fun e => by have h1 : w.heap.size = pb := e; have := HPB.out; omega)
 have hfin := fin_X (s := s) (x := x) HPB.out (Nat.le_of_lt HSZ.out) hrb (HD1.out.trans hd2) hxm HSZ.out ho2 hi2
 rw [hxe, HP.out] at hfin
 have HFI := Lib.hid hfin
 have HRB := Lib.hid hrb
 clear hrb hfin hxe hxm hd2 ho2 hi2
 go_wp2_with (first | (refine wpSx (x := x) rfl _ _ rfl HRB.out rfl rfl ?_))
 exact ex_ret Tryz.results126 HFI.out.1 rfl rfl HFI.out.2
end Go.Proofs.YtofnkfjhmjecjaaGreatDoor

namespace Go.Proofs.YtofnkfjhmjecjaaGreatDoor
set_option maxRecDepth 100000
open Go.RowKit Go.Joins Go.ChangeShapes Go.WideShapes Go.Great
set_option linter.unusedVariables false
set_option linter.unusedSimpArgs false
set_option maxHeartbeats 16000000 in
theorem expr_u2 {w : World} {s : DS} {ts : List Tk} {pb n : Nat} {r : Ex × DS} (hx : ExD ts n pb) (h : DsM w pb ts s) (he : s.e = 0) (ho : s.opn ≤ 40)
  (hr : bindD (dX ts n 3 (dCount ts 1 wNot (ts.length + 1) s).2) (fun e s1 => some (wrapN 16 (dCount ts 1 wNot (ts.length + 1) s).1 e, s1)) = some r) :
  Calls Tryz.prog 126 #[.pointer (some ⟨pb, 0, none⟩), .int .i64 2] w (EndX w pb ts s r) := by
 generalize hP : EndX w pb ts s r = P
 have HP := Lib.hid hP
 have HO := Lib.hid ho
 have HPB := Lib.hid h.lt
 have hn1 := Bx.new w zx 30
 have b1 : Below w.heap.size w (w.alloc (.cells zx 30)) := (Below.refl _ _).alloc (Nat.le_refl _) _
 obtain ⟨w1, hw1⟩ : ∃ w1, w.alloc (.cells zx 30) = w1 := ⟨_, rfl⟩
 rw [hw1] at hn1 b1
 have HB0 := Lib.hid hn1
 have HD1 := Lib.hid ((Dp.refl h).below b1)
 have HSZ := Lib.hid (show w.heap.size < w1.heap.size from hn1.lt)
 unfold zx at hw1
 obtain ⟨a, cap, hb, -⟩ := HD1.out.ds.hd
 obtain ⟨⟨x0, x1, x2, x3, x4⟩, f0, f1, f2, f3, f4⟩ := hb.five
 rw [he] at x3
 obtain ⟨D, hD⟩ : ∃ D, dCount ts 1 wNot (ts.length + 1) s = D := ⟨_, rfl⟩
 rw [hD] at hr
 have HDD := Lib.hid hD
 clear hD
 have HR := Lib.hid hr
 have HXX := Lib.hid hx
 have HLN := Lib.hid h.ln
 have ek : ((1 : Nat) : Int) = 1 := rfl
 have HEK := Lib.hid ek
 clear hx hr ek
 clear hP hn1 b1 h ho he hb x0 x1 x2 x4 f0 f1 f2 f3 f4
 go_enter Tryz.func126, Tryz.ntmps126
 go_wp2_with fail
 go_loopw [5] (fun i wr => ∃ (j : Nat), i = .int .i64 (j : Int) ∧ j ≤ 4000 ∧ Hid (∃ sj : DS, Dp w1 wr pb ts sj ∧ sj.opn = s.opn ∧ sj.i = s.i + j ∧ D = ((dCount ts 1 wNot (ts.length + 1 - j) sj).1 + j, (dCount ts 1 wNot (ts.length + 1 - j) sj).2))) (fun i _ => 4000 - (intOf i).toNat)
 case atStart => exact ⟨0, rfl, by omega, Lib.hid ⟨s, Dp.refl HD1.out.ds, rfl, rfl, by rw [← HDD.out]; rfl⟩⟩
 case round =>
  obtain ⟨j, rfl, hj, HJ⟩ := hrel
  obtain ⟨sj, hd, hjo, hji, hjc⟩ := HJ.out
  have HDJ := Lib.hid hd
  have hii := hd.ds.ii
  have hln := HLN.out
  have HJI := Lib.hid (And.intro hjo (And.intro hji (show s.i + j ≤ ts.length by omega)))
  have hG := got_d hd.ds 1 wNot (by decide)
  rw [HEK.out] at hG
  have HG := Lib.hid hG
  rw [show ts.length + 1 - j = (ts.length - j) + 1 by omega, dCount] at hjc
  clear hd hjo hji hii hG
  by_cases c : dIs ts 1 wNot sj = true
  ·rw [if_pos c] at hjc
   have HJC := Lib.hid hjc
   rw [dGot_yes c] at HG
   have hlt := dIs_lt c
   have hj1 : j < 4000 := by have := HJI.out.2.1; omega
   have HLT := Lib.hid hlt
   have w5 : IntKind.i64.wrap ((j : Int) + 1) = (j : Int) + 1 := by rw [IntKind.wrap_i64]; omega
   clear hjc c hlt hln hj
   go_wp2_with fail
   try go_at_call 48
   refine HG.out.mono ?_
   rintro e3 w3 ⟨rfl, b3⟩
   have HB3 := Lib.hid (HDJ.out.trans b3)
   clear b3
   go_wp2_with fail
   refine ⟨⟨j + 1, by simp, by omega, Lib.hid ⟨sj.next, HB3.out, HJI.out.1, ?_, ?_⟩⟩, by simp [intOf]; omega⟩
   ·show sj.i + 1 = _
    rw [HJI.out.2.1]; omega
   ·have h1 := HJC.out
    have h2 := HLT.out
    have h3 := HJI.out.2.1
    rw [show ts.length - j = ts.length + 1 - (j + 1) by omega] at h1
    rw [h1]
    congr 1
    try dsimp only
    omega
  ·rw [if_neg c] at hjc
   try dsimp only at hjc
   rw [Nat.zero_add] at hjc
   have hr := HR.out
   rw [hjc] at hr
   try dsimp only at hr
   obtain ⟨ex, s2, hxx, hr⟩ := bindD_some hr
   have hr : some (wrapN 16 j ex, s2) = some r := hr
   injection hr with hr
   have HRR := Lib.hid hr
   rw [dGot_no (show dIs ts 1 wNot sj = false by simpa using c)] at HG
   have HYY := Lib.hid hxx
   clear c HR hr hxx hjc HJ hln
   go_wp2_with fail
   try go_at_call 48
   refine HG.out.mono ?_
   rintro e3 w3 ⟨rfl, b3⟩
   have HB3 := Lib.hid (HDJ.out.trans b3)
   have hx2 := HXX.out w3 sj 3 _ b3.ds (.inl (by rw [HJI.out.1]; exact HO.out)) (by omega) HYY.out
   have e4 : ((3 : Nat) : Int) = 3 := rfl
   rw [e4] at hx2
   have HX2 := Lib.hid hx2
   clear b3 hx2 HG e4
   go_wp2_with fail
   try go_at_call 126
   refine HX2.out.mono ?_
   rintro e4 w4 ⟨x, rfl, hxe, hxm, hd4, ho4, hi4⟩
   have HB4 := Lib.hid (HB3.out.trans hd4)
   have HP4 := Lib.hid (And.intro HB4.out.ds.lt (And.intro HD1.out.ds.lt HB4.out.fr.size))
   have hst := ExB.start hd4.ds (XE.Mem.mono (K' := GE w1.heap.size) (fun k hk => Nat.le_trans HB3.out.fr.size hk) x hxm)
   obtain ⟨W8, hW8⟩ : ∃ W8, st7 (w4.alloc (.cells zx 30)) w4.heap.size x = W8 := ⟨_, rfl⟩
   rw [hW8] at hst
   unfold zx at hW8
   have HST := Lib.hid hst
   have HXE := Lib.hid (show x.er = ex from hxe)
   have HOI := Lib.hid (And.intro ho4 hi4)
   clear hxe hxm hd4 ho4 hi4 hst
   go_wp2_with (first | (refine wpSx (x := x) rfl _ _ rfl (Bx.new w4 #[.int .i64 0, .slice none 0 0, .int .i64 0, .int .i64 0, .int .i64 0, .string ⟨#[]⟩, .string ⟨#[]⟩] 30) rfl rfl ?_; rw [hW8]))
   generalize x.val = vx
   go_loopw [8] (fun i wr => ∃ (q : Nat), i = .int .i64 (q : Int) ∧ q ≤ j ∧ Hid (∃ z : XE, ExB w4 wr pb w4.heap.size w1.heap.size ts s2 z ∧ wrapN 16 (j - q) z.er = wrapN 16 j ex)) (fun i _ => j - (intOf i).toNat)
   case atStart => exact ⟨0, rfl, by omega, Lib.hid ⟨x, HST.out, by rw [HXE.out]; rfl⟩⟩
   case round =>
    obtain ⟨q, rfl, hq, HQ⟩ := hrel
    obtain ⟨z, hz, hzw⟩ := HQ.out
    have HZ := Lib.hid hz
    have HZW := Lib.hid hzw
    clear hz hzw HQ
    by_cases hqj : q < j
    ·have qq : decide (q < j) = true := by simp; omega
     have w5 : IntKind.i64.wrap ((q : Int) + 1) = (q : Int) + 1 := by rw [IntKind.wrap_i64]; omega
     have hup := HZ.out.up1 (Nat.le_refl _) HP4.out.1 (Nat.le_trans HP4.out.2.2 HZ.out.dp.fr.size) 16
     obtain ⟨W11, hW11⟩ : ∃ W11, wr.alloc (.cells (xk.cells [z]).toArray 30) = W11 := ⟨_, rfl⟩
     rw [hW11] at hup
     have HUP := Lib.hid hup
     obtain ⟨W12, hW12⟩ : ∃ W12, st7 W11 w4.heap.size (XE.mk 16 0 0 0 ⟨#[]⟩ ⟨#[]⟩ (some ⟨wr.heap.size, 0, none⟩) 1 [z]) = W12 := ⟨_, rfl⟩
     rw [hW12] at HUP
     clear hup
     have HE12 := Lib.hid (show XE.er (XE.mk 16 0 0 0 ⟨#[]⟩ ⟨#[]⟩ (some ⟨wr.heap.size, 0, none⟩) 1 [z]) = mk1 16 z.er by simp [XE.er, XE.erL, mk1])
     obtain ⟨op1, kind1, num1, scale1, text1, qual1, a1, cap1, args1⟩ := z
     have hcells : (xk.cells [(XE.mk op1 kind1 num1 scale1 text1 qual1 a1 cap1 args1)]).toArray = #[.int .i64 op1, .slice a1 args1.length cap1, .int .i64 kind1, .int .i64 num1, .int .i64 scale1, .string text1, .string qual1] := rfl
     rw [hcells] at hW11
     clear hcells hq
     go_wp2_with (first | (refine wpLx (x := (XE.mk op1 kind1 num1 scale1 text1 qual1 a1 cap1 args1)) rfl _ rfl HZ.out.bx rfl ?_; unfold XE.val) | (refine wpSx (x := (XE.mk 16 0 0 0 ⟨#[]⟩ ⟨#[]⟩ (some ⟨wr.heap.size, 0, none⟩) 1 [(XE.mk op1 kind1 num1 scale1 text1 qual1 a1 cap1 args1)])) rfl _ _ rfl HUP.out.1 rfl rfl ?_; rw [hW12]))
     refine ⟨⟨q + 1, by simp, by omega, Lib.hid ⟨_, HUP.out.2, ?_⟩⟩, by simp [intOf]; omega⟩
     rw [HE12.out, ← HZW.out, show j - q = (j - (q + 1)) + 1 by omega]
     rfl
    ·have qq : decide (q < j) = false := by simp; omega
     have hqe : j - q = 0 := by omega
     have hzw := HZW.out
     rw [hqe] at hzw
     have hzw : z.er = wrapN 16 j ex := hzw
     have hd9 := HD1.out.trans (HB4.out.trans HZ.out.dp)
     have hrb : Bx wr w.heap.size zx 30 := HB0.out.frm (HB4.out.trans HZ.out.dp).fr (fun e => by have h1 : w.heap.size = pb := e; have := HPB.out; omega)
     have hfin := fin_X (s := s) (x := z) HPB.out (Nat.le_of_lt HSZ.out) hrb hd9 (XE.Mem.mono (fun k hk => hk.1) z HZ.out.mm) HSZ.out (by rw [HOI.out.1]; exact HJI.out.1) (by have h1 := HOI.out.2; have h2 := HJI.out.2.1; omega)
     rw [hzw, HRR.out, HP.out] at hfin
     have HFI := Lib.hid hfin
     have HRB := Lib.hid hrb
     clear hfin hrb hd9 hzw hqe hqj hq
     go_wp2_with (first | (refine wpLx (x := z) rfl _ rfl HZ.out.bx rfl ?_) | (refine wpSx (x := z) rfl _ _ rfl HRB.out rfl rfl ?_))
     exact ex_ret Tryz.results126 HFI.out.1 rfl rfl HFI.out.2
set_option maxHeartbeats 16000000 in
theorem expr_u6 {w : World} {s : DS} {ts : List Tk} {pb n : Nat} {r : Ex × DS} (hx : ExD ts n pb) (h : DsM w pb ts s) (he : s.e = 0) (ho : s.opn ≤ 40)
  (hr : bindD (dX ts n 7 (dCount ts 5 [45] (ts.length + 1) s).2) (fun e s1 => some (wrapN 13 (dCount ts 5 [45] (ts.length + 1) s).1 e, s1)) = some r) :
  Calls Tryz.prog 126 #[.pointer (some ⟨pb, 0, none⟩), .int .i64 6] w (EndX w pb ts s r) := by
 generalize hP : EndX w pb ts s r = P
 have HP := Lib.hid hP
 have HO := Lib.hid ho
 have HPB := Lib.hid h.lt
 have hn1 := Bx.new w zx 30
 have b1 : Below w.heap.size w (w.alloc (.cells zx 30)) := (Below.refl _ _).alloc (Nat.le_refl _) _
 obtain ⟨w1, hw1⟩ : ∃ w1, w.alloc (.cells zx 30) = w1 := ⟨_, rfl⟩
 rw [hw1] at hn1 b1
 have HB0 := Lib.hid hn1
 have HD1 := Lib.hid ((Dp.refl h).below b1)
 have HSZ := Lib.hid (show w.heap.size < w1.heap.size from hn1.lt)
 unfold zx at hw1
 obtain ⟨a, cap, hb, -⟩ := HD1.out.ds.hd
 obtain ⟨⟨x0, x1, x2, x3, x4⟩, f0, f1, f2, f3, f4⟩ := hb.five
 rw [he] at x3
 obtain ⟨D, hD⟩ : ∃ D, dCount ts 5 [45] (ts.length + 1) s = D := ⟨_, rfl⟩
 rw [hD] at hr
 have HDD := Lib.hid hD
 clear hD
 have HR := Lib.hid hr
 have HXX := Lib.hid hx
 have HLN := Lib.hid h.ln
 have ek : ((5 : Nat) : Int) = 5 := rfl
 have HEK := Lib.hid ek
 clear hx hr ek
 clear hP hn1 b1 h ho he hb x0 x1 x2 x4 f0 f1 f2 f3 f4
 go_enter Tryz.func126, Tryz.ntmps126
 go_wp2_with fail
 go_loopw [5] (fun i wr => ∃ (j : Nat), i = .int .i64 (j : Int) ∧ j ≤ 4000 ∧ Hid (∃ sj : DS, Dp w1 wr pb ts sj ∧ sj.opn = s.opn ∧ sj.i = s.i + j ∧ D = ((dCount ts 5 [45] (ts.length + 1 - j) sj).1 + j, (dCount ts 5 [45] (ts.length + 1 - j) sj).2))) (fun i _ => 4000 - (intOf i).toNat)
 case atStart => exact ⟨0, rfl, by omega, Lib.hid ⟨s, Dp.refl HD1.out.ds, rfl, rfl, by rw [← HDD.out]; rfl⟩⟩
 case round =>
  obtain ⟨j, rfl, hj, HJ⟩ := hrel
  obtain ⟨sj, hd, hjo, hji, hjc⟩ := HJ.out
  have HDJ := Lib.hid hd
  have hii := hd.ds.ii
  have hln := HLN.out
  have HJI := Lib.hid (And.intro hjo (And.intro hji (show s.i + j ≤ ts.length by omega)))
  have hG := got_d hd.ds 5 [45] (by decide)
  rw [HEK.out] at hG
  have HG := Lib.hid hG
  rw [show ts.length + 1 - j = (ts.length - j) + 1 by omega, dCount] at hjc
  clear hd hjo hji hii hG
  by_cases c : dIs ts 5 [45] sj = true
  ·rw [if_pos c] at hjc
   have HJC := Lib.hid hjc
   rw [dGot_yes c] at HG
   have hlt := dIs_lt c
   have hj1 : j < 4000 := by have := HJI.out.2.1; omega
   have HLT := Lib.hid hlt
   have w5 : IntKind.i64.wrap ((j : Int) + 1) = (j : Int) + 1 := by rw [IntKind.wrap_i64]; omega
   clear hjc c hlt hln hj
   go_wp2_with fail
   try go_at_call 48
   refine HG.out.mono ?_
   rintro e3 w3 ⟨rfl, b3⟩
   have HB3 := Lib.hid (HDJ.out.trans b3)
   clear b3
   go_wp2_with fail
   refine ⟨⟨j + 1, by simp, by omega, Lib.hid ⟨sj.next, HB3.out, HJI.out.1, ?_, ?_⟩⟩, by simp [intOf]; omega⟩
   ·show sj.i + 1 = _
    rw [HJI.out.2.1]; omega
   ·have h1 := HJC.out
    have h2 := HLT.out
    have h3 := HJI.out.2.1
    rw [show ts.length - j = ts.length + 1 - (j + 1) by omega] at h1
    rw [h1]
    congr 1
    try dsimp only
    omega
  ·rw [if_neg c] at hjc
   try dsimp only at hjc
   rw [Nat.zero_add] at hjc
   have hr := HR.out
   rw [hjc] at hr
   try dsimp only at hr
   obtain ⟨ex, s2, hxx, hr⟩ := bindD_some hr
   have hr : some (wrapN 13 j ex, s2) = some r := hr
   injection hr with hr
   have HRR := Lib.hid hr
   rw [dGot_no (show dIs ts 5 [45] sj = false by simpa using c)] at HG
   have HYY := Lib.hid hxx
   clear c HR hr hxx hjc HJ hln
   go_wp2_with fail
   try go_at_call 48
   refine HG.out.mono ?_
   rintro e3 w3 ⟨rfl, b3⟩
   have HB3 := Lib.hid (HDJ.out.trans b3)
   have hx2 := HXX.out w3 sj 7 _ b3.ds (.inl (by rw [HJI.out.1]; exact HO.out)) (by omega) HYY.out
   have e4 : ((7 : Nat) : Int) = 7 := rfl
   rw [e4] at hx2
   have HX2 := Lib.hid hx2
   clear b3 hx2 HG e4
   go_wp2_with fail
   try go_at_call 126
   refine HX2.out.mono ?_
   rintro e4 w4 ⟨x, rfl, hxe, hxm, hd4, ho4, hi4⟩
   have HB4 := Lib.hid (HB3.out.trans hd4)
   have HP4 := Lib.hid (And.intro HB4.out.ds.lt (And.intro HD1.out.ds.lt HB4.out.fr.size))
   have hst := ExB.start hd4.ds (XE.Mem.mono (K' := GE w1.heap.size) (fun k hk => Nat.le_trans HB3.out.fr.size hk) x hxm)
   obtain ⟨W8, hW8⟩ : ∃ W8, st7 (w4.alloc (.cells zx 30)) w4.heap.size x = W8 := ⟨_, rfl⟩
   rw [hW8] at hst
   unfold zx at hW8
   have HST := Lib.hid hst
   have HXE := Lib.hid (show x.er = ex from hxe)
   have HOI := Lib.hid (And.intro ho4 hi4)
   clear hxe hxm hd4 ho4 hi4 hst
   go_wp2_with (first | (refine wpSx (x := x) rfl _ _ rfl (Bx.new w4 #[.int .i64 0, .slice none 0 0, .int .i64 0, .int .i64 0, .int .i64 0, .string ⟨#[]⟩, .string ⟨#[]⟩] 30) rfl rfl ?_; rw [hW8]))
   generalize x.val = vx
   go_loopw [8] (fun i wr => ∃ (q : Nat), i = .int .i64 (q : Int) ∧ q ≤ j ∧ Hid (∃ z : XE, ExB w4 wr pb w4.heap.size w1.heap.size ts s2 z ∧ wrapN 13 (j - q) z.er = wrapN 13 j ex)) (fun i _ => j - (intOf i).toNat)
   case atStart => exact ⟨0, rfl, by omega, Lib.hid ⟨x, HST.out, by rw [HXE.out]; rfl⟩⟩
   case round =>
    obtain ⟨q, rfl, hq, HQ⟩ := hrel
    obtain ⟨z, hz, hzw⟩ := HQ.out
    have HZ := Lib.hid hz
    have HZW := Lib.hid hzw
    clear hz hzw HQ
    by_cases hqj : q < j
    ·have qq : decide (q < j) = true := by simp; omega
     have w5 : IntKind.i64.wrap ((q : Int) + 1) = (q : Int) + 1 := by rw [IntKind.wrap_i64]; omega
     have hup := HZ.out.up1 (Nat.le_refl _) HP4.out.1 (Nat.le_trans HP4.out.2.2 HZ.out.dp.fr.size) 13
     obtain ⟨W11, hW11⟩ : ∃ W11, wr.alloc (.cells (xk.cells [z]).toArray 30) = W11 := ⟨_, rfl⟩
     rw [hW11] at hup
     have HUP := Lib.hid hup
     obtain ⟨W12, hW12⟩ : ∃ W12, st7 W11 w4.heap.size (XE.mk 13 0 0 0 ⟨#[]⟩ ⟨#[]⟩ (some ⟨wr.heap.size, 0, none⟩) 1 [z]) = W12 := ⟨_, rfl⟩
     rw [hW12] at HUP
     clear hup
     have HE12 := Lib.hid (show XE.er (XE.mk 13 0 0 0 ⟨#[]⟩ ⟨#[]⟩ (some ⟨wr.heap.size, 0, none⟩) 1 [z]) = mk1 13 z.er by simp [XE.er, XE.erL, mk1])
     obtain ⟨op1, kind1, num1, scale1, text1, qual1, a1, cap1, args1⟩ := z
     have hcells : (xk.cells [(XE.mk op1 kind1 num1 scale1 text1 qual1 a1 cap1 args1)]).toArray = #[.int .i64 op1, .slice a1 args1.length cap1, .int .i64 kind1, .int .i64 num1, .int .i64 scale1, .string text1, .string qual1] := rfl
     rw [hcells] at hW11
     clear hcells hq
     go_wp2_with (first | (refine wpLx (x := (XE.mk op1 kind1 num1 scale1 text1 qual1 a1 cap1 args1)) rfl _ rfl HZ.out.bx rfl ?_; unfold XE.val) | (refine wpSx (x := (XE.mk 13 0 0 0 ⟨#[]⟩ ⟨#[]⟩ (some ⟨wr.heap.size, 0, none⟩) 1 [(XE.mk op1 kind1 num1 scale1 text1 qual1 a1 cap1 args1)])) rfl _ _ rfl HUP.out.1 rfl rfl ?_; rw [hW12]))
     refine ⟨⟨q + 1, by simp, by omega, Lib.hid ⟨_, HUP.out.2, ?_⟩⟩, by simp [intOf]; omega⟩
     rw [HE12.out, ← HZW.out, show j - q = (j - (q + 1)) + 1 by omega]
     rfl
    ·have qq : decide (q < j) = false := by simp; omega
     have hqe : j - q = 0 := by omega
     have hzw := HZW.out
     rw [hqe] at hzw
     have hzw : z.er = wrapN 13 j ex := hzw
     have hd9 := HD1.out.trans (HB4.out.trans HZ.out.dp)
     have hrb : Bx wr w.heap.size zx 30 := HB0.out.frm (HB4.out.trans HZ.out.dp).fr (fun e => by have h1 : w.heap.size = pb := e; have := HPB.out; omega)
     have hfin := fin_X (s := s) (x := z) HPB.out (Nat.le_of_lt HSZ.out) hrb hd9 (XE.Mem.mono (fun k hk => hk.1) z HZ.out.mm) HSZ.out (by rw [HOI.out.1]; exact HJI.out.1) (by have h1 := HOI.out.2; have h2 := HJI.out.2.1; omega)
     rw [hzw, HRR.out, HP.out] at hfin
     have HFI := Lib.hid hfin
     have HRB := Lib.hid hrb
     clear hfin hrb hd9 hzw hqe hqj hq
     go_wp2_with (first | (refine wpLx (x := z) rfl _ rfl HZ.out.bx rfl ?_) | (refine wpSx (x := z) rfl _ _ rfl HRB.out rfl rfl ?_))
     exact ex_ret Tryz.results126 HFI.out.1 rfl rfl HFI.out.2
end Go.Proofs.YtofnkfjhmjecjaaGreatDoor

namespace Go.Proofs.YtofnkfjhmjecjaaGreatDoor
set_option maxRecDepth 100000
open Go.RowKit Go.Joins Go.ChangeShapes Go.WideShapes Go.Great
set_option linter.unusedVariables false
set_option linter.unusedSimpArgs false
set_option maxHeartbeats 16000000 in
theorem expr_c {w : World} {s : DS} {ts : List Tk} {pb n lvl : Nat} {r : Ex × DS} (hx : ∀ m, m ≤ n → ExD ts m pb) (h : DsM w pb ts s) (he : s.e = 0) (ho : s.opn ≤ 40) (hl : lvl = 0 ∨ lvl = 1 ∨ lvl = 4 ∨ lvl = 5)
  (hr : bindD (dX ts n (lvl + 1) s) (fun e s1 => dC ts n lvl e s1) = some r) :
  Calls Tryz.prog 126 #[.pointer (some ⟨pb, 0, none⟩), .int .i64 (lvl : Int)] w (EndX w pb ts s r) := by
 generalize hP : EndX w pb ts s r = P
 have HP := Lib.hid hP
 have HO := Lib.hid ho
 have HPB := Lib.hid h.lt
 have hn1 := Bx.new w zx 30
 have b1 : Below w.heap.size w (w.alloc (.cells zx 30)) := (Below.refl _ _).alloc (Nat.le_refl _) _
 obtain ⟨w1, hw1⟩ : ∃ w1, w.alloc (.cells zx 30) = w1 := ⟨_, rfl⟩
 rw [hw1] at hn1 b1
 have HB0 := Lib.hid hn1
 have HD1 := Lib.hid ((Dp.refl h).below b1)
 have HSZ := Lib.hid (show w.heap.size < w1.heap.size from hn1.lt)
 unfold zx at hw1
 obtain ⟨a, cap, hb, -⟩ := HD1.out.ds.hd
 obtain ⟨⟨x0, x1, x2, x3, x4⟩, f0, f1, f2, f3, f4⟩ := hb.five
 rw [he] at x3
 obtain ⟨ex, s1, hxx, hr⟩ := bindD_some hr
 have HR := Lib.hid (show dC ts n lvl ex s1 = some r from hr)
 have HXX := Lib.hid hx
 have HL := Lib.hid hl
 have q2 : ((lvl : Int) == 2) = false := by simp; omega
 have q3 : ((lvl : Int) == 3) = false := by simp; omega
 have q6 : ((lvl : Int) == 6) = false := by simp; omega
 have q7 : ((lvl : Int) == 7) = false := by simp; omega
 have w5 : IntKind.i64.wrap ((lvl : Int) + 1) = (lvl : Int) + 1 := by rw [IntKind.wrap_i64]; omega
 have HL1 := Lib.hid (show lvl + 1 ≤ 7 by omega)
 have hx1 := hx n (Nat.le_refl _) w1 s (lvl + 1) _ HD1.out.ds (.inl ho) HL1.out hxx
 have e1 : ((lvl + 1 : Nat) : Int) = (lvl : Int) + 1 := rfl
 rw [e1] at hx1
 have HE1 := Lib.hid e1
 have HX1 := Lib.hid hx1
 clear hx hr hxx hx1 e1 hl
 clear hP hn1 b1 h ho he hb x0 x1 x2 x4 f0 f1 f2 f3 f4
 go_enter Tryz.func126, Tryz.ntmps126
 go_wp2_with fail
 try go_at_call 126
 refine HX1.out.mono ?_
 rintro e4 w4 ⟨x, rfl, hxe, hxm, hd4, ho4, hi4⟩
 have HB4 := Lib.hid hd4
 have HP4 := Lib.hid (And.intro hd4.ds.lt (And.intro HD1.out.ds.lt hd4.fr.size))
 have hst := ExB.start hd4.ds hxm
 obtain ⟨W8, hW8⟩ : ∃ W8, st7 (w4.alloc (.cells zx 30)) w4.heap.size x = W8 := ⟨_, rfl⟩
 rw [hW8] at hst
 unfold zx at hW8
 have HST := Lib.hid hst
 have HXE := Lib.hid (show x.er = ex from hxe)
 have HOI := Lib.hid (And.intro ho4 hi4)
 clear hxe hxm hd4 ho4 hi4 hst
 go_wp2_with (first | (refine wpSx (x := x) rfl _ _ rfl (Bx.new w4 #[.int .i64 0, .slice none 0 0, .int .i64 0, .int .i64 0, .int .i64 0, .string ⟨#[]⟩, .string ⟨#[]⟩] 30) rfl rfl ?_; rw [hW8]))
 simp only [Act.put]
 generalize x.val = vx
 go_loopw [10] (fun i wr => ∃ (k : Nat), k ≤ n ∧ Hid (∃ (sj : DS) (z : XE), dC ts k lvl z.er sj = some r ∧ ExB w4 wr pb w4.heap.size w1.heap.size ts sj z ∧ sj.opn = s.opn ∧ s.i ≤ sj.i)) (fun _ wr => dlen wr pb)
 case atStart => exact ⟨n, Nat.le_refl _, Lib.hid ⟨s1, x, by rw [HXE.out]; exact HR.out, HST.out, HOI.out.1, HOI.out.2⟩⟩
 case round =>
  obtain ⟨k, hk, HJ⟩ := hrel
  obtain ⟨sj, z, hc, hz, hjo, hji⟩ := HJ.out
  obtain ⟨k, rfl⟩ : ∃ k', k = k' + 1 := by
   cases k with
   | zero => rw [dC] at hc; cases hc
   | succ k => exact ⟨k, rfl⟩
  rw [dC] at hc
  try dsimp only at hc
  have hlv := level_d hz.dp.ds HL.out
  have hop := dWhich_opn ts (lvlD lvl) sj
  rw [show dWhich ts (lvlD lvl) sj = dLevel ts lvl sj from rfl] at hop
  obtain ⟨o1, ho1⟩ : ∃ o1, (dLevel ts lvl sj).1 = o1 := ⟨_, rfl⟩
  obtain ⟨o2, ho2⟩ : ∃ o2, (dLevel ts lvl sj).2 = o2 := ⟨_, rfl⟩
  rw [ho1, ho2] at hc hlv hop
  have HZ := Lib.hid hz
  have HLV := Lib.hid hlv
  have HOP := Lib.hid hop
  have HJI := Lib.hid (And.intro hjo hji)
  have hdl := hz.dp.ds.dlen
  have HDL := Lib.hid hdl
  clear hz hlv hop hjo hji hdl ho1 ho2 HJ
  by_cases c : o1 = 0
  ·rw [if_pos c] at hc
   injection hc with hc
   have HRR := Lib.hid hc
   rw [c] at HLV
   have e0 : ((0 : Nat) : Int) = 0 := rfl
   rw [e0] at HLV
   clear hc c e0
   go_wp2_with fail
   try go_at_call 176
   refine HLV.out.mono ?_
   rintro e5 w5' ⟨rfl, b5⟩
   have HZ5 := Lib.hid (HZ.out.step b5 HP4.out.1 HP4.out.2.1)
   have hrb : Bx w5' w.heap.size zx 30 := HB0.out.frm (HB4.out.trans HZ5.out.dp).fr (fun e => by have h1 : w.heap.size = pb := e; have := HPB.out; omega)
   have hfin := fin_X (s := s) (x := z) HPB.out (Nat.le_of_lt HSZ.out) hrb (HD1.out.trans (HB4.out.trans HZ5.out.dp)) (XE.Mem.mono (fun k hk => hk.1) z HZ5.out.mm) HSZ.out (by rw [HOP.out.1]; exact HJI.out.1) (Nat.le_trans HJI.out.2 HOP.out.2.1)
   rw [HRR.out, HP.out] at hfin
   have HFI := Lib.hid hfin
   have HRB := Lib.hid hrb
   clear hfin hrb b5
   go_wp2_with (first | (refine wpLx (x := z) rfl _ rfl HZ5.out.bx rfl ?_) | (refine wpSx (x := z) rfl _ _ rfl HRB.out rfl rfl ?_))
   exact ex_ret Tryz.results126 HFI.out.1 rfl rfl HFI.out.2
  ·rw [if_neg c] at hc
   obtain ⟨ef, s3, hxx, hc⟩ := bindD_some hc
   have HC := Lib.hid (show dC ts k lvl (mk2 o1 z.er ef) s3 = some r from hc)
   have q : ((o1 : Int) == 0) = false := by simp; omega
   have hopn : o2.opn ≤ 40 := by rw [HOP.out.1, HJI.out.1]; exact HO.out
   have HYY := Lib.hid (fun (wv : World) (hd : DsM wv pb ts o2) => HXX.out k (by omega) wv o2 (lvl + 1) _ hd (.inl hopn) HL1.out hxx)
   rw [HE1.out] at HYY
   have HK := Lib.hid (And.intro (show k ≤ n by omega) (HOP.out.2.2 c))
   clear hc c hxx hopn hk
   go_wp2_with fail
   try go_at_call 176
   refine HLV.out.mono ?_
   rintro e5 w5' ⟨rfl, b5⟩
   have HZ5 := Lib.hid (HZ.out.step b5 HP4.out.1 HP4.out.2.1)
   have HYC := Lib.hid (HYY.out w5' b5.ds)
   clear b5
   go_wp2_with fail
   try go_at_call 126
   refine HYC.out.mono ?_
   rintro e6 w6 ⟨y, rfl, hye, hym, hd6, ho6, hi6⟩
   have HZ6 := Lib.hid (HZ5.out.step hd6 HP4.out.1 HP4.out.2.1)
   have h8 := xbox (w1 := w6) y
   unfold zx at h8
   obtain ⟨W10, hW10⟩ : ∃ W10, st7 (w6.alloc (.cells #[.int .i64 0, .slice none 0 0, .int .i64 0, .int .i64 0, .int .i64 0, .string ⟨#[]⟩, .string ⟨#[]⟩] 30)) w6.heap.size y = W10 := ⟨_, rfl⟩
   rw [hW10] at h8
   have HZ10 := Lib.hid (HZ6.out.below h8.1)
   have hlg5 := HZ5.out.lg
   have hlo5 : w1.heap.size ≤ w5'.heap.size := Nat.le_trans HP4.out.2.2 HZ5.out.dp.fr.size
   have hy10 := XE.Mem.mono (K' := fun k => w1.heap.size ≤ k ∧ k ≠ w4.heap.size) (fun k hk => by have h1 : w5'.heap.size ≤ k := hk; exact ⟨by omega, by omega⟩) y (XE.Mem.frm (Frm.of_below (F := fun _ => False) h8.1) (fun _ _ e => e) y hym)
   have hup := HZ10.out.up2 (Nat.le_refl _) HP4.out.1 (Nat.le_trans HP4.out.2.2 HZ10.out.dp.fr.size) hy10 (o1 : Int)
   obtain ⟨W11, hW11⟩ : ∃ W11, W10.alloc (.cells (xk.cells [z, y]).toArray 30) = W11 := ⟨_, rfl⟩
   rw [hW11] at hup
   have HUP := Lib.hid hup
   have HB10 := Lib.hid h8.2
   obtain ⟨W12, hW12⟩ : ∃ W12, st7 W11 w4.heap.size (XE.mk (o1 : Int) 0 0 0 ⟨#[]⟩ ⟨#[]⟩ (some ⟨W10.heap.size, 0, none⟩) 2 [z, y]) = W12 := ⟨_, rfl⟩
   rw [hW12] at HUP
   have HE12 := Lib.hid (show XE.er (XE.mk (o1 : Int) 0 0 0 ⟨#[]⟩ ⟨#[]⟩ (some ⟨W10.heap.size, 0, none⟩) 2 [z, y]) = mk2 o1 z.er ef by rw [← show y.er = ef from hye]; simp [XE.er, XE.erL, mk2])
   have HOI6 := Lib.hid (And.intro ho6 hi6)
   clear hup h8 hy10 hye hym hd6 ho6 hi6 hlg5 hlo5
   obtain ⟨op1, kind1, num1, scale1, text1, qual1, a1, cap1, args1⟩ := z
   obtain ⟨op2, kind2, num2, scale2, text2, qual2, a2, cap2, args2⟩ := y
   have hcells : (xk.cells [(XE.mk op1 kind1 num1 scale1 text1 qual1 a1 cap1 args1), (XE.mk op2 kind2 num2 scale2 text2 qual2 a2 cap2 args2)]).toArray = #[.int .i64 op1, .slice a1 args1.length cap1, .int .i64 kind1, .int .i64 num1, .int .i64 scale1, .string text1, .string qual1, .int .i64 op2, .slice a2 args2.length cap2, .int .i64 kind2, .int .i64 num2, .int .i64 scale2, .string text2, .string qual2] := rfl
   rw [hcells] at hW11
   clear hcells
   go_wp2_with (first | (refine wpSx (x := (XE.mk op2 kind2 num2 scale2 text2 qual2 a2 cap2 args2)) rfl _ _ rfl (Bx.new w6 #[.int .i64 0, .slice none 0 0, .int .i64 0, .int .i64 0, .int .i64 0, .string ⟨#[]⟩, .string ⟨#[]⟩] 30) rfl rfl ?_; rw [hW10]) | (refine wpLx (x := (XE.mk op1 kind1 num1 scale1 text1 qual1 a1 cap1 args1)) rfl _ rfl HZ10.out.bx rfl ?_; unfold XE.val) | (refine wpLx (x := (XE.mk op2 kind2 num2 scale2 text2 qual2 a2 cap2 args2)) rfl _ rfl HB10.out rfl ?_; unfold XE.val) | (refine wpSx (x := (XE.mk (o1 : Int) 0 0 0 ⟨#[]⟩ ⟨#[]⟩ (some ⟨W10.heap.size, 0, none⟩) 2 [(XE.mk op1 kind1 num1 scale1 text1 qual1 a1 cap1 args1), (XE.mk op2 kind2 num2 scale2 text2 qual2 a2 cap2 args2)])) rfl _ _ rfl HUP.out.1 rfl rfl ?_; rw [hW12]))
   refine ⟨?_, ?_⟩
   ·(repeat apply Exists.intro)
    refine ⟨⟨k, HK.out.1, Lib.hid ⟨s3, _, by rw [HE12.out]; exact HC.out, HUP.out.2, ?_, ?_⟩⟩, rfl⟩
    ·rw [HOI6.out.1, HOP.out.1]; exact HJI.out.1
    ·exact Nat.le_trans HJI.out.2 (Nat.le_trans HOP.out.2.1 HOI6.out.2)
   ·rw [HUP.out.2.dp.ds.dlen, HDL.out]
    have h1 := HK.out.2
    have h2 := HOI6.out.2
    omega
theorem expr_d {ts : List Tk} {pb n : Nat} (hx : ∀ m, m ≤ n → ExD ts m pb) : ExD ts (n + 1) pb := by
 intro w s lvl r h ho hl hr
 rw [dX] at hr
 by_cases he : s.e = 0
 case neg =>
  rw [if_pos he] at hr
  injection hr with hr
  subst hr
  exact expr_z h he hl
 rw [if_neg (fun e => e he)] at hr
 have ho : s.opn ≤ 40 := by omega
 by_cases h2 : lvl = 2 ∨ lvl = 6
 ·rw [if_pos h2] at hr
  rcases h2 with rfl | rfl
  ·exact expr_u2 (hx n (Nat.le_refl _)) h he ho hr
  ·exact expr_u6 (hx n (Nat.le_refl _)) h he ho hr
 rw [if_neg h2] at hr
 by_cases h3 : lvl = 3
 ·rw [if_pos h3] at hr
  subst h3
  cases n with
  | zero => rw [dT] at hr; cases hr
  | succ m => exact expr_t (test_d (hx m (Nat.le_succ _))) h he ho hr
 rw [if_neg h3] at hr
 by_cases h7 : lvl = 7
 ·rw [if_pos h7] at hr
  subst h7
  cases n with
  | zero => rw [dO] at hr; cases hr
  | succ m =>
   refine expr_o (one_d ?_) h he ho hr
   cases m with
   | zero => intro w s r _ _ hr; rw [dP] at hr; cases hr
   | succ q => exact paren_d (hx q (by omega))
 rw [if_neg h7] at hr
 exact expr_c hx h he ho (by omega) hr
theorem expr_all (ts : List Tk) (pb : Nat) : ∀ n m, m ≤ n → ExD ts m pb := by
 have h0 : ExD ts 0 pb := by intro w s lvl r _ _ _ hr; rw [dX] at hr; cases hr
 intro n
 induction n with
 | zero => intro m hm; obtain rfl : m = 0 := (by omega); exact h0
 | succ n ih =>
  intro m hm
  rcases Nat.lt_or_ge n m with h1 | h1
  ·obtain rfl : m = n + 1 := by omega
   exact expr_d ih
  ·exact ih m h1
end Go.Proofs.YtofnkfjhmjecjaaGreatDoor

namespace Go.Proofs.YtofnkfjhmjecjaaGreatDoor
set_option maxRecDepth 100000
set_option linter.unusedVariables false
set_option linter.unusedSimpArgs false
theorem dCount_i (ts : List Tk) (k : Nat) (w : List Nat) : ∀ (m : Nat) (s : DS), (dCount ts k w m s).2.i = s.i + (dCount ts k w m s).1
 | 0, s => rfl
 | m + 1, s => by
  unfold dCount
  by_cases c : dIs ts k w s = true
  ·rw [if_pos c]
   have h := dCount_i ts k w m s.next
   show (dCount ts k w m s.next).2.i = s.i + ((dCount ts k w m s.next).1 + 1)
   rw [h]
   show s.i + 1 + _ = _
   omega
  ·rw [if_neg c]; rfl
theorem dep_wrap (op : Nat) : ∀ (n : Nat) (e : Ex), depR (wrapN op n e) = depR e + n
 | 0, e => rfl
 | n + 1, e => by
  show depR (wrapN op n (mk1 op e)) = _
  rw [dep_wrap op n, dep1]
  omega
theorem dGot_i {ts : List Tk} {k : Nat} {w : List Nat} {s : DS} (h : (dGot ts k w s).1 = true) : (dGot ts k w s).2.i = s.i + 1 := by
 unfold dGot at h ⊢
 by_cases c : dIs ts k w s = true
 ·rw [if_pos c]; rfl
 ·rw [if_neg c] at h; cases h
theorem dep_z : depR zE = 0 := dep0 _ _ _ _ _ _
def DD (s : DS) (e : Ex) (s' : DS) : Prop := depR e + s.i ≤ s'.i
theorem dX_dep (ts : List Tk) : ∀ n, (∀ lvl s e s', dX ts n lvl s = some (e, s') → DD s e s') ∧ (∀ lvl e0 s e s', dC ts n lvl e0 s = some (e, s') → depR e + s.i ≤ depR e0 + s'.i) ∧
  (∀ s e s', dT ts n s = some (e, s') → DD s e s') ∧ (∀ s e s', dP ts n s = some (e, s') → DD s e s') ∧ (∀ s e s', dO ts n s = some (e, s') → DD s e s') := by
 intro n
 induction n with
 | zero => exact ⟨fun lvl s e s' h => by (rw [dX] at h; cases h), fun lvl e0 s e s' h => by (rw [dC] at h; cases h), fun s e s' h => by (rw [dT] at h; cases h), fun s e s' h => by (rw [dP] at h; cases h), fun s e s' h => by (rw [dO] at h; cases h)⟩
 | succ n ih =>
  obtain ⟨iX, iC, iT, iP, iO⟩ := ih
  refine ⟨?_, ?_, ?_, ?_, ?_⟩
  ·intro lvl s e s' h
   rw [dX] at h
   by_cases c : s.e ≠ 0
   ·rw [if_pos c] at h
    injection h with h
    injection h with h1 h2
    subst h1; subst h2
    unfold DD
    rw [dep_z]; omega
   rw [if_neg c] at h
   by_cases c2 : lvl = 2 ∨ lvl = 6
   ·rw [if_pos c2] at h
    obtain ⟨D, hD⟩ : ∃ D, dCount ts (if lvl = 2 then 1 else 5) (if lvl = 2 then wNot else [45]) (ts.length + 1) s = D := ⟨_, rfl⟩
    have hi := dCount_i ts (if lvl = 2 then 1 else 5) (if lvl = 2 then wNot else [45]) (ts.length + 1) s
    rw [hD] at h hi
    obtain ⟨f, s1, hx, h⟩ := bindD_some h
    have h : some (wrapN (if lvl = 6 then 13 else 16) D.1 f, s1) = some (e, s') := h
    injection h with h
    injection h with h1 h2
    subst h1; subst h2
    have := iX _ _ _ _ hx
    unfold DD at this ⊢
    rw [dep_wrap]; omega
   rw [if_neg c2] at h
   by_cases c3 : lvl = 3
   ·rw [if_pos c3] at h; exact iT _ _ _ h
   rw [if_neg c3] at h
   by_cases c7 : lvl = 7
   ·rw [if_pos c7] at h; exact iO _ _ _ h
   rw [if_neg c7] at h
   obtain ⟨f, s1, hx, h⟩ := bindD_some h
   have a1 := iX _ _ _ _ hx
   have a2 := iC _ _ _ _ _ h
   unfold DD at a1 ⊢
   omega
  ·intro lvl e0 s e s' h
   rw [dC] at h
   have hop := dWhich_opn ts (lvlD lvl) s
   rw [show dWhich ts (lvlD lvl) s = dLevel ts lvl s from rfl] at hop
   by_cases c : (dLevel ts lvl s).1 = 0
   ·have h : (if (dLevel ts lvl s).1 = 0 then some (e0, (dLevel ts lvl s).2) else bindD (dX ts n (lvl + 1) (dLevel ts lvl s).2) fun f s1 => dC ts n lvl (mk2 (dLevel ts lvl s).1 e0 f) s1) = some (e, s') := h
    rw [if_pos c] at h
    injection h with h
    injection h with h1 h2
    subst h1; subst h2
    omega
   ·have h : (if (dLevel ts lvl s).1 = 0 then some (e0, (dLevel ts lvl s).2) else bindD (dX ts n (lvl + 1) (dLevel ts lvl s).2) fun f s1 => dC ts n lvl (mk2 (dLevel ts lvl s).1 e0 f) s1) = some (e, s') := h
    rw [if_neg c] at h
    obtain ⟨f, s1, hx, h⟩ := bindD_some h
    have a1 := iX _ _ _ _ hx
    have a2 := iC _ _ _ _ _ h
    have a3 := (hop.2.2 c).1
    unfold DD at a1
    rw [dep2] at a2
    omega
  ·intro s e s' h
   rw [dT] at h
   obtain ⟨f, s1, hx, h⟩ := bindD_some h
   have a1 := iX _ _ _ _ hx
   have hop := dWhich_opn ts cmpD s1
   unfold DD at a1 ⊢
   have h : (if (dWhich ts cmpD s1).1 ≠ 0 then bindD (dX ts n 4 (dWhich ts cmpD s1).2) fun g s2 => some (mk2 (dWhich ts cmpD s1).1 f g, s2)
    else if (dGot ts 1 wIs s1).1 = true then some (dNull ts (if (dGot ts 1 wNot (dGot ts 1 wIs s1).2).1 = true then 20 else 19) f (dGot ts 1 wNot (dGot ts 1 wIs s1).2).2) else some (f, (dGot ts 1 wIs s1).2)) = some (e, s') := h
   by_cases c : (dWhich ts cmpD s1).1 ≠ 0
   ·rw [if_pos c] at h
    obtain ⟨g, s2, hy, h⟩ := bindD_some h
    have h : some (mk2 (dWhich ts cmpD s1).1 f g, s2) = some (e, s') := h
    injection h with h
    injection h with h1 h2
    subst h1; subst h2
    have a2 := iX _ _ _ _ hy
    have a3 := (hop.2.2 c).1
    unfold DD at a2
    rw [dep2]
    omega
   ·rw [if_neg c] at h
    have g1 := dGot_opn ts 1 wIs s1
    by_cases c2 : (dGot ts 1 wIs s1).1 = true
    ·rw [if_pos c2] at h
     have g2 := dGot_i c2
     have g3 := dGot_opn ts 1 wNot (dGot ts 1 wIs s1).2
     injection h with h
     unfold dNull at h
     injection h with h1 h2
     subst h1
     have g4 := dMust_opn ts 1 wNull (dGot ts 1 wNot (dGot ts 1 wIs s1).2).2
     rw [h2] at g4
     rw [dep1]
     omega
    ·rw [if_neg c2] at h
     injection h with h
     injection h with h1 h2
     subst h1; subst h2
     omega
  ·intro s e s' h
   rw [dP] at h
   obtain ⟨s0, hs0⟩ : ∃ s0, (if dIs ts 5 [40] s = true ∧ s.opn = 40 then dFail 5 s else s) = s0 := ⟨_, rfl⟩
   rw [hs0] at h
   have h0 : s0.i = s.i := by
    rw [← hs0]
    by_cases c : dIs ts 5 [40] s = true ∧ s.opn = 40
    ·rw [if_pos c]; exact (dFail_opn 5 s).2.1
    ·rw [if_neg c]
   obtain ⟨f, s2, hx, h⟩ := bindD_some h
   have a1 := iX _ _ _ _ hx
   have m1 := (dMust_opn ts 5 [40] s0).2.1
   have h : some (f, dMust ts 5 [41] { s2 with opn := s2.opn - 1 }) = some (e, s') := h
   injection h with h
   injection h with h1 h2
   subst h1
   have m2 := (dMust_opn ts 5 [41] { s2 with opn := s2.opn - 1 }).2.1
   rw [h2] at m2
   have m2 : s2.i ≤ s'.i := m2
   unfold DD at a1 ⊢
   have a1 : depR f + (dMust ts 5 [40] s0).i ≤ s2.i := a1
   omega
  ·intro s e s' h
   rw [dO] at h
   have base : ∀ {e1 : Ex} {s1 : DS}, depR e1 = 0 → s.i ≤ s1.i → (some (e1, s1) : Option (Ex × DS)) = some (e, s') → DD s e s' := fun h0 hi h => by
    injection h with h
    injection h with h1 h2
    subst h1; subst h2
    unfold DD
    omega
   have up : ∀ (op : Nat), bindD (dP ts n s.next) (fun e s1 => some (mk1 op e, s1)) = some (e, s') → DD s e s' := fun op h => by
    obtain ⟨f, s1, hx, h⟩ := bindD_some h
    have h : some (mk1 op f, s1) = some (e, s') := h
    injection h with h
    injection h with h1 h2
    subst h1; subst h2
    have a1 := iP _ _ _ hx
    unfold DD at a1 ⊢
    have a1 : depR f + (s.i + 1) ≤ s1.i := a1
    rw [dep1]
    omega
   cases ht : ts[s.i]? with
   | none =>
    rw [ht] at h
    exact base dep_z (by rw [(dFail_opn 130 s).2.1]; exact Nat.le_refl _) h
   | some t =>
    rw [ht] at h
    dsimp only at h
    have hn : s.i ≤ s.next.i := Nat.le_succ _
    by_cases k : 2 ≤ t.kind ∧ t.kind ≤ 4
    ·rw [if_pos k] at h; exact base (depc _ _ _ _) hn h
    rw [if_neg k] at h
    by_cases k0 : dIs ts 1 wNull s = true
    ·rw [if_pos k0] at h; exact base (depc _ _ _ _) hn h
    rw [if_neg k0] at h
    by_cases k1 : dIs ts 1 wTrue s = true
    ·rw [if_pos k1] at h; exact base (depc _ _ _ _) hn h
    rw [if_neg k1] at h
    by_cases k2 : dIs ts 1 wFalse s = true
    ·rw [if_pos k2] at h; exact base (depc _ _ _ _) hn h
    rw [if_neg k2] at h
    by_cases k3 : dIs ts 1 wNan s = true
    ·rw [if_pos k3] at h; exact base (depc _ _ _ _) hn h
    rw [if_neg k3] at h
    by_cases k4 : dIs ts 1 wInf s = true
    ·rw [if_pos k4] at h; exact base (depc _ _ _ _) hn h
    rw [if_neg k4] at h
    by_cases k5 : dIs ts 1 wInt s = true
    ·rw [if_pos k5] at h; exact up 14 h
    rw [if_neg k5] at h
    by_cases k6 : dIs ts 1 wReal s = true
    ·rw [if_pos k6] at h; exact up 15 h
    rw [if_neg k6] at h
    by_cases k7 : t.kind = 5
    ·rw [if_pos k7] at h; exact iP _ _ _ h
    rw [if_neg k7] at h
    have n1 := (dName_opn ts s).2
    have g1 := (dGot_opn ts 5 [46] (dName ts s).2).2.1
    by_cases kg : (dGot ts 5 [46] (dName ts s).2).1 = true
    ·rw [if_pos kg] at h
     have n2 := (dName_opn ts (dGot ts 5 [46] (dName ts s).2).2).2
     exact base (dep0 _ _ _ _ _ _) (by omega) h
    ·rw [if_neg kg] at h
     exact base (dep0 _ _ _ _ _ _) (by omega) h
end Go.Proofs.YtofnkfjhmjecjaaGreatDoor
