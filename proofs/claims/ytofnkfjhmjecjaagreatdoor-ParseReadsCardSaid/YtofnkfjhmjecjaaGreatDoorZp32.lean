/-
  Texts of mine put together, in build order.
  Conditions: as each declaration says.
-/
import Derived.Deep.RegionLaw
import Derived.Deep.RegionHeld3
import Derived.Test.YtofnkfjhmjecjaaGreatDoorZp6
import Derived.Test.YtofnkfjhmjecjaaGreatDoorZp15
import Derived.Test.YtofnkfjhmjecjaaGreatDoorZp16
import Derived.Test.YtofnkfjhmjecjaaGreatDoorZp18
import Derived.Test.YtofnkfjhmjecjaaGreatDoorZp20
import Derived.Test.YtofnkfjhmjecjaaGreatDoorZp31
namespace Go.Proofs.YtofnkfjhmjecjaaGreatDoor
set_option maxRecDepth 100000
open Go.RowKit Go.Joins Go.ChangeShapes Go.WideShapes Go.Great
set_option linter.unusedVariables false
set_option linter.unusedSimpArgs false
def stOf : Except Nat Stm → Stm
 | .ok st => st
 | .error _ => { kind := 0 }
def cdOf : Except Nat Stm → Nat
 | .ok _ => 0
 | .error c => c
def RParE (w : World) (r : Except Nat Stm) (e : Ending) (w' : World) : Prop := Below w.heap.size w w' ∧ ∃ x : XSt, e = .returned (.tuple #[x.val, .int .i64 (cdOf r : Int)]) ∧ x.er = stOf r ∧ XSt.Mem (GE w.heap.size) w' x
theorem retV2 {R : Ending → World → Prop} {fn : Func} {k j : Nat} (hr : fn.results = #[.cell k 34, .tmp j]) {a : Act} {w : World} {g : Nat} {x : XSt} {v : Value} (hb : Bx w g x.enc.toArray 34)
  (h2 : a.tmps[k]?.getD undef = .pointer (some ⟨g, 0, none⟩)) (h3 : a.tmps[j]?.getD undef = v) (hd : a.defers = []) (hR : R (.returned (.tuple #[x.val, v])) w) : bodyPost Tryz.prog fn R .ret a w := by
 obtain ⟨x0, x1, x2, x3, x4, x5, x6, x7, x8, x9, x10, x11⟩ := x
 obtain ⟨e0, e1, e2, e3, e4, e5, e6, e7, e8⟩ := x9
 obtain ⟨u0, u1, u2, u3, u4, u5, u6, u7, u8, u9, u10, u11, u12, u13, u14, u15, u16, u17, hx⟩ : ∃ u0 u1 u2 u3 u4 u5 u6 u7 u8 u9 u10 u11 u12 u13 u14 u15 u16 u17, XSt.enc (⟨x0, x1, x2, x3, x4, x5, x6, x7, x8, .mk e0 e1 e2 e3 e4 e5 e6 e7 e8, x10, x11⟩ : XSt) = [u0, u1, u2, u3, u4, u5, u6, u7, u8, u9, u10, u11, u12, u13, u14, u15, u16, u17] := ⟨_, _, _, _, _, _, _, _, _, _, _, _, _, _, _, _, _, _, rfl⟩
 have hv : XSt.val (⟨x0, x1, x2, x3, x4, x5, x6, x7, x8, .mk e0 e1 e2 e3 e4 e5 e6 e7 e8, x10, x11⟩ : XSt) = .agg #[u0, u1, u2, u3, u4, u5, u6, u7, u8, u9, u10, u11, u12, u13, u14, u15, u16, u17] := by unfold XSt.val; rw [hx]
 rw [hx] at hb
 rw [hv] at hR
 have hb : Bx w g #[u0, u1, u2, u3, u4, u5, u6, u7, u8, u9, u10, u11, u12, u13, u14, u15, u16, u17] 34 := hb
 obtain ⟨⟨z0, z1, z2, z3, z4, z5, z6, z7, z8, z9, z10, z11, z12, z13, z14, z15, z16, z17⟩, -⟩ := hb.n18
 exact bodyPost_ret (v := .tuple #[.agg #[u0, u1, u2, u3, u4, u5, u6, u7, u8, u9, u10, u11, u12, u13, u14, u15, u16, u17], v]) (by simp [results, hr, go_sem, z0, z1, z2, z3, z4, z5, z6, z7, z8, z9, z10, z11, z12, z13, z14, z15, z16, z17, h2, h3]) hd hR
theorem DsM.made {w3 : World} {B : Nat} {v : Value} {ts : List Tk} (ho : OwT w3 B v ts) (hr : ∀ t ∈ ts, TkR t) (hl : ts.length ≤ 4000) :
  DsM (w3.alloc (.cells #[v, .int .i64 0, .int .i64 0, .int .i64 0, .int .i64 0] 70)) w3.heap.size ts ⟨0, 0, 0, 0⟩ := by
 have hb : Below w3.heap.size w3 (w3.alloc (.cells #[v, .int .i64 0, .int .i64 0, .int .i64 0, .int .i64 0] 70)) := (Below.refl _ _).alloc (Nat.le_refl _) _
 have hn := Bx.new w3 #[v, .int .i64 0, .int .i64 0, .int .i64 0, .int .i64 0] 70
 refine ⟨?_, hr, hl, Nat.zero_le _, by show 0 ≤ 41; omega, by show 0 ≤ 4294967296; omega, by show 0 ≤ 1000; omega⟩
 rcases ho.cases with ⟨rfl, rfl⟩ | ⟨g, cap, cur, rfl, hb2, hg, hn2, hc, hs2, ht⟩
 ·exact ⟨none, 0, hn, Nat.le_refl _, Nat.zero_le _, .inl rfl⟩
 ·have hgl : g < w3.heap.size := (Array.getElem?_eq_some_iff.1 hg).1
  refine ⟨some ⟨g, 0, none⟩, cap, hn, hn2, hc, .inr ⟨g, 0, rfl, hgl, fun j u hj => ?_⟩⟩
  have hg2 : Bx (w3.alloc (.cells #[.slice (some ⟨g, 0, none⟩) ts.length cap, .int .i64 0, .int .i64 0, .int .i64 0, .int .i64 0] 70)) g cur.toArray 84 := Bx.below (w := w3) hg hb
  rw [Nat.zero_add]
  refine hg2.cell ?_
  have hj2 : (tkcells ts)[j]? = some u := hj
  rw [← ht, List.getElem?_take] at hj2
  split at hj2
  ·simpa using hj2
  ·cases hj2
structure PaS (w0 w3 wx : World) (pb h : Nat) (ts : List Tk) (d : DS) (x : XSt) : Prop where
 dp : Dp w3 wx pb ts d
 f0 : Frm (fun k => w0.heap.size ≤ k) w0 wx
 rb : Bx wx w0.heap.size zst 34
 bx : Bx wx h x.enc.toArray 34
 mm : XSt.Mem (fun k => w0.heap.size < k ∧ k ≠ pb) wx x
 lt : w0.heap.size < pb ∧ pb < h
theorem PaS.step {w0 w3 wx w' : World} {pb h : Nat} {ts : List Tk} {d d' : DS} {x : XSt} (p : PaS w0 w3 wx pb h ts d x) (s : Dp wx w' pb ts d') : PaS w0 w3 w' pb h ts d' x := by
 have hl := p.lt
 exact ⟨p.dp.trans s, p.f0.trans s.fr (fun k hk => .inl (by have : k = pb := hk; show w0.heap.size ≤ k; omega)), p.rb.frm s.fr (fun e => by have e1 : w0.heap.size = pb := e; omega), p.bx.frm s.fr (fun e => by have e1 : h = pb := e; omega), p.mm.frm s.fr (fun k hk e => hk.2 e), hl⟩
theorem PaS.fin {w0 w3 wx wz : World} {pb h : Nat} {ts : List Tk} {d : DS} {x y : XSt} (p : PaS w0 w3 wx pb h ts d x) (f : Frm (fun k => k = w0.heap.size) wx wz) (hm : XSt.Mem (fun k => w0.heap.size < k) wx y) {r : Except Nat Stm} {c : Int} (hst : y.er = stOf r) (hc : (cdOf r : Int) = c) : RParE w0 r (.returned (.tuple #[y.val, .int .i64 c])) wz := by
 have hl := p.lt
 refine ⟨(p.f0.trans f (fun k hk => .inl (by have : k = w0.heap.size := hk; show w0.heap.size ≤ k; omega))).below (fun k hk => hk) (Nat.le_refl _), y, by rw [hc], hst, ?_⟩
 exact XSt.Mem.mono (fun k hk => by have e1 : w0.heap.size < k := hk; show w0.heap.size ≤ k; omega) (hm.frm f (fun k hk e => by have e1 : w0.heap.size < k := hk; have e2 : k = w0.heap.size := e; omega))
theorem mem_zst (K : Bl) (w : World) (k : Nat) : XSt.Mem K w { kind := k } := XSt.Mem.mk (XL.Mem.nil _ _) (XL.Mem.nil _ _) (XL.Mem.nil _ _) (XL.Mem.nil _ _) (XL.Mem.nil _ _) (leaf_z0 _ _) (XL.Mem.nil _ _) (XL.Mem.nil _ _)
theorem er_zst (k : Nat) : XSt.er { kind := k } = { kind := k } := by unfold XSt.er; simp only [er0, List.map_nil]
theorem dParse_some {ts : List Tk} {m : Nat} {z : Stm × Nat} (h : dParse ts m = some z) : ∃ q, dStmt ts m ⟨0, 0, 0, 0⟩ = some q ∧ dEnd ts q = z := by
 unfold dParse at h
 cases hq : dStmt ts m ⟨0, 0, 0, 0⟩ with
 | none => rw [hq] at h; cases h
 | some q => rw [hq] at h; exact ⟨q, rfl, Option.some.inj h⟩
set_option maxHeartbeats 16000000 in
theorem rparse_d {w : World} {s : ByteArray} {n : Nat} {r : Except Nat Stm} (hr : parseS n s = some r) :
  Calls Tryz.prog 10 #[.string s] w (RParE w r) := by
 generalize hP : RParE w r = P
 have HP := Lib.hid hP
 obtain ⟨w1, hw1⟩ : ∃ w1, w.alloc (.cells zst 34) = w1 := ⟨_, rfl⟩
 have hn1 := Bx.new w zst 34
 have b1 : Below w.heap.size w (w.alloc (.cells zst 34)) := (Below.refl _ _).alloc (Nat.le_refl _) _
 rw [hw1] at hn1 b1
 have HB1 := Lib.hid b1
 have HN1 := Lib.hid hn1
 unfold zst at hw1
 have HT := Lib.hid (rtokens_any s w1)
 have HR := Lib.hid hr
 clear hP hr b1 hn1
 go_enter Tryz.func10, Tryz.ntmps10
 go_wp2_with fail
 try go_at_call 22
 refine HT.out.mono ?_
 rintro e w2 he1
 unfold RTks at he1
 obtain ⟨hb2, he1⟩ := he1
 have HB2 := Lib.hid (HB1.out.trans (hb2.mono HB1.out.size))
 have HN2 := Lib.hid (HN1.out.below hb2)
 have hr := HR.out
 unfold parseS at hr
 cases hx : toksE (sl s) with
 | error er =>
  rw [hx] at he1 hr
  obtain ⟨v, rfl, -⟩ := he1
  have hrr : Except.error er = r := Option.some.inj hr
  subst hrr
  have q1 : ((er : Int) != 0) = true := by have := toksE_pos hx; simp; omega
  clear hr hx HT HR hb2
  go_wp2_with (first | (refine wpSv (x := { kind := 0 }) rfl _ _ rfl HN2.out rfl rfl rfl ?_; intro wz fz bz; have HFI := Lib.hid (show Bx wz w.heap.size (XSt.enc { kind := 0 }).toArray 34 ∧ RParE w (.error er) (.returned (.tuple #[XSt.val { kind := 0 }, .int .i64 (er : Int)])) wz from ⟨bz, ((Frm.of_below (F := fun k => k = w.heap.size) HB2.out).trans fz (fun k hk => .inl hk)).below (fun k hk => Nat.le_of_eq hk.symm) (Nat.le_refl _), { kind := 0 }, rfl, er_zst 0, mem_zst _ _ 0⟩); clear fz bz))
  exact retV2 Tryz.results10 HFI.out.1 rfl rfl rfl (by rw [← HP.out]; exact HFI.out.2)
 | ok ts =>
  rw [hx] at he1 hr
  have hr1 : parseP isN n ts = some r := hr
  clear hr
  obtain ⟨rt1, rl1, sl1, hlx⟩ := toks_right (sl_lt s) hx
  obtain ⟨N, hN⟩ := parse_agree (toks_TG (sl_lt s) hx) hr1
  have hN2 := hN N (Nat.le_refl _)
  obtain ⟨q, hq, hz⟩ := dParse_some hN2
  obtain ⟨v, rfl, ow⟩ := he1
  have hdm := DsM.made ow rt1 rl1
  have hzz : dEnd ts q = (stOf r, cdOf r) := by
   rw [hz]
   cases r <;> rfl
  obtain ⟨a0, c0, rfl, l0⟩ := ow.lta
  obtain ⟨nn, hnn⟩ : ∃ nn, ts.length = nn := ⟨_, rfl⟩
  rw [hnn] at hdm ⊢
  have HNN := Lib.hid hnn
  have bp : Below w2.heap.size w2 (w2.alloc (.cells #[.slice a0 nn c0, .int .i64 0, .int .i64 0, .int .i64 0, .int .i64 0] 70)) := (Below.refl _ _).alloc (Nat.le_refl _) _
  obtain ⟨w3, hw3⟩ : ∃ w3, w2.alloc (.cells #[.slice a0 nn c0, .int .i64 0, .int .i64 0, .int .i64 0, .int .i64 0] 70) = w3 := ⟨_, rfl⟩
  rw [hw3] at hdm bp
  have HDM := Lib.hid hdm
  have HB3 := Lib.hid (HB2.out.trans (bp.mono HB2.out.size))
  have HN3 := Lib.hid (HN2.out.below bp)
  have HL2 := Lib.hid (show w.heap.size < w2.heap.size from HN2.out.lt)
  have HST := Lib.hid (stmt_d HDM.out rfl hq)
  have HZZ := Lib.hid hzz
  clear hN2 hN hr1 hx HT HR hb2 rt1 rl1 sl1 hlx hq hz hdm hzz l0 hnn bp
  go_upto_region 6 with (first | (go_at_call 23; refine HST.out.mono ?_; rintro e w4 ⟨x, rfl, hxe, hxm, hd4⟩; have HXE := Lib.hid hxe; have HXM := Lib.hid hxm; have HD4 := Lib.hid hd4; clear hxe hxm hd4) | (refine wpSv (x := x) rfl _ _ rfl (Bx.new w4 zst 34) rfl rfl rfl ?_; intro w5 f5 b5; have HPS := Lib.hid (show PaS w w3 w5 w2.heap.size w4.heap.size ts q.2 x from ⟨HD4.out.below (new_box f5), ((Frm.of_below (F := fun k => w.heap.size ≤ k) HB3.out).trans HD4.out.fr (fun k hk => .inl (by have h1 : k = w2.heap.size := hk; have h2 := HL2.out; show w.heap.size ≤ k; omega))).step (new_box f5), (HN3.out.frm HD4.out.fr (fun e => by have h1 : w.heap.size = w2.heap.size := e; have h2 := HL2.out; omega)).below (new_box f5), b5, XSt.Mem.mono (fun k hk => by have h1 : w3.heap.size ≤ k := hk; have h2 := HDM.out.lt; have h3 := HL2.out; exact ⟨by omega, by omega⟩) (XSt.Mem.below HXM.out (new_box f5)), ⟨HL2.out, HD4.out.ds.lt⟩⟩); clear f5 b5))
  try simp only [Act.put]
  obtain ⟨d, hd⟩ : ∃ d, q.2 = d := ⟨_, rfl⟩
  rw [hd] at HPS
  have HDD := Lib.hid hd
  clear hd
  go_cut [38] (fun b wx => b = .bool (decide (d.e = 0 ∧ d.i < nn)) ∧ Hid (PaS w w3 wx w2.heap.size w4.heap.size ts d x))
  case first =>
   obtain ⟨aq, cq, hbq, hcq1, hcq2, -⟩ := HPS.out.dp.ds.hd
   rw [HNN.out] at hbq
   obtain ⟨⟨y0, y1, y2, y3, y4⟩, -⟩ := hbq.five
   have HQ := Lib.hid (fun k : Nat => HPS.out.step ((Dp.refl HPS.out.dp.ds).below (show Below w5.heap.size w5 (w5.drewN k) from ⟨rfl, rfl, rfl, Nat.le_refl _, fun _ _ => rfl⟩)))
   clear hbq hcq1 hcq2
   by_cases he : d.e = 0
   ·rw [he] at y3
    by_cases hi : d.i < nn
    ·have hi2 : (d.i : Int) < (nn : Int) := by omega
     have qd : decide (d.e = 0 ∧ d.i < nn) = true := by simp [he, hi]
     have HQD := Lib.hid qd
     clear qd
     go_quiet (fail)
     all_goals
      go_wp2_with fail
      go_meet
      exact ⟨by rw [HQD.out], Lib.hid (HQ.out _)⟩
    ·have hi2 : decide (d.i < nn) = false := by simp; omega
     have qd : decide (d.e = 0 ∧ d.i < nn) = false := by simp [he]; omega
     have HQD := Lib.hid qd
     clear qd
     go_quiet (fail)
     all_goals
      go_wp2_with fail
      go_meet
      exact ⟨by rw [HQD.out], Lib.hid (HQ.out _)⟩
   ·have q0 : ((d.e : Int) == 0) = false := by simp; omega
    have qd : decide (d.e = 0 ∧ d.i < nn) = false := by simp [he]
    have HQD := Lib.hid qd
    clear qd
    go_quiet (fail)
    all_goals
     go_wp2_with fail
     go_meet
     exact ⟨by rw [HQD.out], Lib.hid (HQ.out _)⟩
  case rest =>
   obtain ⟨rfl, hps⟩ := hcut
   have HPA := Lib.hid hps.out
   clear hps HPS
   go_upto_if 38 with fail
   go_cut [] (fun wx => Hid (PaS w w3 wx w2.heap.size w4.heap.size ts (dEnd1 ts d) x))
   case first =>
    by_cases c : d.e = 0 ∧ d.i < nn
    ·have qd : decide (d.e = 0 ∧ d.i < nn) = true := by simp [c]
     have hd1 : dEnd1 ts d = dFail 130 d := by unfold dEnd1; rw [if_pos (by rw [HNN.out]; exact c)]
     have HD1 := Lib.hid hd1
     rw [qd]
     clear c hd1 qd
     go_wp2_with (first | (go_at_call 24; refine (fail_n HPA.out.dp.ds 130 130 rfl (by decide) rfl).mono ?_; rintro e w6 ⟨rfl, s6⟩; have HPB := Lib.hid (HPA.out.step s6); clear s6))
     go_meet
     rw [HD1.out]
     exact HPB
    ·have qd : decide (d.e = 0 ∧ d.i < nn) = false := by simp only [decide_eq_false_iff_not]; exact c
     have hd1 : dEnd1 ts d = d := by unfold dEnd1; rw [if_neg (by rw [HNN.out]; exact c)]
     have HD1 := Lib.hid hd1
     rw [qd]
     clear c hd1 qd
     go_wp2_with fail
     go_meet
     rw [HD1.out]
     exact HPA
   case rest =>
    have HPB := Lib.hid hcut.out
    clear hcut HPA
    obtain ⟨d1, hd1⟩ : ∃ d1, dEnd1 ts d = d1 := ⟨_, rfl⟩
    rw [hd1] at HPB
    have HD1 := Lib.hid hd1
    clear hd1
    obtain ⟨aq, cq, hbq, -⟩ := HPB.out.dp.ds.hd
    obtain ⟨⟨y0, y1, y2, y3, y4⟩, -⟩ := hbq.five
    clear hbq y0 y1 y2 y3
    go_upto_if 45 with fail
    go_cut [] (fun wx => Hid (PaS w w3 wx w2.heap.size w4.heap.size ts (dEnd2 d1) x))
    case first =>
     by_cases c : 40 < d1.most
     ·have qd : (40 : Int) < (d1.most : Int) := by omega
      have hd2 : dEnd2 d1 = dFail 5 d1 := by unfold dEnd2; rw [if_pos c]
      have HD2 := Lib.hid hd2
      clear hd2
      go_wp2_with (first | (go_at_call 24; refine (fail_n HPB.out.dp.ds 5 5 rfl (by decide) rfl).mono ?_; rintro e w6 ⟨rfl, s6⟩; have HPC := Lib.hid (HPB.out.step s6); clear s6))
      go_meet
      rw [HD2.out]
      exact HPC
     ·have qd : decide (40 < d1.most) = false := by simp; omega
      have hd2 : dEnd2 d1 = d1 := by unfold dEnd2; rw [if_neg c]
      have HD2 := Lib.hid hd2
      clear hd2
      go_wp2_with fail
      go_meet
      rw [HD2.out]
      exact HPB
    case rest =>
     have HPC := Lib.hid hcut.out
     clear hcut HPB y4
     obtain ⟨d2, hd2⟩ : ∃ d2, dEnd2 d1 = d2 := ⟨_, rfl⟩
     rw [hd2] at HPC
     have hzz := HZZ.out
     unfold dEnd at hzz
     rw [HDD.out, HD1.out, hd2] at hzz
     clear hd2
     obtain ⟨aq, cq, hbq, -⟩ := HPC.out.dp.ds.hd
     obtain ⟨⟨y0, y1, y2, y3, y4⟩, -⟩ := hbq.five
     clear hbq y0 y1 y2 y4
     by_cases c : d2.e = 0
     ·rw [if_neg (fun g => g c)] at hzz
      rw [c] at y3
      injection hzz with h1 h2
      have HC := Lib.hid (And.intro h1 h2)
      clear h1 h2 c
      go_wp2_with (first | (refine wpLv (x := x) rfl _ rfl HPC.out.bx rfl ?_) | (refine wpSv (x := x) rfl _ _ rfl HPC.out.rb rfl rfl rfl ?_; intro wz fz bz; have HFI := Lib.hid (And.intro bz (HPC.out.fin (r := r) (c := 0) fz (XSt.Mem.mono (fun k hk => hk.1) HPC.out.mm) (by rw [← HC.out.1]; exact HXE.out) (by rw [← HC.out.2]; rfl))); clear fz bz))
      exact retV2 Tryz.results10 HFI.out.1 rfl rfl rfl (by rw [← HP.out]; exact HFI.out.2)
     ·rw [if_pos c] at hzz
      have q0 : ((d2.e : Int) != 0) = true := by simp; omega
      injection hzz with h1 h2
      have HC := Lib.hid (And.intro h1 h2)
      have HPQ := Lib.hid (fun k : Nat => HPC.out.step ((Dp.refl HPC.out.dp.ds).below (show Below wc.heap.size wc (wc.drewN k) from ⟨rfl, rfl, rfl, Nat.le_refl _, fun _ _ => rfl⟩)))
      have HNE := Lib.hid (show ¬ w2.heap.size = w.heap.size by have := HL2.out; omega)
      clear h1 h2 c
      go_upto_region 11 with fail
      have hlt3 := HPC.out.dp.ds.lt
      refine reg11 HPC.out.rb rfl y3 HNE.out hlt3 (fun c d v a w h => by cases d <;> exact h) (fun wz fz bz => ?_)
      have HFI := Lib.hid (And.intro bz (HPC.out.fin (y := { kind := 0 }) (r := r) (c := (d2.e : Int)) fz (mem_zst _ _ 0) ((er_zst 0).trans HC.out.1) (by rw [← HC.out.2])))
      clear fz bz hlt3
      go_wp2_with fail
      exact retV2 Tryz.results10 HFI.out.1 rfl rfl rfl (by rw [← HP.out]; exact HFI.out.2)
end Go.Proofs.YtofnkfjhmjecjaaGreatDoor

namespace Go.Proofs.YtofnkfjhmjecjaaGreatDoor
set_option maxRecDepth 100000
theorem cd_out (r : Except Nat Stm) : (outR r).2 = (cdOf r : Int) := by cases r <;> rfl
theorem st_out (r : Except Nat Stm) : (outR r).1 = stOf r := by cases r <;> rfl
end Go.Proofs.YtofnkfjhmjecjaaGreatDoor
