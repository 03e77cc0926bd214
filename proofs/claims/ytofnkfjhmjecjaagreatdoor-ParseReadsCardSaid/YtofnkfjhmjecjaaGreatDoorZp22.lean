/-
  Texts of mine put together, in build order.
  Conditions: as each declaration says.
-/
import Derived.Deep.RegionLaw
import Derived.Deep.DeepCutAuto
import Derived.Deep.Slices
import Derived.Deep.Fields
import Derived.Deep.Strs
import Derived.Lib.SmallJoins
import Derived.Deep.QuietTactic
import Derived.Deep.WholeRow
import Derived.Great.Walk
import Derived.Great.BuildSlice
import Derived.Deep.RegionHeld3
import Derived.Test.YtofnkfjhmjecjaaGreatDoorZp2
import Derived.Test.YtofnkfjhmjecjaaGreatDoorZp3
import Derived.Test.YtofnkfjhmjecjaaGreatDoorZp5
import Derived.Test.YtofnkfjhmjecjaaGreatDoorZp6
import Derived.Test.YtofnkfjhmjecjaaGreatDoorZp7
import Derived.Test.YtofnkfjhmjecjaaGreatDoorZp9
import Derived.Test.YtofnkfjhmjecjaaGreatDoorZp16
import Derived.Test.YtofnkfjhmjecjaaGreatDoorZp17
import Derived.Test.YtofnkfjhmjecjaaGreatDoorZp20
import Derived.Test.YtofnkfjhmjecjaaGreatDoorZp21
namespace Go.Proofs.YtofnkfjhmjecjaaGreatDoor
set_option maxRecDepth 100000
open Go.RowKit Go.Joins Go.ChangeShapes Go.WideShapes
set_option linter.unusedVariables false
set_option linter.unusedSimpArgs false
/-! the form of an expression -/
def eb : ByteArray := ⟨#[]⟩
def sgN : Nat → List Nat
 | 1 => [61] | 2 => [60, 62] | 3 => [60] | 4 => [60, 61] | 5 => [62] | 6 => [62, 61] | 7 => [43] | 8 => [45] | 9 => [42] | 10 => [47] | 11 => [37] | 12 => [124, 124] | 17 => [65, 78, 68] | 18 => [79, 82] | _ => []
def sgT : Nat → Tk
 | 17 => ⟨1, wAnd, 0, 0⟩
 | 18 => ⟨1, wOr, 0, 0⟩
 | n => ⟨5, sgN n, 0, 0⟩
def aheadN : Nat → List Nat
 | 13 => [40, 45, 32] | 14 => [73, 78, 84, 40] | 15 => [82, 69, 65, 76, 40] | 16 => [40, 78, 79, 84, 32] | 19 => [40] | 20 => [40] | _ => []
def behindN : Nat → List Nat
 | 13 => [41] | 14 => [41] | 15 => [41] | 16 => [41] | 19 => [32, 73, 83, 32, 78, 85, 76, 76, 41] | 20 => [32, 73, 83, 32, 78, 79, 84, 32, 78, 85, 76, 76, 41] | _ => []
def tOpen : Tk := ⟨5, [40], 0, 0⟩
def tShut : Tk := ⟨5, [41], 0, 0⟩
def tW (w : List Nat) : Tk := ⟨1, w, 0, 0⟩
def aheadT : Nat → List Tk
 | 13 => [tOpen, ⟨5, [45], 0, 0⟩] | 14 => [tW wInt, tOpen] | 15 => [tW wReal, tOpen] | 16 => [tOpen, tW wNot] | 19 => [tOpen] | 20 => [tOpen] | _ => []
def behindT : Nat → List Tk
 | 13 => [tShut] | 14 => [tShut] | 15 => [tShut] | 16 => [tShut] | 19 => [tW wIs, tW wNull, tShut] | 20 => [tW wIs, tW wNot, tW wNull, tShut] | _ => []
def upNull : List Nat := [78, 85, 76, 76]
def upTrue : List Nat := [84, 82, 85, 69]
def upFalse : List Nat := [70, 65, 76, 83, 69]
def upNan : List Nat := [78, 65, 78]
def upInf : List Nat := [73, 78, 70, 73, 78, 73, 84, 89]
def cstW (kind num scale : Int) (text : ByteArray) : List Nat :=
 if kind = 0 then upNull else if kind = 1 then (if num = 0 then upFalse else upTrue) else if kind = 3 ∧ scale = -1 then upNan else if kind = 3 ∧ scale = -2 then upInf
 else wordT ⟨kind.toNat, sl text, num.toNat, scale.toNat⟩
def cstT (kind num scale : Int) (text : ByteArray) : Tk :=
 if kind = 0 then tW wNull else if kind = 1 then (if num = 0 then tW wFalse else tW wTrue) else if kind = 3 ∧ scale = -1 then tW wNan else if kind = 3 ∧ scale = -2 then tW wInf
 else ⟨kind.toNat, sl text, num.toNat, scale.toNat⟩
def leafW (op kind num scale : Int) (text qual : ByteArray) : List Nat :=
 if op = 21 then cstW kind num scale text else if qual.size = 0 then sl text else sl qual ++ 46 :: sl text
def leafT (op kind num scale : Int) (text qual : ByteArray) : List Tk :=
 if op = 21 then [cstT kind num scale text] else if qual.size = 0 then [tW (sl text)] else [tW (sl qual), ⟨5, [46], 0, 0⟩, tW (sl text)]
mutual
/-- an expression's form -/
def textE : Ex → List Nat
 | .mk op kind num scale text qual args => textA op kind num scale text qual args
def textA (op kind num scale : Int) (text qual : ByteArray) : List Ex → List Nat
 | [] => leafW op kind num scale text qual
 | a :: r => textB op (textE a) r
def textB (op : Int) (x : List Nat) : List Ex → List Nat
 | [] => aheadN op.toNat ++ x ++ behindN op.toNat
 | b :: _ => 40 :: x ++ 32 :: sgN op.toNat ++ 32 :: textE b ++ [41]
end
mutual
def tokE : Ex → List Tk
 | .mk op kind num scale text qual args => tokA op kind num scale text qual args
def tokA (op kind num scale : Int) (text qual : ByteArray) : List Ex → List Tk
 | [] => leafT op kind num scale text qual
 | a :: r => tokB op (tokE a) r
def tokB (op : Int) (x : List Tk) : List Ex → List Tk
 | [] => aheadT op.toNat ++ x ++ behindT op.toNat
 | b :: _ => tOpen :: x ++ sgT op.toNat :: tokE b ++ [tShut]
end
end Go.Proofs.YtofnkfjhmjecjaaGreatDoor

namespace Go.Proofs.YtofnkfjhmjecjaaGreatDoor
set_option maxRecDepth 100000
open Go.RowKit Go.Joins Go.ChangeShapes Go.WideShapes
set_option linter.unusedVariables false
set_option linter.unusedSimpArgs false
/-! the form of an expression is read as that expression -/
section
variable {isName : List Nat → Bool} {ts rest : List Tk} {opn deep : Nat} {e : Ex}
end
end Go.Proofs.YtofnkfjhmjecjaaGreatDoor

namespace Go.Proofs.YtofnkfjhmjecjaaGreatDoor
set_option maxRecDepth 100000
open Go.RowKit Go.Joins Go.ChangeShapes Go.WideShapes
set_option linter.unusedVariables false
set_option linter.unusedSimpArgs false
def OnD (ts : List Tk) (n pb : Nat) : Prop := ∀ (w : World) (s : DS) (r : Ex × DS), DsM w pb ts s → s.opn ≤ 40 → s.e = 0 → dO ts n s = some r →
  Calls Tryz.prog 175 #[.pointer (some ⟨pb, 0, none⟩)] w (EndX w pb ts s r)
theorem dGot_yes {ts : List Tk} {k : Nat} {w : List Nat} {s : DS} (h : dIs ts k w s = true) : dGot ts k w s = (true, s.next) := by unfold dGot; rw [if_pos h]
theorem dGot_no {ts : List Tk} {k : Nat} {w : List Nat} {s : DS} (h : dIs ts k w s = false) : dGot ts k w s = (false, s) := by unfold dGot; rw [if_neg (by rw [h]; decide)]
theorem dName_opn (ts : List Tk) (s : DS) : (dName ts s).2.opn = s.opn ∧ s.i ≤ (dName ts s).2.i := by
 unfold dName
 cases h : dNm ts s with
 | some w => exact ⟨rfl, Nat.le_succ _⟩
 | none => exact ⟨(dFail_opn 130 s).1, by rw [(dFail_opn 130 s).2.1]; exact Nat.le_refl _⟩
structure TokB (w1 wx : World) (g : Nat) (t : Tk) : Prop where
 bx : Bx wx g #[.int .i64 (t.kind : Int), .string (strB t.text), .int .i64 (t.num : Int), .int .i64 (t.scale : Int)] 84
 new : w1.heap.size ≤ g
 bel : Below w1.heap.size w1 wx
set_option maxHeartbeats 16000000 in
theorem one_d {ts : List Tk} {n pb : Nat} (hp : PaD ts n pb) : OnD ts (n + 1) pb := by
 intro w s r h ho he0 hr
 rw [dO] at hr
 have hln := h.ln
 have hii := h.ii
 generalize hP : EndX w pb ts s r = P
 have HP := Lib.hid hP
 have HPP := Lib.hid hp
 have HPB := Lib.hid h.lt
 have HO := Lib.hid ho
 have hn1 := Bx.new w zx 30
 have b1 : Below w.heap.size w (w.alloc (.cells zx 30)) := (Below.refl _ _).alloc (Nat.le_refl _) _
 obtain ⟨w1, hw1⟩ : ∃ w1, w.alloc (.cells zx 30) = w1 := ⟨_, rfl⟩
 rw [hw1] at hn1 b1
 have HB0 := Lib.hid hn1
 have HD1 := Lib.hid ((Dp.refl h).below b1)
 have HSZ := Lib.hid (show w.heap.size < w1.heap.size from hn1.lt)
 unfold zx at hw1
 obtain ⟨a, cap, hb, hcl, hcm, -⟩ := HD1.out.ds.hd
 obtain ⟨⟨x0, x1, x2, x3, x4⟩, f0, f1, f2, f3, f4⟩ := hb.five
 obtain ⟨nn0, hnn0⟩ : ∃ nn0, ts.length = nn0 := ⟨_, rfl⟩
 rw [hnn0] at x0 hln hii hcl
 clear hP hn1 b1 hp ho h
 cases ht : ts[s.i]? with
 | none =>
  rw [ht] at hr
  injection hr with hr
  subst hr
  have hieq : s.i = nn0 := by have := List.getElem?_eq_none_iff.1 ht; omega
  have q : ((s.i : Int) == (nn0 : Int)) = true := by simp; omega
  clear hln hii hnn0 ht hieq hb hcl hcm x2 x3 x4 f0 f1 f2 f3 f4
  go_enter Tryz.func175, Tryz.ntmps175
  go_wp2_with fail
  go_quiet (fail)
  all_goals
   have HQ := Lib.hid (fun q : Nat => show Below w1.heap.size w1 (w1.drewN q) from ⟨rfl, rfl, rfl, Nat.le_refl _, fun _ _ => rfl⟩)
   have HL := Lib.hid (fun q : Nat => fail_d (HD1.out.ds.below (HQ.out q)) 130 (by omega))
   go_wp2_with fail
   try go_at_call 24
   refine (HL.out _).mono ?_
   rintro e3 w3 ⟨rfl, b3⟩
   have HD3 := Lib.hid (((Dp.refl HD1.out.ds).below (HQ.out _)).trans b3)
   have hrb : Bx w3 w.heap.size zx 30 := HB0.out.frm HD3.out.fr (fun e => by have h1 : w.heap.size = pb := e; have := HPB.out; omega)
   have hfin := fin_X (s := s) (x := (XE.mk 0 0 0 0 ⟨#[]⟩ ⟨#[]⟩ none 0 [])) HPB.out (Nat.le_of_lt HSZ.out) hrb (HD1.out.trans HD3.out) (XE.Mem.leaf (GE w1.heap.size) _ _ _ _ _ _ _) HSZ.out (dFail_opn 130 s).1 (by rw [(dFail_opn 130 s).2.1]; exact Nat.le_refl _)
   rw [er0, HP.out] at hfin
   have HFI := Lib.hid hfin
   have HRB := Lib.hid hrb
   clear b3 hrb hfin
   go_wp2_with (first | (refine wpSx (x := (XE.mk 0 0 0 0 ⟨#[]⟩ ⟨#[]⟩ none 0 [])) rfl _ _ rfl HRB.out rfl rfl ?_))
   exact ex_ret Tryz.results175 HFI.out.1 rfl rfl HFI.out.2
 | some t =>
  rw [ht] at hr
  dsimp only at hr
  have hil : s.i < nn0 := by have := (List.getElem?_eq_some_iff.1 ht).1; omega
  have HIL := Lib.hid (show s.i < ts.length by omega)
  have q : ((s.i : Int) == (nn0 : Int)) = false := by simp; omega
  obtain ⟨g, o, cap', hb', hcl', hcm', t0, t1, t2, t3⟩ := tok_cells HD1.out.ds ht
  rw [hnn0] at hb' hcl'
  obtain ⟨⟨y0, y1, y2, y3, y4⟩, -⟩ := hb'.five
  obtain ⟨i, hie⟩ : ∃ i, s.i = i := ⟨_, rfl⟩
  have hi2 : (s.i : Int) < (nn0 : Int) := by omega
  have hi0 : (0 : Int) ≤ (s.i : Int) := by omega
  have hi3 := hil
  have htR := HD1.out.ds.rt t (List.mem_of_getElem? ht)
  have HT := Lib.hid (And.intro ht htR)
  have w5' : IntKind.i64.wrap ((s.i : Int) + 1) = (s.i : Int) + 1 := by rw [IntKind.wrap_i64]; omega
  have HIE := Lib.hid hie
  rw [hie] at q t0 t1 t2 t3 y1 hi2 hi0 hi3 w5'
  clear hln hii hnn0 hil hb hcl hcm x0 x1 x2 x3 x4 f0 f1 f2 f3 f4 ht htR hb' y2 y3 y4 hie
  go_enter Tryz.func175, Tryz.ntmps175
  go_wp2_with fail
  go_quiet (fail)
  generalize hwq : w1.drewN _ = wq
  have b0 : Below w1.heap.size w1 wq := by rw [← hwq]; exact ⟨rfl, rfl, rfl, Nat.le_refl _, fun _ _ => rfl⟩
  have bd : Below w1.heap.size w1 wq.drew := b0.drew
  have hgl : g < w1.heap.size := World.block_lt_of_cell? w1 _ t0
  have hpl : pb < w1.heap.size := HD1.out.ds.lt
  have yd0 := (bd.cell (p := ⟨pb, 0, none⟩) hpl).trans y0
  have yd1 := (bd.cell (p := ⟨pb, 1, none⟩) hpl).trans y1
  have td0 := (bd.cell (p := ⟨g, o + i * 4, none⟩) hgl).trans t0
  have td1 := (bd.cell (p := ⟨g, o + i * 4 + 1, none⟩) hgl).trans t1
  have td2 := (bd.cell (p := ⟨g, o + i * 4 + 2, none⟩) hgl).trans t2
  have td3 := (bd.cell (p := ⟨g, o + i * 4 + 3, none⟩) hgl).trans t3
  obtain ⟨kd, hkd⟩ : ∃ kd : Int, (t.kind : Int) = kd := ⟨_, rfl⟩
  obtain ⟨nu, hnu⟩ : ∃ nu : Int, (t.num : Int) = nu := ⟨_, rfl⟩
  obtain ⟨sc, hsc⟩ : ∃ sc : Int, (t.scale : Int) = sc := ⟨_, rfl⟩
  obtain ⟨T, hTT⟩ : ∃ T, strB t.text = T := ⟨_, rfl⟩
  have HTK := Lib.hid (And.intro hkd (And.intro hnu (And.intro hsc hTT)))
  rw [hkd] at t0 td0
  rw [hTT] at t1 td1
  rw [hnu] at t2 td2
  rw [hsc] at t3 td3
  have hn2 := Bx.new wq.drew #[.int .i64 0, .string ⟨#[]⟩, .int .i64 0, .int .i64 0] 84
  obtain ⟨W2, hW2⟩ : ∃ W2, wq.drew.alloc (.cells #[.int .i64 0, .string ⟨#[]⟩, .int .i64 0, .int .i64 0] 84) = W2 := ⟨_, rfl⟩
  have b2 : Below w1.heap.size w1 W2 := by rw [← hW2]; exact bd.alloc bd.size _
  have yw0 := (b2.cell (p := ⟨pb, 0, none⟩) hpl).trans y0
  have yw1 := (b2.cell (p := ⟨pb, 1, none⟩) hpl).trans y1
  have tw0 := (b2.cell (p := ⟨g, o + i * 4, none⟩) hgl).trans t0
  have tw1 := (b2.cell (p := ⟨g, o + i * 4 + 1, none⟩) hgl).trans t1
  have tw2 := (b2.cell (p := ⟨g, o + i * 4 + 2, none⟩) hgl).trans t2
  have tw3 := (b2.cell (p := ⟨g, o + i * 4 + 3, none⟩) hgl).trans t3
  rw [hW2] at hn2
  have hqs : wq.drew.heap.size = wq.heap.size := by simp
  rw [hqs] at hn2
  have HN2 := Lib.hid hn2
  have HB2 := Lib.hid (And.intro b2 (show w1.heap.size ≤ wq.heap.size from b0.size))
  obtain ⟨z0, z1, z2, z3, k0, k1, k2, k3⟩ := hn2.four
  have HTB := Lib.hid (show TokB w1 (st4 W2 wq.heap.size kd T nu sc) wq.heap.size t from ⟨by rw [HTK.out.1, HTK.out.2.1, HTK.out.2.2.1, HTK.out.2.2.2]; exact st4_box hn2 kd T nu sc, b0.size, (((b2.setCell b0.size _).setCell b0.size _).setCell b0.size _).setCell b0.size _⟩)
  clear y0 y1 t0 t1 t2 t3 hwq bd b2 hn2 hqs hgl hpl hkd hnu hsc hTT
  have hb0s := Lib.hid b0
  clear b0
  go_upto_region 4 with fail
  go_cut [3] (fun q wx => ∃ g3, q = .pointer (some ⟨g3, 0, none⟩) ∧ TokB w1 wx g3 t)
  case first =>
   go_region_law (fail)
   all_goals
    go_wp2_with fail
    go_meet
    exact ⟨_, rfl, HTB.out⟩
  case rest =>
   obtain ⟨g3, rfl, htb⟩ := hcut
   clear yd0 yd1 td0 td1 td2 td3 yw0 yw1 tw0 tw1 tw2 tw3 z0 z1 z2 z3 k0 k1 k2 k3 hW2
   have HTB3 := Lib.hid htb
   have HD2 := Lib.hid (show Dp w1 wc pb ts s from (Dp.refl HD1.out.ds).below htb.bel)
   have HC2 := Lib.hid (Dp.refl HD2.out.ds)
   have hgp : pb < g3 := Nat.lt_of_lt_of_le HD1.out.ds.lt htb.new
   clear htb
   obtain ⟨z0, z1, z2, z3, -⟩ := HTB3.out.bx.four
   rw [HTK.out.1] at z0
   rw [HTK.out.2.2.2] at z1
   rw [HTK.out.2.1] at z2
   rw [HTK.out.2.2.1] at z3
   by_cases hk : 2 ≤ t.kind ∧ t.kind ≤ 4
   ·rw [if_pos hk] at hr
    injection hr with hr
    have a1 : (2 : Int) ≤ kd := by have := HTK.out.1; omega
    have a2 : kd ≤ 4 := by have := HTK.out.1; omega
    have HRR := Lib.hid hr
    have hgo := HD2.out.ds.go HIL.out
    rw [HIE.out] at hgo
    obtain ⟨a4, cap4, hb4, -⟩ := HD2.out.ds.hd
    obtain ⟨⟨x0, x1, x2, x3, x4⟩, f0, f1, f2, f3, f4⟩ := hb4.five
    rw [HIE.out] at x1
    obtain ⟨w4, hw4⟩ : ∃ w4, wc.setCell ⟨pb, 1, none⟩ (.int .i64 ((i : Int) + 1)) = w4 := ⟨_, rfl⟩
    rw [hw4] at hgo
    have HC4 := Lib.hid hgo
    have hex : XE.er (.mk 21 kd nu sc T ⟨#[]⟩ none 0 []) = cst t.kind t.num t.scale (strB t.text) := by
     rw [HTK.out.1, HTK.out.2.1, HTK.out.2.2.1, HTK.out.2.2.2]
     simp [XE.er, XE.erL, cst]
    have HEX := Lib.hid hex
    clear hr hk hgo hb4 x0 x2 x3 x4 f0 f2 f3 f4 hex
    have hzz := HTB3.out.bx.frm HC4.out.fr (fun e => by have h1 : g3 = pb := e; omega)
    obtain ⟨v0, v1, v2, v3, -⟩ := hzz.four
    rw [HTK.out.1] at v0
    rw [HTK.out.2.2.2] at v1
    rw [HTK.out.2.1] at v2
    rw [HTK.out.2.2.1] at v3
    clear hzz
    have hrb : Bx w4 w.heap.size zx 30 := HB0.out.frm (HD2.out.trans HC4.out).fr (fun e => by have h1 : w.heap.size = pb := e; have := HPB.out; omega)
    have hfin := fin_X (s := s) (x := (XE.mk 21 kd nu sc T ⟨#[]⟩ none 0 [])) HPB.out (Nat.le_of_lt HSZ.out) hrb (HD1.out.trans (HD2.out.trans HC4.out)) (XE.Mem.leaf (GE w1.heap.size) _ _ _ _ _ _ _) HSZ.out (rfl) (Nat.le_succ _)
    rw [HEX.out, HRR.out, HP.out] at hfin
    have HFI := Lib.hid hfin
    have HRB := Lib.hid hrb
    clear hrb hfin
    go_wp2_with (first | (refine wpSx (x := (XE.mk 21 kd nu sc T ⟨#[]⟩ none 0 [])) rfl _ _ rfl HRB.out rfl rfl ?_))
    exact ex_ret Tryz.results175 HFI.out.1 rfl rfl HFI.out.2
   rw [if_neg hk] at hr
   by_cases hk5 : t.kind = 5
   ·have a1 : (2 : Int) ≤ kd := by have := HTK.out.1; omega
    have a2 : decide (kd ≤ 4) = false := by have := HTK.out.1; simp; omega
    have a5 : (kd == 5) = true := by have := HTK.out.1; simp; omega
    have no1 : ∀ w : List Nat, dIs ts 1 w s = false := fun w => by unfold dIs; rw [HT.out.1]; simp [hk5]
    rw [if_neg (by rw [no1]; decide), if_neg (by rw [no1]; decide), if_neg (by rw [no1]; decide), if_neg (by rw [no1]; decide), if_neg (by rw [no1]; decide), if_neg (by rw [no1]; decide), if_neg (by rw [no1]; decide), if_pos hk5] at hr
    have HQ3 := Lib.hid (dGot_no (no1 wNull))
    have HQ4 := Lib.hid (dGot_no (no1 wTrue))
    have HQ5 := Lib.hid (dGot_no (no1 wFalse))
    have HQ6 := Lib.hid (dGot_no (no1 wNan))
    have HQ7 := Lib.hid (dGot_no (no1 wInf))
    have HQ8 := Lib.hid (dGot_no (no1 wInt))
    have HQ9 := Lib.hid (dGot_no (no1 wReal))
    have HRR := Lib.hid hr
    clear no1 hr hk hk5
    have HG3 := Lib.hid (got_d HC2.out.ds 1 wNull (by decide))
    rw [HQ3.out] at HG3
    go_wp2_with fail
    try go_at_call 48
    refine HG3.out.mono ?_
    rintro e3 w3 ⟨rfl, b3⟩
    have HC3 := Lib.hid (HC2.out.trans b3)
    clear b3 HG3
    have HG4 := Lib.hid (got_d HC3.out.ds 1 wTrue (by decide))
    rw [HQ4.out] at HG4
    go_wp2_with fail
    try go_at_call 48
    refine HG4.out.mono ?_
    rintro e4 w4 ⟨rfl, b4⟩
    have HC4 := Lib.hid (HC3.out.trans b4)
    clear b4 HG4
    have HG5 := Lib.hid (got_d HC4.out.ds 1 wFalse (by decide))
    rw [HQ5.out] at HG5
    go_wp2_with fail
    try go_at_call 48
    refine HG5.out.mono ?_
    rintro e5 w5 ⟨rfl, b5⟩
    have HC5 := Lib.hid (HC4.out.trans b5)
    clear b5 HG5
    have HG6 := Lib.hid (got_d HC5.out.ds 1 wNan (by decide))
    rw [HQ6.out] at HG6
    go_wp2_with fail
    try go_at_call 48
    refine HG6.out.mono ?_
    rintro e6 w6 ⟨rfl, b6⟩
    have HC6 := Lib.hid (HC5.out.trans b6)
    clear b6 HG6
    have HG7 := Lib.hid (got_d HC6.out.ds 1 wInf (by decide))
    rw [HQ7.out] at HG7
    go_wp2_with fail
    try go_at_call 48
    refine HG7.out.mono ?_
    rintro e7 w7 ⟨rfl, b7⟩
    have HC7 := Lib.hid (HC6.out.trans b7)
    clear b7 HG7
    have HG8 := Lib.hid (got_d HC7.out.ds 1 wInt (by decide))
    rw [HQ8.out] at HG8
    go_wp2_with fail
    try go_at_call 48
    refine HG8.out.mono ?_
    rintro e8 w8 ⟨rfl, b8⟩
    have HC8 := Lib.hid (HC7.out.trans b8)
    clear b8 HG8
    have HG9 := Lib.hid (got_d HC8.out.ds 1 wReal (by decide))
    rw [HQ9.out] at HG9
    go_wp2_with fail
    try go_at_call 48
    refine HG9.out.mono ?_
    rintro e9 w9 ⟨rfl, b9⟩
    have HC9 := Lib.hid (HC8.out.trans b9)
    clear b9 HG9
    have hzz := HTB3.out.bx.frm HC9.out.fr (fun e => by have h1 : g3 = pb := e; omega)
    obtain ⟨v0, v1, v2, v3, -⟩ := hzz.four
    rw [HTK.out.1] at v0
    rw [HTK.out.2.2.2] at v1
    rw [HTK.out.2.1] at v2
    rw [HTK.out.2.2.1] at v3
    clear hzz
    have HPC := Lib.hid (HPP.out w9 s _ HC9.out.ds HO.out HRR.out)
    go_wp2_with fail
    try go_at_call 195
    refine HPC.out.mono ?_
    rintro ep wp ⟨x, rfl, hxe, hxm, hdp, hop, hip⟩
    have HC99 := Lib.hid (HC9.out.trans hdp)
    have hrb : Bx wp w.heap.size zx 30 := HB0.out.frm (HD2.out.trans HC99.out).fr (fun e => by have h1 : w.heap.size = pb := e; have := HPB.out; omega)
    have hfin := fin_X (s := s) (x := x) HPB.out (Nat.le_of_lt HSZ.out) hrb (HD1.out.trans (HD2.out.trans HC99.out)) (XE.Mem.mono (fun k hk => Nat.le_trans (HD2.out.trans HC9.out).fr.size hk) x hxm) HSZ.out hop hip
    rw [hxe, HP.out] at hfin
    have HFI := Lib.hid hfin
    have HRB := Lib.hid hrb
    clear hrb hfin hxe hxm hdp hop hip
    go_wp2_with (first | (refine wpSx (x := x) rfl _ _ rfl HRB.out rfl rfl ?_))
    exact ex_ret Tryz.results175 HFI.out.1 rfl rfl HFI.out.2
   have hk1 : t.kind ≤ 1 := by have := HT.out.2.1; omega
   have a1 : decide (2 ≤ kd) = false := by have := HTK.out.1; simp; omega
   have a5 : (kd == 5) = false := by have := HTK.out.1; simp; omega
   clear hk
   by_cases c0 : dIs ts 1 wNull s = true
   ·rw [if_pos c0] at hr
    have HQ3 := Lib.hid (dGot_yes c0)
    injection hr with hr
    have HRR := Lib.hid hr
    have hex : XE.er (XE.mk 21 0 0 0 ⟨#[]⟩ ⟨#[]⟩ none 0 []) = cst 0 0 0 ⟨#[]⟩ := by simp [XE.er, XE.erL, cst]
    have HEX := Lib.hid hex
    clear hr hk5 hex z1 z2 z3 c0
    have HG3 := Lib.hid (got_d HC2.out.ds 1 wNull (by decide))
    rw [HQ3.out] at HG3
    go_wp2_with fail
    try go_at_call 48
    refine HG3.out.mono ?_
    rintro e3 w3 ⟨rfl, b3⟩
    have HC3 := Lib.hid (HC2.out.trans b3)
    clear b3 HG3
    have hrb : Bx w3 w.heap.size zx 30 := HB0.out.frm (HD2.out.trans HC3.out).fr (fun e => by have h1 : w.heap.size = pb := e; have := HPB.out; omega)
    have hfin := fin_X (s := s) (x := (XE.mk 21 0 0 0 ⟨#[]⟩ ⟨#[]⟩ none 0 [])) HPB.out (Nat.le_of_lt HSZ.out) hrb (HD1.out.trans (HD2.out.trans HC3.out)) (XE.Mem.leaf (GE w1.heap.size) _ _ _ _ _ _ _) HSZ.out (rfl) (Nat.le_succ _)
    rw [HEX.out, HRR.out, HP.out] at hfin
    have HFI := Lib.hid hfin
    have HRB := Lib.hid hrb
    clear hrb hfin
    go_wp2_with (first | (refine wpSx (x := (XE.mk 21 0 0 0 ⟨#[]⟩ ⟨#[]⟩ none 0 [])) rfl _ _ rfl HRB.out rfl rfl ?_))
    exact ex_ret Tryz.results175 HFI.out.1 rfl rfl HFI.out.2
   rw [if_neg c0] at hr
   by_cases c1 : dIs ts 1 wTrue s = true
   ·rw [if_pos c1] at hr
    have HQ3 := Lib.hid (dGot_no (show dIs ts 1 wNull s = false by simpa using c0))
    have HQ4 := Lib.hid (dGot_yes c1)
    injection hr with hr
    have HRR := Lib.hid hr
    have hex : XE.er (XE.mk 21 1 1 0 ⟨#[]⟩ ⟨#[]⟩ none 0 []) = cst 1 1 0 ⟨#[]⟩ := by simp [XE.er, XE.erL, cst]
    have HEX := Lib.hid hex
    clear hr hk5 hex z1 z2 z3 c0 c1
    have HG3 := Lib.hid (got_d HC2.out.ds 1 wNull (by decide))
    rw [HQ3.out] at HG3
    go_wp2_with fail
    try go_at_call 48
    refine HG3.out.mono ?_
    rintro e3 w3 ⟨rfl, b3⟩
    have HC3 := Lib.hid (HC2.out.trans b3)
    clear b3 HG3
    have HG4 := Lib.hid (got_d HC3.out.ds 1 wTrue (by decide))
    rw [HQ4.out] at HG4
    go_wp2_with fail
    try go_at_call 48
    refine HG4.out.mono ?_
    rintro e4 w4 ⟨rfl, b4⟩
    have HC4 := Lib.hid (HC3.out.trans b4)
    clear b4 HG4
    have hrb : Bx w4 w.heap.size zx 30 := HB0.out.frm (HD2.out.trans HC4.out).fr (fun e => by have h1 : w.heap.size = pb := e; have := HPB.out; omega)
    have hfin := fin_X (s := s) (x := (XE.mk 21 1 1 0 ⟨#[]⟩ ⟨#[]⟩ none 0 [])) HPB.out (Nat.le_of_lt HSZ.out) hrb (HD1.out.trans (HD2.out.trans HC4.out)) (XE.Mem.leaf (GE w1.heap.size) _ _ _ _ _ _ _) HSZ.out (rfl) (Nat.le_succ _)
    rw [HEX.out, HRR.out, HP.out] at hfin
    have HFI := Lib.hid hfin
    have HRB := Lib.hid hrb
    clear hrb hfin
    go_wp2_with (first | (refine wpSx (x := (XE.mk 21 1 1 0 ⟨#[]⟩ ⟨#[]⟩ none 0 [])) rfl _ _ rfl HRB.out rfl rfl ?_))
    exact ex_ret Tryz.results175 HFI.out.1 rfl rfl HFI.out.2
   rw [if_neg c1] at hr
   by_cases c2 : dIs ts 1 wFalse s = true
   ·rw [if_pos c2] at hr
    have HQ3 := Lib.hid (dGot_no (show dIs ts 1 wNull s = false by simpa using c0))
    have HQ4 := Lib.hid (dGot_no (show dIs ts 1 wTrue s = false by simpa using c1))
    have HQ5 := Lib.hid (dGot_yes c2)
    injection hr with hr
    have HRR := Lib.hid hr
    have hex : XE.er (XE.mk 21 1 0 0 ⟨#[]⟩ ⟨#[]⟩ none 0 []) = cst 1 0 0 ⟨#[]⟩ := by simp [XE.er, XE.erL, cst]
    have HEX := Lib.hid hex
    clear hr hk5 hex z1 z2 z3 c0 c1 c2
    have HG3 := Lib.hid (got_d HC2.out.ds 1 wNull (by decide))
    rw [HQ3.out] at HG3
    go_wp2_with fail
    try go_at_call 48
    refine HG3.out.mono ?_
    rintro e3 w3 ⟨rfl, b3⟩
    have HC3 := Lib.hid (HC2.out.trans b3)
    clear b3 HG3
    have HG4 := Lib.hid (got_d HC3.out.ds 1 wTrue (by decide))
    rw [HQ4.out] at HG4
    go_wp2_with fail
    try go_at_call 48
    refine HG4.out.mono ?_
    rintro e4 w4 ⟨rfl, b4⟩
    have HC4 := Lib.hid (HC3.out.trans b4)
    clear b4 HG4
    have HG5 := Lib.hid (got_d HC4.out.ds 1 wFalse (by decide))
    rw [HQ5.out] at HG5
    go_wp2_with fail
    try go_at_call 48
    refine HG5.out.mono ?_
    rintro e5 w5 ⟨rfl, b5⟩
    have HC5 := Lib.hid (HC4.out.trans b5)
    clear b5 HG5
    have hrb : Bx w5 w.heap.size zx 30 := HB0.out.frm (HD2.out.trans HC5.out).fr (fun e => by have h1 : w.heap.size = pb := e; have := HPB.out; omega)
    have hfin := fin_X (s := s) (x := (XE.mk 21 1 0 0 ⟨#[]⟩ ⟨#[]⟩ none 0 [])) HPB.out (Nat.le_of_lt HSZ.out) hrb (HD1.out.trans (HD2.out.trans HC5.out)) (XE.Mem.leaf (GE w1.heap.size) _ _ _ _ _ _ _) HSZ.out (rfl) (Nat.le_succ _)
    rw [HEX.out, HRR.out, HP.out] at hfin
    have HFI := Lib.hid hfin
    have HRB := Lib.hid hrb
    clear hrb hfin
    go_wp2_with (first | (refine wpSx (x := (XE.mk 21 1 0 0 ⟨#[]⟩ ⟨#[]⟩ none 0 [])) rfl _ _ rfl HRB.out rfl rfl ?_))
    exact ex_ret Tryz.results175 HFI.out.1 rfl rfl HFI.out.2
   rw [if_neg c2] at hr
   by_cases c3 : dIs ts 1 wNan s = true
   ·rw [if_pos c3] at hr
    have HQ3 := Lib.hid (dGot_no (show dIs ts 1 wNull s = false by simpa using c0))
    have HQ4 := Lib.hid (dGot_no (show dIs ts 1 wTrue s = false by simpa using c1))
    have HQ5 := Lib.hid (dGot_no (show dIs ts 1 wFalse s = false by simpa using c2))
    have HQ6 := Lib.hid (dGot_yes c3)
    injection hr with hr
    have HRR := Lib.hid hr
    have hex : XE.er (XE.mk 21 3 0 (-1) ⟨#[]⟩ ⟨#[]⟩ none 0 []) = cst 3 0 (-1) ⟨#[]⟩ := by simp [XE.er, XE.erL, cst]
    have HEX := Lib.hid hex
    clear hr hk5 hex z1 z2 z3 c0 c1 c2 c3
    have HG3 := Lib.hid (got_d HC2.out.ds 1 wNull (by decide))
    rw [HQ3.out] at HG3
    go_wp2_with fail
    try go_at_call 48
    refine HG3.out.mono ?_
    rintro e3 w3 ⟨rfl, b3⟩
    have HC3 := Lib.hid (HC2.out.trans b3)
    clear b3 HG3
    have HG4 := Lib.hid (got_d HC3.out.ds 1 wTrue (by decide))
    rw [HQ4.out] at HG4
    go_wp2_with fail
    try go_at_call 48
    refine HG4.out.mono ?_
    rintro e4 w4 ⟨rfl, b4⟩
    have HC4 := Lib.hid (HC3.out.trans b4)
    clear b4 HG4
    have HG5 := Lib.hid (got_d HC4.out.ds 1 wFalse (by decide))
    rw [HQ5.out] at HG5
    go_wp2_with fail
    try go_at_call 48
    refine HG5.out.mono ?_
    rintro e5 w5 ⟨rfl, b5⟩
    have HC5 := Lib.hid (HC4.out.trans b5)
    clear b5 HG5
    have HG6 := Lib.hid (got_d HC5.out.ds 1 wNan (by decide))
    rw [HQ6.out] at HG6
    go_wp2_with fail
    try go_at_call 48
    refine HG6.out.mono ?_
    rintro e6 w6 ⟨rfl, b6⟩
    have HC6 := Lib.hid (HC5.out.trans b6)
    clear b6 HG6
    have hrb : Bx w6 w.heap.size zx 30 := HB0.out.frm (HD2.out.trans HC6.out).fr (fun e => by have h1 : w.heap.size = pb := e; have := HPB.out; omega)
    have hfin := fin_X (s := s) (x := (XE.mk 21 3 0 (-1) ⟨#[]⟩ ⟨#[]⟩ none 0 [])) HPB.out (Nat.le_of_lt HSZ.out) hrb (HD1.out.trans (HD2.out.trans HC6.out)) (XE.Mem.leaf (GE w1.heap.size) _ _ _ _ _ _ _) HSZ.out (rfl) (Nat.le_succ _)
    rw [HEX.out, HRR.out, HP.out] at hfin
    have HFI := Lib.hid hfin
    have HRB := Lib.hid hrb
    clear hrb hfin
    go_wp2_with (first | (refine wpSx (x := (XE.mk 21 3 0 (-1) ⟨#[]⟩ ⟨#[]⟩ none 0 [])) rfl _ _ rfl HRB.out rfl rfl ?_))
    exact ex_ret Tryz.results175 HFI.out.1 rfl rfl HFI.out.2
   rw [if_neg c3] at hr
   by_cases c4 : dIs ts 1 wInf s = true
   ·rw [if_pos c4] at hr
    have HQ3 := Lib.hid (dGot_no (show dIs ts 1 wNull s = false by simpa using c0))
    have HQ4 := Lib.hid (dGot_no (show dIs ts 1 wTrue s = false by simpa using c1))
    have HQ5 := Lib.hid (dGot_no (show dIs ts 1 wFalse s = false by simpa using c2))
    have HQ6 := Lib.hid (dGot_no (show dIs ts 1 wNan s = false by simpa using c3))
    have HQ7 := Lib.hid (dGot_yes c4)
    injection hr with hr
    have HRR := Lib.hid hr
    have hex : XE.er (XE.mk 21 3 0 (-2) ⟨#[]⟩ ⟨#[]⟩ none 0 []) = cst 3 0 (-2) ⟨#[]⟩ := by simp [XE.er, XE.erL, cst]
    have HEX := Lib.hid hex
    clear hr hk5 hex z1 z2 z3 c0 c1 c2 c3 c4
    have HG3 := Lib.hid (got_d HC2.out.ds 1 wNull (by decide))
    rw [HQ3.out] at HG3
    go_wp2_with fail
    try go_at_call 48
    refine HG3.out.mono ?_
    rintro e3 w3 ⟨rfl, b3⟩
    have HC3 := Lib.hid (HC2.out.trans b3)
    clear b3 HG3
    have HG4 := Lib.hid (got_d HC3.out.ds 1 wTrue (by decide))
    rw [HQ4.out] at HG4
    go_wp2_with fail
    try go_at_call 48
    refine HG4.out.mono ?_
    rintro e4 w4 ⟨rfl, b4⟩
    have HC4 := Lib.hid (HC3.out.trans b4)
    clear b4 HG4
    have HG5 := Lib.hid (got_d HC4.out.ds 1 wFalse (by decide))
    rw [HQ5.out] at HG5
    go_wp2_with fail
    try go_at_call 48
    refine HG5.out.mono ?_
    rintro e5 w5 ⟨rfl, b5⟩
    have HC5 := Lib.hid (HC4.out.trans b5)
    clear b5 HG5
    have HG6 := Lib.hid (got_d HC5.out.ds 1 wNan (by decide))
    rw [HQ6.out] at HG6
    go_wp2_with fail
    try go_at_call 48
    refine HG6.out.mono ?_
    rintro e6 w6 ⟨rfl, b6⟩
    have HC6 := Lib.hid (HC5.out.trans b6)
    clear b6 HG6
    have HG7 := Lib.hid (got_d HC6.out.ds 1 wInf (by decide))
    rw [HQ7.out] at HG7
    go_wp2_with fail
    try go_at_call 48
    refine HG7.out.mono ?_
    rintro e7 w7 ⟨rfl, b7⟩
    have HC7 := Lib.hid (HC6.out.trans b7)
    clear b7 HG7
    have hrb : Bx w7 w.heap.size zx 30 := HB0.out.frm (HD2.out.trans HC7.out).fr (fun e => by have h1 : w.heap.size = pb := e; have := HPB.out; omega)
    have hfin := fin_X (s := s) (x := (XE.mk 21 3 0 (-2) ⟨#[]⟩ ⟨#[]⟩ none 0 [])) HPB.out (Nat.le_of_lt HSZ.out) hrb (HD1.out.trans (HD2.out.trans HC7.out)) (XE.Mem.leaf (GE w1.heap.size) _ _ _ _ _ _ _) HSZ.out (rfl) (Nat.le_succ _)
    rw [HEX.out, HRR.out, HP.out] at hfin
    have HFI := Lib.hid hfin
    have HRB := Lib.hid hrb
    clear hrb hfin
    go_wp2_with (first | (refine wpSx (x := (XE.mk 21 3 0 (-2) ⟨#[]⟩ ⟨#[]⟩ none 0 [])) rfl _ _ rfl HRB.out rfl rfl ?_))
    exact ex_ret Tryz.results175 HFI.out.1 rfl rfl HFI.out.2
   rw [if_neg c4] at hr
   by_cases c5 : dIs ts 1 wInt s = true
   ·rw [if_pos c5] at hr
    have HQ3 := Lib.hid (dGot_no (show dIs ts 1 wNull s = false by simpa using c0))
    have HQ4 := Lib.hid (dGot_no (show dIs ts 1 wTrue s = false by simpa using c1))
    have HQ5 := Lib.hid (dGot_no (show dIs ts 1 wFalse s = false by simpa using c2))
    have HQ6 := Lib.hid (dGot_no (show dIs ts 1 wNan s = false by simpa using c3))
    have HQ7 := Lib.hid (dGot_no (show dIs ts 1 wInf s = false by simpa using c4))
    have HQ8 := Lib.hid (dGot_yes c5)
    obtain ⟨ex, s9, hpx, hr⟩ := bindD_some hr
    injection hr with hr
    have HRX := Lib.hid hr
    have HRR := Lib.hid hpx
    clear hr hpx hk5 z1 z2 z3 c0 c1 c2 c3 c4 c5
    have HG3 := Lib.hid (got_d HC2.out.ds 1 wNull (by decide))
    rw [HQ3.out] at HG3
    go_wp2_with fail
    try go_at_call 48
    refine HG3.out.mono ?_
    rintro e3 w3 ⟨rfl, b3⟩
    have HC3 := Lib.hid (HC2.out.trans b3)
    clear b3 HG3
    have HG4 := Lib.hid (got_d HC3.out.ds 1 wTrue (by decide))
    rw [HQ4.out] at HG4
    go_wp2_with fail
    try go_at_call 48
    refine HG4.out.mono ?_
    rintro e4 w4 ⟨rfl, b4⟩
    have HC4 := Lib.hid (HC3.out.trans b4)
    clear b4 HG4
    have HG5 := Lib.hid (got_d HC4.out.ds 1 wFalse (by decide))
    rw [HQ5.out] at HG5
    go_wp2_with fail
    try go_at_call 48
    refine HG5.out.mono ?_
    rintro e5 w5 ⟨rfl, b5⟩
    have HC5 := Lib.hid (HC4.out.trans b5)
    clear b5 HG5
    have HG6 := Lib.hid (got_d HC5.out.ds 1 wNan (by decide))
    rw [HQ6.out] at HG6
    go_wp2_with fail
    try go_at_call 48
    refine HG6.out.mono ?_
    rintro e6 w6 ⟨rfl, b6⟩
    have HC6 := Lib.hid (HC5.out.trans b6)
    clear b6 HG6
    have HG7 := Lib.hid (got_d HC6.out.ds 1 wInf (by decide))
    rw [HQ7.out] at HG7
    go_wp2_with fail
    try go_at_call 48
    refine HG7.out.mono ?_
    rintro e7 w7 ⟨rfl, b7⟩
    have HC7 := Lib.hid (HC6.out.trans b7)
    clear b7 HG7
    have HG8 := Lib.hid (got_d HC7.out.ds 1 wInt (by decide))
    rw [HQ8.out] at HG8
    go_wp2_with fail
    try go_at_call 48
    refine HG8.out.mono ?_
    rintro e8 w8 ⟨rfl, b8⟩
    have HC8 := Lib.hid (HC7.out.trans b8)
    clear b8 HG8
    have HPC := Lib.hid (HPP.out w8 s.next _ HC8.out.ds HO.out HRR.out)
    go_wp2_with fail
    try go_at_call 195
    refine HPC.out.mono ?_
    rintro ep wp ⟨x, rfl, hxe, hxm, hdp, hop, hip⟩
    have HC99 := Lib.hid (HC8.out.trans hdp)
    have h8 := xbox (w1 := wp) x
    unfold zx at h8
    obtain ⟨W8, hW8⟩ : ∃ W8, st7 (wp.alloc (.cells #[.int .i64 0, .slice none 0 0, .int .i64 0, .int .i64 0, .int .i64 0, .string ⟨#[]⟩, .string ⟨#[]⟩] 30)) wp.heap.size x = W8 := ⟨_, rfl⟩
    rw [hW8] at h8
    have hxm8 := XE.Mem.frm (Frm.of_below (F := fun _ => False) h8.1) (fun _ _ e => e) x hxm
    have hn := node1 (K := GE w8.heap.size) 14 x (show w8.heap.size ≤ W8.heap.size from Nat.le_trans hdp.fr.size h8.1.size) hxm8
    obtain ⟨W9, hW9⟩ : ∃ W9, W8.alloc (.cells (xk.cells [x]).toArray 30) = W9 := ⟨_, rfl⟩
    rw [hW9] at hn
    have b9 : Below W8.heap.size W8 W9 := by rw [← hW9]; exact (Below.refl _ _).alloc (Nat.le_refl _) _
    have b89 : Below wp.heap.size wp W9 := h8.1.trans (b9.mono h8.1.size)
    have hd9 := (HD1.out.trans (HD2.out.trans HC99.out)).below b89
    have hrb : Bx W9 w.heap.size zx 30 := (HB0.out.frm (HD2.out.trans HC99.out).fr (fun e => by have h1 : w.heap.size = pb := e; have := HPB.out; omega)).below b89
    have hfin := fin_X (s := s) (x := (XE.mk 14 0 0 0 ⟨#[]⟩ ⟨#[]⟩ (some ⟨W8.heap.size, 0, none⟩) 1 [x])) HPB.out (Nat.le_of_lt HSZ.out) hrb hd9 (XE.Mem.mono (fun k hk => Nat.le_trans (HD2.out.trans HC8.out).fr.size hk) _ hn) HSZ.out (by rw [hop]; rfl) (Nat.le_trans (Nat.le_succ _) hip)
    have hex : XE.er (XE.mk 14 0 0 0 ⟨#[]⟩ ⟨#[]⟩ (some ⟨W8.heap.size, 0, none⟩) 1 [x]) = mk1 14 ex := by rw [← show x.er = ex from hxe]; simp [XE.er, XE.erL, mk1]
    rw [hex, HRX.out, HP.out] at hfin
    have HFI := Lib.hid hfin
    have HRB := Lib.hid hrb
    have HB8 := Lib.hid h8.2
    have hcells : (xk.cells [x]).toArray = x.encA := by rw [XE.encA_eq]; simp [RK.cells, xk]
    rw [hcells] at hW9
    clear hrb hfin hxe hxm hdp hop hip h8 hxm8 hn b9 b89 hd9 hex hcells
    obtain ⟨op2, kind2, num2, scale2, text2, qual2, a2, cap2, args2⟩ := x
    unfold XE.encA at hW9
    go_wp2_with (first | (refine wpSx (x := (XE.mk op2 kind2 num2 scale2 text2 qual2 a2 cap2 args2)) rfl _ _ rfl (Bx.new wp #[.int .i64 0, .slice none 0 0, .int .i64 0, .int .i64 0, .int .i64 0, .string ⟨#[]⟩, .string ⟨#[]⟩] 30) rfl rfl ?_; rw [hW8]) | (refine wpLx (x := (XE.mk op2 kind2 num2 scale2 text2 qual2 a2 cap2 args2)) rfl _ rfl HB8.out rfl ?_; unfold XE.val) | (refine wpSx (x := (XE.mk 14 0 0 0 ⟨#[]⟩ ⟨#[]⟩ (some ⟨W8.heap.size, 0, none⟩) 1 [(XE.mk op2 kind2 num2 scale2 text2 qual2 a2 cap2 args2)])) rfl _ _ rfl HRB.out rfl rfl ?_))
    exact ex_ret Tryz.results175 HFI.out.1 rfl rfl HFI.out.2
   rw [if_neg c5] at hr
   by_cases c6 : dIs ts 1 wReal s = true
   ·rw [if_pos c6] at hr
    have HQ3 := Lib.hid (dGot_no (show dIs ts 1 wNull s = false by simpa using c0))
    have HQ4 := Lib.hid (dGot_no (show dIs ts 1 wTrue s = false by simpa using c1))
    have HQ5 := Lib.hid (dGot_no (show dIs ts 1 wFalse s = false by simpa using c2))
    have HQ6 := Lib.hid (dGot_no (show dIs ts 1 wNan s = false by simpa using c3))
    have HQ7 := Lib.hid (dGot_no (show dIs ts 1 wInf s = false by simpa using c4))
    have HQ8 := Lib.hid (dGot_no (show dIs ts 1 wInt s = false by simpa using c5))
    have HQ9 := Lib.hid (dGot_yes c6)
    obtain ⟨ex, s9, hpx, hr⟩ := bindD_some hr
    injection hr with hr
    have HRX := Lib.hid hr
    have HRR := Lib.hid hpx
    clear hr hpx hk5 z1 z2 z3 c0 c1 c2 c3 c4 c5 c6
    have HG3 := Lib.hid (got_d HC2.out.ds 1 wNull (by decide))
    rw [HQ3.out] at HG3
    go_wp2_with fail
    try go_at_call 48
    refine HG3.out.mono ?_
    rintro e3 w3 ⟨rfl, b3⟩
    have HC3 := Lib.hid (HC2.out.trans b3)
    clear b3 HG3
    have HG4 := Lib.hid (got_d HC3.out.ds 1 wTrue (by decide))
    rw [HQ4.out] at HG4
    go_wp2_with fail
    try go_at_call 48
    refine HG4.out.mono ?_
    rintro e4 w4 ⟨rfl, b4⟩
    have HC4 := Lib.hid (HC3.out.trans b4)
    clear b4 HG4
    have HG5 := Lib.hid (got_d HC4.out.ds 1 wFalse (by decide))
    rw [HQ5.out] at HG5
    go_wp2_with fail
    try go_at_call 48
    refine HG5.out.mono ?_
    rintro e5 w5 ⟨rfl, b5⟩
    have HC5 := Lib.hid (HC4.out.trans b5)
    clear b5 HG5
    have HG6 := Lib.hid (got_d HC5.out.ds 1 wNan (by decide))
    rw [HQ6.out] at HG6
    go_wp2_with fail
    try go_at_call 48
    refine HG6.out.mono ?_
    rintro e6 w6 ⟨rfl, b6⟩
    have HC6 := Lib.hid (HC5.out.trans b6)
    clear b6 HG6
    have HG7 := Lib.hid (got_d HC6.out.ds 1 wInf (by decide))
    rw [HQ7.out] at HG7
    go_wp2_with fail
    try go_at_call 48
    refine HG7.out.mono ?_
    rintro e7 w7 ⟨rfl, b7⟩
    have HC7 := Lib.hid (HC6.out.trans b7)
    clear b7 HG7
    have HG8 := Lib.hid (got_d HC7.out.ds 1 wInt (by decide))
    rw [HQ8.out] at HG8
    go_wp2_with fail
    try go_at_call 48
    refine HG8.out.mono ?_
    rintro e8 w8 ⟨rfl, b8⟩
    have HC8 := Lib.hid (HC7.out.trans b8)
    clear b8 HG8
    have HG9 := Lib.hid (got_d HC8.out.ds 1 wReal (by decide))
    rw [HQ9.out] at HG9
    go_wp2_with fail
    try go_at_call 48
    refine HG9.out.mono ?_
    rintro e9 w9 ⟨rfl, b9⟩
    have HC9 := Lib.hid (HC8.out.trans b9)
    clear b9 HG9
    have HPC := Lib.hid (HPP.out w9 s.next _ HC9.out.ds HO.out HRR.out)
    go_wp2_with fail
    try go_at_call 195
    refine HPC.out.mono ?_
    rintro ep wp ⟨x, rfl, hxe, hxm, hdp, hop, hip⟩
    have HC99 := Lib.hid (HC9.out.trans hdp)
    have h8 := xbox (w1 := wp) x
    unfold zx at h8
    obtain ⟨W8, hW8⟩ : ∃ W8, st7 (wp.alloc (.cells #[.int .i64 0, .slice none 0 0, .int .i64 0, .int .i64 0, .int .i64 0, .string ⟨#[]⟩, .string ⟨#[]⟩] 30)) wp.heap.size x = W8 := ⟨_, rfl⟩
    rw [hW8] at h8
    have hxm8 := XE.Mem.frm (Frm.of_below (F := fun _ => False) h8.1) (fun _ _ e => e) x hxm
    have hn := node1 (K := GE w9.heap.size) 15 x (show w9.heap.size ≤ W8.heap.size from Nat.le_trans hdp.fr.size h8.1.size) hxm8
    obtain ⟨W9, hW9⟩ : ∃ W9, W8.alloc (.cells (xk.cells [x]).toArray 30) = W9 := ⟨_, rfl⟩
    rw [hW9] at hn
    have b9 : Below W8.heap.size W8 W9 := by rw [← hW9]; exact (Below.refl _ _).alloc (Nat.le_refl _) _
    have b89 : Below wp.heap.size wp W9 := h8.1.trans (b9.mono h8.1.size)
    have hd9 := (HD1.out.trans (HD2.out.trans HC99.out)).below b89
    have hrb : Bx W9 w.heap.size zx 30 := (HB0.out.frm (HD2.out.trans HC99.out).fr (fun e => by have h1 : w.heap.size = pb := e; have := HPB.out; omega)).below b89
    have hfin := fin_X (s := s) (x := (XE.mk 15 0 0 0 ⟨#[]⟩ ⟨#[]⟩ (some ⟨W8.heap.size, 0, none⟩) 1 [x])) HPB.out (Nat.le_of_lt HSZ.out) hrb hd9 (XE.Mem.mono (fun k hk => Nat.le_trans (HD2.out.trans HC9.out).fr.size hk) _ hn) HSZ.out (by rw [hop]; rfl) (Nat.le_trans (Nat.le_succ _) hip)
    have hex : XE.er (XE.mk 15 0 0 0 ⟨#[]⟩ ⟨#[]⟩ (some ⟨W8.heap.size, 0, none⟩) 1 [x]) = mk1 15 ex := by rw [← show x.er = ex from hxe]; simp [XE.er, XE.erL, mk1]
    rw [hex, HRX.out, HP.out] at hfin
    have HFI := Lib.hid hfin
    have HRB := Lib.hid hrb
    have HB8 := Lib.hid h8.2
    have hcells : (xk.cells [x]).toArray = x.encA := by rw [XE.encA_eq]; simp [RK.cells, xk]
    rw [hcells] at hW9
    clear hrb hfin hxe hxm hdp hop hip h8 hxm8 hn b9 b89 hd9 hex hcells
    obtain ⟨op2, kind2, num2, scale2, text2, qual2, a2, cap2, args2⟩ := x
    unfold XE.encA at hW9
    go_wp2_with (first | (refine wpSx (x := (XE.mk op2 kind2 num2 scale2 text2 qual2 a2 cap2 args2)) rfl _ _ rfl (Bx.new wp #[.int .i64 0, .slice none 0 0, .int .i64 0, .int .i64 0, .int .i64 0, .string ⟨#[]⟩, .string ⟨#[]⟩] 30) rfl rfl ?_; rw [hW8]) | (refine wpLx (x := (XE.mk op2 kind2 num2 scale2 text2 qual2 a2 cap2 args2)) rfl _ rfl HB8.out rfl ?_; unfold XE.val) | (refine wpSx (x := (XE.mk 15 0 0 0 ⟨#[]⟩ ⟨#[]⟩ (some ⟨W8.heap.size, 0, none⟩) 1 [(XE.mk op2 kind2 num2 scale2 text2 qual2 a2 cap2 args2)])) rfl _ _ rfl HRB.out rfl rfl ?_))
    exact ex_ret Tryz.results175 HFI.out.1 rfl rfl HFI.out.2
   rw [if_neg c6] at hr
   rw [if_neg hk5] at hr
   try dsimp only at hr
   obtain ⟨m1, hm1⟩ : ∃ m1, (dName ts s).1 = m1 := ⟨_, rfl⟩
   obtain ⟨m2, hm2⟩ : ∃ m2, (dName ts s).2 = m2 := ⟨_, rfl⟩
   have hmo := dName_opn ts s
   rw [hm2] at hmo
   have HMO := Lib.hid hmo
   rw [hm1, hm2] at hr
   have HM12 := Lib.hid (And.intro hm1 hm2)
   have HQ3 := Lib.hid (dGot_no (show dIs ts 1 wNull s = false by simpa using c0))
   have HQ4 := Lib.hid (dGot_no (show dIs ts 1 wTrue s = false by simpa using c1))
   have HQ5 := Lib.hid (dGot_no (show dIs ts 1 wFalse s = false by simpa using c2))
   have HQ6 := Lib.hid (dGot_no (show dIs ts 1 wNan s = false by simpa using c3))
   have HQ7 := Lib.hid (dGot_no (show dIs ts 1 wInf s = false by simpa using c4))
   have HQ8 := Lib.hid (dGot_no (show dIs ts 1 wInt s = false by simpa using c5))
   have HQ9 := Lib.hid (dGot_no (show dIs ts 1 wReal s = false by simpa using c6))
   clear hk5 c0 c1 c2 c3 c4 c5 c6 hmo hm1 hm2
   obtain ⟨T1, hT1⟩ : ∃ T1, strB m1 = T1 := ⟨_, rfl⟩
   rw [hT1] at hr
   have HT1 := Lib.hid hT1
   have HR := Lib.hid hr
   clear hr hT1 z1 z2 z3
   have HG3 := Lib.hid (got_d HC2.out.ds 1 wNull (by decide))
   rw [HQ3.out] at HG3
   go_wp2_with fail
   try go_at_call 48
   refine HG3.out.mono ?_
   rintro e3 w3 ⟨rfl, b3⟩
   have HC3 := Lib.hid (HC2.out.trans b3)
   clear b3 HG3
   have HG4 := Lib.hid (got_d HC3.out.ds 1 wTrue (by decide))
   rw [HQ4.out] at HG4
   go_wp2_with fail
   try go_at_call 48
   refine HG4.out.mono ?_
   rintro e4 w4 ⟨rfl, b4⟩
   have HC4 := Lib.hid (HC3.out.trans b4)
   clear b4 HG4
   have HG5 := Lib.hid (got_d HC4.out.ds 1 wFalse (by decide))
   rw [HQ5.out] at HG5
   go_wp2_with fail
   try go_at_call 48
   refine HG5.out.mono ?_
   rintro e5 w5 ⟨rfl, b5⟩
   have HC5 := Lib.hid (HC4.out.trans b5)
   clear b5 HG5
   have HG6 := Lib.hid (got_d HC5.out.ds 1 wNan (by decide))
   rw [HQ6.out] at HG6
   go_wp2_with fail
   try go_at_call 48
   refine HG6.out.mono ?_
   rintro e6 w6 ⟨rfl, b6⟩
   have HC6 := Lib.hid (HC5.out.trans b6)
   clear b6 HG6
   have HG7 := Lib.hid (got_d HC6.out.ds 1 wInf (by decide))
   rw [HQ7.out] at HG7
   go_wp2_with fail
   try go_at_call 48
   refine HG7.out.mono ?_
   rintro e7 w7 ⟨rfl, b7⟩
   have HC7 := Lib.hid (HC6.out.trans b7)
   clear b7 HG7
   have HG8 := Lib.hid (got_d HC7.out.ds 1 wInt (by decide))
   rw [HQ8.out] at HG8
   go_wp2_with fail
   try go_at_call 48
   refine HG8.out.mono ?_
   rintro e8 w8 ⟨rfl, b8⟩
   have HC8 := Lib.hid (HC7.out.trans b8)
   clear b8 HG8
   have HG9 := Lib.hid (got_d HC8.out.ds 1 wReal (by decide))
   rw [HQ9.out] at HG9
   go_wp2_with fail
   try go_at_call 48
   refine HG9.out.mono ?_
   rintro e9 w9 ⟨rfl, b9⟩
   have HC9 := Lib.hid (HC8.out.trans b9)
   clear b9 HG9
   have hzz := HTB3.out.bx.frm HC9.out.fr (fun e => by have h1 : g3 = pb := e; omega)
   obtain ⟨v0, v1, v2, v3, -⟩ := hzz.four
   rw [HTK.out.1] at v0
   rw [HTK.out.2.2.2] at v1
   rw [HTK.out.2.1] at v2
   rw [HTK.out.2.2.1] at v3
   clear hzz
   have HN := Lib.hid (name_d HC9.out.ds)
   rw [HM12.out.1, HM12.out.2, HT1.out] at HN
   go_wp2_with fail
   try go_at_call 50
   refine HN.out.mono ?_
   rintro en w10 ⟨rfl, dpn⟩
   have HC10 := Lib.hid (HC9.out.trans dpn)
   have h8 := xbox (w1 := w10) (XE.mk 22 0 0 0 T1 ⟨#[]⟩ none 0 [])
   unfold zx at h8
   obtain ⟨W8, hW8⟩ : ∃ W8, st7 (w10.alloc (.cells #[.int .i64 0, .slice none 0 0, .int .i64 0, .int .i64 0, .int .i64 0, .string ⟨#[]⟩, .string ⟨#[]⟩] 30)) w10.heap.size (XE.mk 22 0 0 0 T1 ⟨#[]⟩ none 0 []) = W8 := ⟨_, rfl⟩
   rw [hW8] at h8
   have HB8 := Lib.hid h8.2
   have HC11 := Lib.hid (HC10.out.below h8.1)
   have HPL := Lib.hid (And.intro HC10.out.ds.lt HC10.out.fr.size)
   have HG := Lib.hid (got_d HC11.out.ds 5 [46] (by decide))
   clear dpn h8 v0 v1 v2 v3 HN
   by_cases cg : dIs ts 5 [46] m2 = true
   ·rw [dGot_yes cg] at HG
    have hr := HR.out
    rw [dGot_yes cg] at hr
    dsimp only at hr
    rw [if_pos rfl] at hr
    obtain ⟨n1, hn1⟩ : ∃ n1, (dName ts m2.next).1 = n1 := ⟨_, rfl⟩
    obtain ⟨n2, hn2⟩ : ∃ n2, (dName ts m2.next).2 = n2 := ⟨_, rfl⟩
    obtain ⟨T2, hT2⟩ : ∃ T2, strB n1 = T2 := ⟨_, rfl⟩
    have hno := dName_opn ts m2.next
    rw [hn2] at hno
    have HNO := Lib.hid hno
    rw [hn1, hn2, hT2] at hr
    injection hr with hr
    have HRR := Lib.hid hr
    have HN12 := Lib.hid (And.intro hn1 (And.intro hn2 hT2))
    clear cg hr hno hn1 hn2 hT2 HR
    go_wp2_with (first | (refine wpSx (x := (XE.mk 22 0 0 0 T1 ⟨#[]⟩ none 0 [])) rfl _ _ rfl (Bx.new w10 #[.int .i64 0, .slice none 0 0, .int .i64 0, .int .i64 0, .int .i64 0, .string ⟨#[]⟩, .string ⟨#[]⟩] 30) rfl rfl ?_; rw [hW8]))
    try go_at_call 48
    refine HG.out.mono ?_
    rintro e12 w12 ⟨rfl, b12⟩
    have HC12 := Lib.hid (HC11.out.trans b12)
    have hb12 := HB8.out.frm b12.fr (fun e => by have h1 : w10.heap.size = pb := e; have := HPL.out.1; omega)
    unfold XE.encA at hb12
    dsimp only at hb12
    have x5 : w12.cell? ⟨w10.heap.size, 5, none⟩ = some (.string T1) := hb12.cell rfl
    have y6 := hb12.frz 6
    have x6 : w12.cell? ⟨w10.heap.size, 6, none⟩ = some (.string ⟨#[]⟩) := hb12.cell rfl
    obtain ⟨w13, hw13⟩ : ∃ w13, w12.setCell ⟨w10.heap.size, 6, none⟩ (.string T1) = w13 := ⟨_, rfl⟩
    have hb13 : Bx w13 w10.heap.size #[.int .i64 22, .slice none 0 0, .int .i64 0, .int .i64 0, .int .i64 0, .string T1, .string T1] 30 := by rw [← hw13]; exact box_set hb12 6 _
    have HC13 := Lib.hid (show Dp wc w13 pb ts m2.next by
     rw [← hw13]
     exact ⟨HC12.out.fr.setCell (.inr HPL.out.2) 6 _, HC12.out.ds.frm ((Frm.refl (fun k => k = w10.heap.size) w12).setCell (.inl rfl) 6 _) (fun k hk e => by have h1 : k = w10.heap.size := e; have := HPL.out.1; omega)⟩)
    have HB13 := Lib.hid hb13
    have HN2 := Lib.hid (name_d HC13.out.ds)
    rw [HN12.out.1, HN12.out.2.1, HN12.out.2.2] at HN2
    clear b12 hb12 hb13 HG
    go_wp2_with fail
    try rw [hw13]
    try go_at_call 50
    refine HN2.out.mono ?_
    rintro e14 w14 ⟨rfl, b14⟩
    have HC14 := Lib.hid (HC13.out.trans b14)
    have hb14 := HB13.out.frm b14.fr (fun e => by have h1 : w10.heap.size = pb := e; have := HPL.out.1; omega)
    have y5 := hb14.frz 5
    have z5 : w14.cell? ⟨w10.heap.size, 5, none⟩ = some (.string T1) := hb14.cell rfl
    obtain ⟨w15, hw15⟩ : ∃ w15, w14.setCell ⟨w10.heap.size, 5, none⟩ (.string T2) = w15 := ⟨_, rfl⟩
    have hb15 : Bx w15 w10.heap.size (XE.encA (XE.mk 22 0 0 0 T2 T1 none 0 [])) 30 := by rw [← hw15]; exact box_set hb14 5 _
    have HC15 := Lib.hid (show Dp wc w15 pb ts n2 by
     rw [← hw15]
     exact ⟨HC14.out.fr.setCell (.inr HPL.out.2) 5 _, HC14.out.ds.frm ((Frm.refl (fun k => k = w10.heap.size) w14).setCell (.inl rfl) 5 _) (fun k hk e => by have h1 : k = w10.heap.size := e; have := HPL.out.1; omega)⟩)
    have HB15 := Lib.hid hb15
    have hrb : Bx w15 w.heap.size zx 30 := HB0.out.frm (HD2.out.trans HC15.out).fr (fun e => by have h1 : w.heap.size = pb := e; have := HPB.out; omega)
    have hfin := fin_X (s := s) (x := (XE.mk 22 0 0 0 T2 T1 none 0 [])) HPB.out (Nat.le_of_lt HSZ.out) hrb (HD1.out.trans (HD2.out.trans HC15.out)) (XE.Mem.leaf (GE w1.heap.size) _ _ _ _ _ _ _) HSZ.out (by rw [HNO.out.1]; exact HMO.out.1) (Nat.le_trans HMO.out.2 (Nat.le_trans (Nat.le_succ _) HNO.out.2))
    have hex : XE.er (XE.mk 22 0 0 0 T2 T1 none 0 []) = .mk 22 0 0 0 T2 T1 [] := by simp [XE.er, XE.erL]
    rw [hex, HRR.out, HP.out] at hfin
    have HFI := Lib.hid hfin
    have HRB := Lib.hid hrb
    clear hrb hfin hex b14 hb14 hb15 HN2
    go_wp2_with (first | (refine wpLx (x := (XE.mk 22 0 0 0 T2 T1 none 0 [])) rfl _ rfl HB15.out rfl ?_; unfold XE.val) | (refine wpSx (x := (XE.mk 22 0 0 0 T2 T1 none 0 [])) rfl _ _ rfl HRB.out rfl rfl ?_))
    exact ex_ret Tryz.results175 HFI.out.1 rfl rfl HFI.out.2
   have cg' : dIs ts 5 [46] m2 = false := by simpa using cg
   rw [dGot_no cg'] at HG
   have hr := HR.out
   rw [dGot_no cg'] at hr
   dsimp only at hr
   rw [if_neg (by decide)] at hr
   injection hr with hr
   have HRR := Lib.hid hr
   clear cg cg' hr HR
   go_wp2_with (first | (refine wpSx (x := (XE.mk 22 0 0 0 T1 ⟨#[]⟩ none 0 [])) rfl _ _ rfl (Bx.new w10 #[.int .i64 0, .slice none 0 0, .int .i64 0, .int .i64 0, .int .i64 0, .string ⟨#[]⟩, .string ⟨#[]⟩] 30) rfl rfl ?_; rw [hW8]))
   try go_at_call 48
   refine HG.out.mono ?_
   rintro e12 w12 ⟨rfl, b12⟩
   have HC12 := Lib.hid (HC11.out.trans b12)
   have HB12 := Lib.hid (HB8.out.frm b12.fr (fun e => by have h1 : w10.heap.size = pb := e; have := HPL.out.1; omega))
   have hrb : Bx w12 w.heap.size zx 30 := HB0.out.frm (HD2.out.trans HC12.out).fr (fun e => by have h1 : w.heap.size = pb := e; have := HPB.out; omega)
   have hfin := fin_X (s := s) (x := (XE.mk 22 0 0 0 T1 ⟨#[]⟩ none 0 [])) HPB.out (Nat.le_of_lt HSZ.out) hrb (HD1.out.trans (HD2.out.trans HC12.out)) (XE.Mem.leaf (GE w1.heap.size) _ _ _ _ _ _ _) HSZ.out HMO.out.1 HMO.out.2
   have hex : XE.er (XE.mk 22 0 0 0 T1 ⟨#[]⟩ none 0 []) = .mk 22 0 0 0 T1 ⟨#[]⟩ [] := by simp [XE.er, XE.erL]
   rw [hex, HRR.out, HP.out] at hfin
   have HFI := Lib.hid hfin
   have HRB := Lib.hid hrb
   clear hrb hfin hex b12 HG
   go_wp2_with (first | (refine wpLx (x := (XE.mk 22 0 0 0 T1 ⟨#[]⟩ none 0 [])) rfl _ rfl HB12.out rfl ?_; unfold XE.val) | (refine wpSx (x := (XE.mk 22 0 0 0 T1 ⟨#[]⟩ none 0 [])) rfl _ _ rfl HRB.out rfl rfl ?_))
   exact ex_ret Tryz.results175 HFI.out.1 rfl rfl HFI.out.2
end Go.Proofs.YtofnkfjhmjecjaaGreatDoor

namespace Go.Proofs.YtofnkfjhmjecjaaGreatDoor
set_option maxRecDepth 100000
open Go.RowKit Go.Joins Go.ChangeShapes Go.WideShapes
set_option linter.unusedVariables false
set_option linter.unusedSimpArgs false
mutual
/-- how great an expression is -/
def szE : Ex → Nat
 | .mk _ _ _ _ text qual args => 1 + text.size + qual.size + szL args
def szL : List Ex → Nat
 | [] => 0
 | a :: r => szE a + szL r
end
mutual
/-- its numbers are of 64 bits -/
def XE.Wd : XE → Prop
 | .mk op kind num scale _ _ _ _ args => ((Lit.int .i64 op).wf = true ∧ (Lit.int .i64 kind).wf = true ∧ (Lit.int .i64 num).wf = true ∧ (Lit.int .i64 scale).wf = true) ∧ XE.WdL args
def XE.WdL : List XE → Prop
 | [] => True
 | x :: r => XE.Wd x ∧ XE.WdL r
end
section
variable {H : Type} {enc : TypeId × Value → H} {P : Program} {w : World} {base : Nat} {spare : Nat → Bool} {held : Bool}
end
end Go.Proofs.YtofnkfjhmjecjaaGreatDoor

namespace Go.Proofs.YtofnkfjhmjecjaaGreatDoor
set_option maxRecDepth 100000
open Go.RowKit Go.Joins Go.ChangeShapes Go.WideShapes Go.Great
set_option linter.unusedVariables false
set_option linter.unusedSimpArgs false
end Go.Proofs.YtofnkfjhmjecjaaGreatDoor

namespace Go.Proofs.YtofnkfjhmjecjaaGreatDoor
set_option maxRecDepth 100000
open Go.RowKit Go.Joins Go.ChangeShapes Go.WideShapes Go.Great
set_option linter.unusedVariables false
set_option linter.unusedSimpArgs false
end Go.Proofs.YtofnkfjhmjecjaaGreatDoor

namespace Go.Proofs.YtofnkfjhmjecjaaGreatDoor
set_option maxRecDepth 100000
open Go.RowKit Go.Joins Go.ChangeShapes Go.WideShapes Go.Great
set_option linter.unusedVariables false
set_option linter.unusedSimpArgs false
theorem arr_one {P : Program} {ops : Array Oper} {rest : List Oper} {o1 o2 o3 : Oper} {a : Act} {w : World} {Q : Exit → Act → World → Prop} (T : TypeId) (cells z : Array Value) (d1 d2 : Tmp) (parts : Array (Nat × Operand))
  (g1 : o1.guard = none) (h1 : o1.op = .build T parts) (e1 : o1.dst = some d1) (hf : P.built T (parts.map fun (i, x) => (i, a.eval x)).toList = some cells)
  (g2 : o2.guard = none) (e2 : o2.dst = some d2) (hrun : (execOp (a.put (some d1) (.agg cells)).eval o2).run P w = .ok (.value (.pointer (some ⟨w.heap.size, 0, none⟩))) (w.alloc (.cells z T)))
  (g3 : o3.guard = none) (h3 : o3.op = .store T (.tmp d2) (.tmp d1)) (e3 : o3.dst = none)
  (v1 : ((a.put (some d1) (.agg cells)).put (some d2) (.pointer (some ⟨w.heap.size, 0, none⟩))).eval (.tmp d2) = .pointer (some ⟨w.heap.size, 0, none⟩))
  (v2 : ((a.put (some d1) (.agg cells)).put (some d2) (.pointer (some ⟨w.heap.size, 0, none⟩))).eval (.tmp d1) = .agg cells)
  (hi : (P.info? T).map (·.size) = some cells.size) (hz : z.size = cells.size) (hone : cells.all (·.oneCell') = true)
  (h : wpList P ops Q rest ((a.put (some d1) (.agg cells)).put (some d2) (.pointer (some ⟨w.heap.size, 0, none⟩))) (w.alloc (.cells cells T))) : wpList P ops Q (o1 :: o2 :: o3 :: rest) a w := by
 refine wpList_buildTo g1 T parts h1 (some d1) e1 cells hf ?_
 refine wpList_allocTo g2 (some d2) e2 _ (.cells z T) hrun ?_
 refine wpList_store_rowOf g3 T (.tmp d2) (.tmp d1) h3 w.heap.size v1 (by rw [v2]; rfl) T z (heap_alloc_new w _) (by rw [v2]; exact hi) (by rw [v2]; exact hz) (by rw [v2]; exact hone) ?_
 rw [v2, e3]
 have : (w.alloc (.cells z T)).setRow w.heap.size cells = w.alloc (.cells cells T) := World.setRow_alloc_new w _ cells _
 show wpList P ops Q rest _ ((w.alloc (.cells z T)).setRow w.heap.size cells)
 rw [this]
 exact h
end Go.Proofs.YtofnkfjhmjecjaaGreatDoor
