/-
  Texts of mine put together, in build order.
  Conditions: as each declaration says.
-/
import Derived.Deep.RegionLaw
import Derived.RegionDies
import Derived.Test.YtofnkfjhmjecjaaGreatDoorZp6
namespace Go.Proofs.YtofnkfjhmjecjaaGreatDoor
set_option maxRecDepth 100000
open Go.RowKit Go.Joins Go.ChangeShapes Go.WideShapes
set_option linter.unusedVariables false
set_option linter.unusedSimpArgs false
theorem txt_eq {t wd : List Nat} (h1 : ∀ x ∈ t, x < 256) (h2 : ∀ x ∈ wd, x < 256) : ((strB t).toList == (strB wd).toList) = (t == wd) := by
 by_cases h : t = wd
 ·subst h; simp
 ·have hn : (t == wd) = false := by simp [h]
  rw [hn]
  apply Bool.eq_false_iff.2
  intro hc
  have b := eq_of_beq hc
  rw [ByteArray.toList_eq, ByteArray.toList_eq] at b
  have e := Array.toList_inj.1 b
  have e2 : strB t = strB wd := by
   cases hx : strB t with
   | mk p => cases hy : strB wd with
    | mk q => rw [hx, hy] at e; simp at e; rw [e]
  exact h (strB_inj h1 h2 e2)
set_option maxHeartbeats 2000000 in
theorem at_p {w : World} {pb : Nat} {s : PS} (h : PsM w pb s) (wd : List Nat) (hw : ∀ x ∈ wd, x < 256) :
  Calls Tryz.prog 102 #[.pointer (some ⟨pb, 0, none⟩), .string (strB wd)] w fun e w' => e = .returned (.bool (atP wd s)) ∧ Stp w w' pb s := by
 generalize hP : (fun (e : Ending) (w' : World) => e = .returned (.bool (atP wd s)) ∧ Stp w w' pb s) = P
 have HF := Lib.hid (fun (b : Bool) (hb : atP wd s = b) (w' : World) (hw' : Below w.heap.size w w') => show P (.returned (.bool b)) w' by rw [← hP, ← hb]; exact ⟨rfl, (Stp.refl h).below hw'⟩)
 cases hr : s.rest with
 | nil =>
  obtain ⟨a, cap, c0⟩ := h.nil hr
  have hf : atP wd s = false := by unfold atP; rw [hr]
  have HF0 := Lib.hid (HF.out _ hf)
  clear HF hP h hr hf
  go_enter Tryz.func102, Tryz.ntmps102
  go_wp2_with fail
  exact HF0.out w (Below.refl _ _)
 | cons t r =>
  obtain ⟨g, o, cap, h0, c0, h2, h3, h4, f0, c1, c2, c3, c4, -⟩ := h.cons hr
  have hb : ∀ x ∈ t.text, x < 256 := (h.rt t (by rw [hr]; exact List.mem_cons_self ..)).2.2.2.2
  have he := txt_eq hb hw
  have hf : atP wd s = (t.text == wd && !(t.kind == 4)) := by unfold atP; rw [hr]
  rw [hf] at HF
  rw [← he] at HF
  obtain ⟨m, hm⟩ : ∃ m, r.length = m := ⟨_, rfl⟩
  rw [hm] at c0 h2 h4
  have k1 : decide ((m : Int) + 1 > 0) = true := by simp
  have k2 : (0 : Int) < (m : Int) + 1 := by omega
  obtain ⟨be, hbe⟩ : ∃ be, ((strB t.text).toList == (strB wd).toList) = be := ⟨_, rfl⟩
  rw [hbe] at HF
  clear hP h hr hf hb he hw
  generalize strB t.text = T at *
  generalize strB wd = Wd at *
  go_enter Tryz.func102, Tryz.ntmps102
  obtain ⟨bk, hbk⟩ : ∃ bk, ((t.kind : Int) != 4) = bk := ⟨_, rfl⟩
  have hbk2 : (!(t.kind == 4)) = bk := by
   rw [← hbk]
   by_cases c : t.kind = 4
   ·rw [c]; rfl
   ·rw [show (t.kind == 4) = false by simp [c], show ((t.kind : Int) != 4) = true from bne_iff_ne.2 (by omega)]; rfl
  rw [hbk2] at HF
  clear hbk2
  cases be with
  | true =>
   have HF1 := Lib.hid (HF.out _ rfl w (Below.refl _ _))
   go_wp2_with fail
   all_goals exact HF1.out
  | false =>
   have HF1 := Lib.hid (HF.out _ rfl w (Below.refl _ _))
   go_wp2_with fail
   all_goals exact HF1.out
set_option maxHeartbeats 2000000 in
theorem found_p {w : World} {pb : Nat} {s : PS} (h : PsM w pb s) (wd : List Nat) (hw : ∀ x ∈ wd, x < 256) :
  Calls Tryz.prog 38 #[.pointer (some ⟨pb, 0, none⟩), .string (strB wd)] w fun e w' => e = .returned (.bool (atP wd s)) ∧ Stp w w' pb (gotP wd s).2 := by
 generalize hP : (fun (e : Ending) (w' : World) => e = .returned (.bool (atP wd s)) ∧ Stp w w' pb (gotP wd s).2) = P
 have HA := Lib.hid (at_p h wd hw)
 cases hc : atP wd s with
 | false =>
  have HF := Lib.hid (fun (w' : World) (hs : Stp w w' pb s) => show P (.returned (.bool false)) w' by rw [← hP, hc]; unfold gotP; rw [hc]; exact ⟨rfl, hs⟩)
  rw [hc] at HA
  clear hP hc h hw
  go_enter Tryz.func38, Tryz.ntmps38
  go_wp2_with (first | (go_at_call 102; refine HA.out.mono ?_; rintro e w1 ⟨rfl, s1⟩; have S1 := Lib.hid s1; clear s1))
  exact HF.out _ S1.out
 | true =>
  have HF := Lib.hid (fun (w' : World) (hs : Stp w w' pb s.next) => show P (.returned (.bool true)) w' by rw [← hP, hc]; unfold gotP; rw [hc]; exact ⟨rfl, hs⟩)
  obtain ⟨t, r, hr⟩ : ∃ t r, s.rest = t :: r := by
   unfold atP at hc
   cases hr : s.rest with
   | nil => rw [hr] at hc; cases hc
   | cons t r => exact ⟨t, r, rfl⟩
  have HT := Lib.hid (fun (w' : World) (h : PsM w' pb s) => take_p h hr)
  rw [hc] at HA
  clear hP hc h hw hr
  unfold Tkv at HT
  go_enter Tryz.func38, Tryz.ntmps38
  go_wp2_with (first | (go_at_call 102; refine HA.out.mono ?_; rintro e w1 ⟨rfl, s1⟩; have S1 := Lib.hid s1; clear s1) | (go_at_call 103; refine (HT.out w1 S1.out.ps).mono ?_; rintro e w2 ⟨rfl, s2⟩; have S2 := Lib.hid (S1.out.trans s2); clear s2))
  exact HF.out _ S2.out
end Go.Proofs.YtofnkfjhmjecjaaGreatDoor

namespace Go.Proofs.YtofnkfjhmjecjaaGreatDoor
set_option maxRecDepth 100000
open Go.RowKit Go.Joins Go.ChangeShapes Go.WideShapes
set_option linter.unusedVariables false
set_option linter.unusedSimpArgs false
theorem found_q {w : World} {pb : Nat} {s : PS} (h : PsM w pb s) {q : ByteArray} {wd : List Nat} (hq : q = strB wd) (hw : ∀ x ∈ wd, x < 256) :
  Calls Tryz.prog 38 #[.pointer (some ⟨pb, 0, none⟩), .string q] w fun e w' => e = .returned (.bool (atP wd s)) ∧ Stp w w' pb (gotP wd s).2 := by
 subst hq
 exact found_p h wd hw
def NeedE (w : World) (pb : Nat) (wd : List Nat) (s : PS) (e : Ending) (w' : World) : Prop :=
 (atP wd s = true → e = .returned (.tuple #[]) ∧ Stp w w' pb s.next) ∧ (atP wd s = false → e = PPan 130 ∧ Frm (PF pb) w w')
set_option maxHeartbeats 2000000 in
theorem need_p {w : World} {pb : Nat} {s : PS} (h : PsM w pb s) {q : ByteArray} {wd : List Nat} (hq : q = strB wd) (hw : ∀ x ∈ wd, x < 256) (g : Nat) (hg : pb < g) (hgs : g < w.heap.size) (hc : w.cell? ⟨g, 0, none⟩ = some (.string q)) :
  Calls Tryz.prog 44 #[.pointer (some ⟨pb, 0, none⟩), .slice (some ⟨g, 0, none⟩) 1 1] w (NeedE w pb wd s) := by
 generalize hP : NeedE w pb wd s = P
 have HP := Lib.hid hP
 have HF := Lib.hid (found_q h hq hw)
 have HMO := Lib.hid (pmust_ok 130)
 have HMN := Lib.hid (pmust_no 130)
 have HH := Lib.hid h
 cases ha : atP wd s with
 | true =>
  have HE := Lib.hid (fun (w' : World) (hs : Stp w w' pb s.next) => show P (.returned (.tuple #[])) w' by rw [← hP]; exact ⟨fun _ => ⟨rfl, hs⟩, fun e => (by rw [ha] at e; cases e)⟩)
  have hgot : (gotP wd s).2 = s.next := by unfold gotP; rw [ha]; rfl
  rw [ha, hgot] at HF
  clear hP hq hw h ha hgot
  go_enter Tryz.func44, Tryz.ntmps44
  go_wp2_with fail
  go_loopw [8] (fun i wr => (i = .int .i64 0 ∧ wr = w) ∨ (i = .int .i64 1 ∧ Hid (Stp w wr pb s.next))) (fun i _ => 1 - (intOf i).toNat)
  case atStart => exact .inl ⟨rfl, rfl⟩
  case round =>
   rcases hrel with ⟨rfl, rfl⟩ | ⟨rfl, HS⟩
   ·go_wp2_with (first | (go_at_call 38; refine HF.out.mono ?_; rintro e w1 ⟨rfl, s1⟩; have S1 := Lib.hid s1; clear s1) | (go_at_call 21; refine (HMO.out _).mono ?_; rintro e w2 ⟨rfl, rfl⟩))
    exact ⟨.inr ⟨rfl, S1⟩, by simp [intOf]⟩
   ·go_wp2_with fail
    go_end0
    exact HE.out _ HS.out
 | false =>
  have HE := Lib.hid (fun (w' : World) (hs : Stp w w' pb s) => show P (PPan 130) w' by rw [← hP]; exact ⟨(fun e => by rw [ha] at e; cases e), fun _ => ⟨rfl, hs.fr⟩⟩)
  have hgot : (gotP wd s).2 = s := by unfold gotP; rw [ha]; rfl
  rw [ha, hgot] at HF
  clear hP hq hw h ha hgot
  go_enter Tryz.func44, Tryz.ntmps44
  go_wp2_with fail
  go_loopw [8] (fun i wr => i = .int .i64 0 ∧ wr = w) (fun i _ => 1 - (intOf i).toNat)
  case atStart => exact ⟨rfl, rfl⟩
  case round =>
   obtain ⟨rfl, rfl⟩ := hrel
   go_wp2_with (first | (go_at_call 38; refine HF.out.mono ?_; rintro e w1 ⟨rfl, s1⟩; have S1 := Lib.hid s1; clear s1) | (go_at_call 21; refine (HMN.out _).mono ?_; rintro e w2 ⟨rfl, rfl⟩))
   exact ⟨rfl, HE.out _ S1.out⟩
theorem need_q {w : World} {pb : Nat} {s : PS} (h : PsM w pb s) {q : ByteArray} {wd : List Nat} (hq : q = strB wd) (hw : ∀ x ∈ wd, x < 256) :
  Calls Tryz.prog 44 #[.pointer (some ⟨pb, 0, none⟩), .slice (some ⟨w.heap.size, 0, none⟩) 1 1] (w.alloc (.cells #[.string q] 9)) (NeedE w pb wd s) := by
 have b1 : Below w.heap.size w (w.alloc (.cells #[.string q] 9)) := (Below.refl _ _).alloc (Nat.le_refl _) _
 have hn := Bx.new w #[.string q] 9
 have hl := h.lt
 refine (need_p (h.below b1) hq hw w.heap.size hl hn.lt (hn.cell rfl)).mono ?_
 rintro e w' ⟨h1, h2⟩
 exact ⟨fun c => ⟨(h1 c).1, ⟨((Frm.refl _ w).step b1).trans (h1 c).2.fr (New.refl _ _), (h1 c).2.ps⟩⟩, fun c => ⟨(h2 c).1, ((Frm.refl _ w).step b1).trans (h2 c).2 (New.refl _ _)⟩⟩
theorem Bx.two {w : World} {g : Nat} {u0 u1 : Value} {T : TypeId} (h : Bx w g #[u0, u1] T) : w.cell? ⟨g, 0, none⟩ = some u0 ∧ w.cell? ⟨g, 1, none⟩ = some u1 ∧ w.frozen? ⟨g, 0, none⟩ = false ∧ w.frozen? ⟨g, 1, none⟩ = false :=
 ⟨h.cell rfl, h.cell rfl, h.frz 0, h.frz 1⟩
def okk : RK Tryz.prog (ByteArray × Int) where
 enc := fun x => [.string x.1, .int .i64 x.2]
 n := 2
 te := 193
 ts := 211
 bytes := 24
 z := .agg #[.string ByteArray.empty, .int .i64 0]
 len := fun _ => rfl
 one := fun x u hu => by
  simp only [List.mem_cons, List.not_mem_nil, or_false] at hu
  rcases hu with rfl | rfl <;> rfl
 pos := by decide
 by0 := by decide
 hu := Tryz.underlying211
 info := by kernel_rfl
 zc := rfl
def opB (l : List (List Nat × Nat)) : List (ByteArray × Int) := l.map fun x => (strB x.1, (x.2 : Int))
def opN : Option Nat → Nat
 | none => 0
 | some op => op
def opS : Option Nat → PS → PS
 | none, s => s
 | some _, s => s.next
theorem whichP_drop {l : List (List Nat × Nat)} {s : PS} {k : Nat} {x : List Nat × Nat} (hx : l[k]? = some x) : whichP (l.drop k) s = if atP x.1 s = true then some x.2 else whichP (l.drop (k + 1)) s := by
 obtain ⟨h1, h2⟩ := List.getElem?_eq_some_iff.1 hx
 rw [List.drop_eq_getElem_cons h1, h2]
 obtain ⟨a, b⟩ := x
 rw [whichP]
set_option maxHeartbeats 4000000 in
theorem which_p {w : World} {pb : Nat} {s : PS} (h : PsM w pb s) (l : List (List Nat × Nat)) (hw : ∀ x ∈ l, ∀ y ∈ x.1, y < 256) (hl : l.length ≤ 100) (g : Nat) (hg : pb < g) (hgs : g < w.heap.size) (hc : ∀ j u, (okk.cells (opB l))[j]? = some u → w.cell? ⟨g, j, none⟩ = some u) :
  Calls Tryz.prog 209 #[.pointer (some ⟨pb, 0, none⟩), .slice (some ⟨g, 0, none⟩) l.length l.length] w fun e w' => e = .returned (.int .i64 (opN (whichP l s) : Int)) ∧ Stp w w' pb (opS (whichP l s) s) := by
 generalize hP : (fun (e : Ending) (w' : World) => e = .returned (.int .i64 (opN (whichP l s) : Int)) ∧ Stp w w' pb (opS (whichP l s) s)) = P
 have HP := Lib.hid hP
 have HF := Lib.hid (fun (w' : World) (h : PsM w' pb s) (wd : List Nat) (hw : ∀ x ∈ wd, x < 256) => found_p h wd hw)
 have HC := Lib.hid (And.intro hc hw)
 have HH := Lib.hid h
 obtain ⟨n, hn⟩ : ∃ n, l.length = n := ⟨_, rfl⟩
 rw [hn] at hl ⊢
 have HN := Lib.hid hn
 have hg2 : ¬ g = pb := by omega
 clear hP hc hw hn h
 go_enter Tryz.func209, Tryz.ntmps209
 go_wp2_with fail
 go_loopw [9] (fun i wr => ∃ k : Nat, k ≤ n ∧ i = .int .i64 (k : Int) ∧ Hid (whichP l s = whichP (l.drop k) s) ∧ Hid (Stp w wr pb s)) (fun i _ => n - (intOf i).toNat)
 case atStart => exact ⟨0, Nat.zero_le _, rfl, Lib.hid rfl, Lib.hid (Stp.refl HH.out)⟩
 case round =>
  obtain ⟨k, hk, rfl, HW, HS⟩ := hrel
  by_cases c : k < n
  ·have c1 : (k : Int) < (n : Int) := by omega
   have hx : l[k]? = some (l[k]'(by rw [HN.out]; exact c)) := List.getElem?_eq_getElem _
   generalize l[k]'(by rw [HN.out]; exact c) = x at *
   have hxb : (opB l)[k]? = some (strB x.1, (x.2 : Int)) := by unfold opB; rw [List.getElem?_map, hx]; rfl
   have hbx : ∀ y ∈ x.1, y < 256 := HC.out.2 x (List.mem_of_getElem? hx)
   have z0 : wr.cell? ⟨g, k * 2, none⟩ = some (.string (strB x.1)) := by
    rw [HS.out.fr.cell hgs hg2 _]
    have := RK.cells_at okk (opB l) k 0 _ hxb (by decide)
    exact HC.out.1 _ _ (this.trans rfl)
   have z1 : wr.cell? ⟨g, k * 2 + 1, none⟩ = some (.int .i64 (x.2 : Int)) := by
    rw [HS.out.fr.cell hgs hg2 _]
    have := RK.cells_at okk (opB l) k 1 _ hxb (by decide)
    exact HC.out.1 _ _ (this.trans rfl)
   have HWD := Lib.hid (whichP_drop (s := s) hx)
   have HX := Lib.hid (hbx)
   clear hx hxb hbx
   obtain ⟨wd, op⟩ := x
   dsimp only at z0 z1 HWD HX
   cases ha : atP wd s with
   | true =>
    have HA := Lib.hid ha
    clear ha
    go_wp2_with (first | (go_at_call 38; refine (HF.out _ (HS.out.alloc _).ps wd HX.out).mono ?_; rw [HA.out]; rintro e w1 ⟨rfl, s1⟩; have S1 := Lib.hid ((HS.out.alloc _).trans s1); obtain ⟨x0, x1, y0, y1⟩ := ((Bx.new wr _ _).frm s1.fr (show ¬ wr.heap.size = pb by have := HS.out.ps.lt; omega)).two; clear s1))
    have hr : whichP l s = some op := by rw [HW.out, HWD.out, if_pos HA.out]
    have hg : (gotP wd s).2 = s.next := by unfold gotP; rw [if_pos HA.out]
    have hS := S1.out
    rw [hg] at hS
    have hf : P (.returned (.int .i64 (op : Int))) w1 := by rw [← HP.out, hr]; exact ⟨rfl, hS⟩
    exact hf
   | false =>
    have HA := Lib.hid ha
    have hg : (gotP wd s).2 = s := by unfold gotP; rw [ha]; rfl
    have HG := Lib.hid hg
    clear ha hg
    go_wp2_with (first | (go_at_call 38; refine (HF.out _ (HS.out.alloc _).ps wd HX.out).mono ?_; rw [HA.out, HG.out]; rintro e w1 ⟨rfl, s1⟩; have S1 := Lib.hid ((HS.out.alloc _).trans s1); clear s1))
    exact ⟨⟨k + 1, by omega, by simp, Lib.hid (by rw [HW.out, HWD.out, HA.out]; rfl), S1⟩, by simp [intOf]; omega⟩
  ·have c2 : decide ((k : Int) < (n : Int)) = false := by simp; omega
   obtain rfl : k = n := by omega
   have hr : whichP l s = none := by rw [HW.out, List.drop_of_length_le (by rw [HN.out]; exact Nat.le_refl _)]; rfl
   have hf : P (.returned (.int .i64 0)) wr := by rw [← HP.out, hr]; exact ⟨rfl, HS.out⟩
   have HFF := Lib.hid hf
   clear hr hf
   go_wp2_with fail
   exact HFF.out
theorem which_q {w : World} {pb : Nat} {s : PS} (h : PsM w pb s) (l : List (List Nat × Nat)) (hw : ∀ x ∈ l, ∀ y ∈ x.1, y < 256) (hl : l.length ≤ 100) {n : Nat} (hn : n = l.length) {cs : Array Value} (hcs : cs = (okk.cells (opB l)).toArray) :
  Calls Tryz.prog 209 #[.pointer (some ⟨pb, 0, none⟩), .slice (some ⟨w.heap.size, 0, none⟩) n n] (w.alloc (.cells cs 193)) fun e w' => e = .returned (.int .i64 (opN (whichP l s) : Int)) ∧ Stp w w' pb (opS (whichP l s) s) := by
 subst hn hcs
 have b1 : Below w.heap.size w (w.alloc (.cells (okk.cells (opB l)).toArray 193)) := (Below.refl _ _).alloc (Nat.le_refl _) _
 have hb := Bx.new w (okk.cells (opB l)).toArray 193
 refine (which_p (h.below b1) l hw hl w.heap.size h.lt hb.lt (fun j u hj => hb.cell (by simpa using hj))).mono ?_
 rintro e w' ⟨rfl, h1⟩
 exact ⟨rfl, ((Stp.refl h).below b1).trans h1⟩
theorem made_p (w : World) (op : Int) (a : Option Addr) (n c : Nat) (args : List XE) (hn : args.length = n) :
  Calls Tryz.prog 210 #[.int .i64 op, .slice a n c] w fun e w' => e = .returned (XE.mk op 0 0 0 ⟨#[]⟩ ⟨#[]⟩ a c args).val ∧ Below w.heap.size w w' := by
 generalize hP : (fun (e : Ending) (w' : World) => e = .returned (XE.mk op 0 0 0 ⟨#[]⟩ ⟨#[]⟩ a c args).val ∧ Below w.heap.size w w') = P
 have b1 : Below w.heap.size w (w.alloc (.cells #[.int .i64 0, .slice none 0 0, .int .i64 0, .int .i64 0, .int .i64 0, .string ⟨#[]⟩, .string ⟨#[]⟩] 30)) := (Below.refl _ _).alloc (Nat.le_refl _) _
 have hn1 := Bx.new w #[.int .i64 0, .slice none 0 0, .int .i64 0, .int .i64 0, .int .i64 0, .string ⟨#[]⟩, .string ⟨#[]⟩] 30
 obtain ⟨w1, hw1⟩ : ∃ w1, w.alloc (.cells #[.int .i64 0, .slice none 0 0, .int .i64 0, .int .i64 0, .int .i64 0, .string ⟨#[]⟩, .string ⟨#[]⟩] 30) = w1 := ⟨_, rfl⟩
 rw [hw1] at b1 hn1
 have HB := Lib.hid (st7_box hn1 (XE.mk op 0 0 0 ⟨#[]⟩ ⟨#[]⟩ a c args))
 have f1 : Frm (fun _ => False) w (st7 w1 w.heap.size (XE.mk op 0 0 0 ⟨#[]⟩ ⟨#[]⟩ a c args)) := st7_frm (Frm.of_below b1) (.inr (Nat.le_refl _)) _
 have HF := Lib.hid (show P (.returned (XE.mk op 0 0 0 ⟨#[]⟩ ⟨#[]⟩ a c args).val) (st7 w1 w.heap.size (XE.mk op 0 0 0 ⟨#[]⟩ ⟨#[]⟩ a c args)) by rw [← hP]; exact ⟨rfl, f1.nothing⟩)
 subst hn
 obtain ⟨⟨x0, x1, x2, x3, x4, x5, x6⟩, y0, y1, y2, y3, y4, y5, y6⟩ := hn1.seven
 clear hP b1 hn1 f1
 go_enter Tryz.func210, Tryz.ntmps210
 go_wp2_with fail
 exact ex_ret Tryz.results210 HB.out rfl rfl HF.out
set_option maxHeartbeats 2000000 in
/-- how a name ends -/
theorem name_p {w : World} {pb : Nat} {s : PS} (h : PsM w pb s) {r : Except Nat (List Nat × PS)} (hr : nameP (fun t => nameB (strB t)) s = some r) :
  Calls Tryz.prog 45 #[.pointer (some ⟨pb, 0, none⟩)] w (EndP w pb RS r) := by
 generalize hP : EndP w pb RS r = P
 have HP := Lib.hid hP
 have HH := Lib.hid h
 have HMO := Lib.hid (pmust_ok 130)
 have HMN := Lib.hid (pmust_no 130)
 cases he : s.rest with
 | nil =>
  have HT := Lib.hid (take_p0 h he)
  have hrr : r = .error 130 := by unfold nameP at hr; rw [he] at hr; injection hr with hr; exact hr.symm
  have HE := Lib.hid (fun (w' : World) (hs : Frm (PF pb) w w') => show P (PPan 130) w' by rw [← hP, hrr]; exact ⟨hs, rfl⟩)
  clear hP hr h he hrr
  unfold Tkv at HT
  go_enter Tryz.func45, Tryz.ntmps45
  go_wp2_with (first | (go_at_call 103; refine HT.out.mono ?_; rintro e w1 ⟨rfl, s1⟩; have S1 := Lib.hid s1; clear s1) | (go_at_call 21; refine (HMN.out _).mono ?_; rintro e w2 ⟨rfl, rfl⟩))
  exact ⟨rfl, HE.out _ (S1.out.alloc _).fr⟩
 | cons t rr =>
  have HT := Lib.hid (take_p h he)
  have hnx : s.next = { s with rest := rr } := by unfold PS.next; rw [he]; rfl
  unfold nameP at hr
  rw [he] at hr
  dsimp only at hr
  rw [← hnx] at hr
  have HN := Lib.hid (fun (w' : World) => name_any (strB t.text) w')
  unfold Tkv at HT
  by_cases k : t.kind = 1
  ·have k1 : ((t.kind : Int) == 1) = true := by rw [k]; rfl
   cases hb : nameB (strB t.text) with
   | true =>
    rw [if_pos ⟨k, hb⟩] at hr
    have hrr : r = .ok (t.text, s.next) := by injection hr with hr; exact hr.symm
    have HE := Lib.hid (fun (w' : World) (hs : Stp w w' pb s.next) => show P (.returned (.string (strB t.text))) w' by rw [← hP, hrr]; exact ⟨hs.fr, _, rfl, rfl, hs.ps⟩)
    rw [hb] at HN
    clear hP hr h he hrr hnx k hb
    go_enter Tryz.func45, Tryz.ntmps45
    go_wp2_with (first | (go_at_call 103; refine HT.out.mono ?_; rintro e w1 ⟨rfl, s1⟩; have S1 := Lib.hid s1; clear s1) | (go_at_call 75; refine (HN.out _).mono ?_; rintro e w2 ⟨rfl, b2⟩; obtain ⟨x0, x1, x2, x3, -⟩ := ((Bx.new w1 #[.int .i64 (t.kind : Int), .string (strB t.text), .int .i64 (t.num : Int), .int .i64 (t.scale : Int)] 84).below b2).four; have S2 := Lib.hid ((S1.out.alloc (.cells #[.int .i64 (t.kind : Int), .string (strB t.text), .int .i64 (t.num : Int), .int .i64 (t.scale : Int)] 84)).below b2); clear b2) | (go_at_call 21; refine (HMO.out _).mono ?_; rintro e w3 ⟨rfl, rfl⟩))
    exact HE.out _ S2.out
   | false =>
    rw [if_neg (fun c => by rw [hb] at c; cases c.2)] at hr
    have hrr : r = .error 130 := by injection hr with hr; exact hr.symm
    have HE := Lib.hid (fun (w' : World) (hs : Frm (PF pb) w w') => show P (PPan 130) w' by rw [← hP, hrr]; exact ⟨hs, rfl⟩)
    rw [hb] at HN
    clear hP hr h he hrr hnx k hb
    go_enter Tryz.func45, Tryz.ntmps45
    go_wp2_with (first | (go_at_call 103; refine HT.out.mono ?_; rintro e w1 ⟨rfl, s1⟩; have S1 := Lib.hid s1; clear s1) | (go_at_call 75; refine (HN.out _).mono ?_; rintro e w2 ⟨rfl, b2⟩; have S2 := Lib.hid ((S1.out.alloc _).below b2); clear b2) | (go_at_call 21; refine (HMN.out _).mono ?_; rintro e w3 ⟨rfl, rfl⟩))
    exact ⟨rfl, HE.out _ S2.out.fr⟩
  ·have k1 : ((t.kind : Int) == 1) = false := by simp; omega
   rw [if_neg (fun c => k c.1)] at hr
   have hrr : r = .error 130 := by injection hr with hr; exact hr.symm
   have HE := Lib.hid (fun (w' : World) (hs : Frm (PF pb) w w') => show P (PPan 130) w' by rw [← hP, hrr]; exact ⟨hs, rfl⟩)
   clear hP hr h he hrr hnx k
   go_enter Tryz.func45, Tryz.ntmps45
   go_wp2_with (first | (go_at_call 103; refine HT.out.mono ?_; rintro e w1 ⟨rfl, s1⟩; have S1 := Lib.hid s1; clear s1) | (go_at_call 21; refine (HMN.out _).mono ?_; rintro e w2 ⟨rfl, rfl⟩))
   exact ⟨rfl, HE.out _ (S1.out.alloc _).fr⟩
end Go.Proofs.YtofnkfjhmjecjaaGreatDoor

namespace Go.Proofs.YtofnkfjhmjecjaaGreatDoor
set_option maxRecDepth 100000
open Go.RowKit Go.Joins Go.ChangeShapes Go.WideShapes
set_option linter.unusedVariables false
set_option linter.unusedSimpArgs false
abbrev isN : List Nat → Bool := fun t => nameB (strB t)
def plen (w : World) (pb : Nat) : Nat := match w.cell? ⟨pb, 0, none⟩ with
 | some (.slice _ n _) => n
 | _ => 0
theorem PsM.plen {w : World} {pb : Nat} {s : PS} (h : PsM w pb s) : plen w pb = s.rest.length := by
 obtain ⟨a, cap, h1, -⟩ := h.hd
 unfold Go.Proofs.YtofnkfjhmjecjaaGreatDoor.plen
 rw [show w.cell? ⟨pb, 0, none⟩ = some (.slice a s.rest.length cap) by rw [cell_of_block h1]; rfl]
def PX (g n lvl pb : Nat) : Prop := ∀ (w : World) (s : PS) (r : Except Nat (Ex × PS)), PsM w pb s → px isN n lvl s = some r → Calls Tryz.prog g #[.pointer (some ⟨pb, 0, none⟩)] w (EndP w pb (RX1 w.heap.size) r)
abbrev zx : Array Value := #[.int .i64 0, .slice none 0 0, .int .i64 0, .int .i64 0, .int .i64 0, .string ⟨#[]⟩, .string ⟨#[]⟩]
theorem node2 {K : Bl} {w : World} (op : Int) (x y : XE) (hK : K w.heap.size) (hx : XE.Mem K w x) (hy : XE.Mem K w y) :
  XE.Mem K (w.alloc (.cells (xk.cells [x, y]).toArray 30)) (.mk op 0 0 0 ⟨#[]⟩ ⟨#[]⟩ (some ⟨w.heap.size, 0, none⟩) 2 [x, y]) := by
 have hb : Below w.heap.size w (w.alloc (.cells (xk.cells [x, y]).toArray 30)) := (Below.refl _ _).alloc (Nat.le_refl _) _
 have hn := Bx.new w (xk.cells [x, y]).toArray 30
 refine XE.Mem.node (l := [x, y]) op 0 0 0 _ _ _ (by simp [maxLen]) hK hn.lt (fun j u hj => hn.cell (by rw [List.getElem?_toArray]; exact hj)) ?_
 exact XE.memL_iff.2 (fun z hz => by
  simp only [List.mem_cons, List.not_mem_nil, or_false] at hz
  rcases hz with rfl | rfl
  ·exact hx.below hb
  ·exact hy.below hb)
theorem node1 {K : Bl} {w : World} (op : Int) (x : XE) (hK : K w.heap.size) (hx : XE.Mem K w x) :
  XE.Mem K (w.alloc (.cells (xk.cells [x]).toArray 30)) (.mk op 0 0 0 ⟨#[]⟩ ⟨#[]⟩ (some ⟨w.heap.size, 0, none⟩) 1 [x]) := by
 have hb : Below w.heap.size w (w.alloc (.cells (xk.cells [x]).toArray 30)) := (Below.refl _ _).alloc (Nat.le_refl _) _
 have hn := Bx.new w (xk.cells [x]).toArray 30
 refine XE.Mem.node (l := [x]) op 0 0 0 _ _ _ (by simp [maxLen]) hK hn.lt (fun j u hj => hn.cell (by rw [List.getElem?_toArray]; exact hj)) ?_
 exact XE.memL_iff.2 (fun z hz => by
  simp only [List.mem_cons, List.not_mem_nil, or_false] at hz
  rcases hz with rfl
  exact hx.below hb)
structure ChS (w wr : World) (pb gb : Nat) (s' : PS) (x : XE) : Prop where
 st : Stp w wr pb s'
 bx : Bx wr gb x.encA 30
 b0 : ∃ u0 u1 u2 u3 u4 u5 u6, Bx wr w.heap.size #[u0, u1, u2, u3, u4, u5, u6] 30
 mm : XE.Mem (fun k => w.heap.size < k ∧ k ≠ gb) wr x
 lg : w.heap.size < gb
theorem opsP_ok (lvl : Nat) : ((opsP lvl).all fun x => decide (0 < x.2) && x.1.all fun y => decide (y < 256)) = true := by unfold opsP; split <;> rfl
theorem opsP_all (lvl : Nat) : ∀ x ∈ opsP lvl, 0 < x.2 ∧ ∀ y ∈ x.1, y < 256 := fun x hx => by
 have := List.all_eq_true.1 (opsP_ok lvl) x hx
 simp only [Bool.and_eq_true, decide_eq_true_eq, List.all_eq_true] at this
 exact this
theorem opsP_pos {lvl op : Nat} {s : PS} (h : whichP (opsP lvl) s = some op) : 0 < op := by
 have gen : ∀ l : List (List Nat × Nat), (∀ x ∈ l, 0 < x.2) → whichP l s = some op → 0 < op := by
  intro l
  induction l with
  | nil => intro _ h; cases h
  | cons x r ih =>
   intro hx h
   obtain ⟨a, b⟩ := x
   rw [whichP] at h
   split at h
   ·injection h with h; subst h; exact hx _ (List.mem_cons_self ..)
   ·exact ih (fun y hy => hx y (List.mem_cons_of_mem _ hy)) h
 exact gen _ (fun x hx => (opsP_all lvl x hx).1) h
theorem opsP_bytes (lvl : Nat) : ∀ x ∈ opsP lvl, ∀ y ∈ x.1, y < 256 := fun x hx => (opsP_all lvl x hx).2
theorem opsP_len (lvl : Nat) : (opsP lvl).length ≤ 100 := by unfold opsP; split <;> simp
theorem pc_eq (n lvl : Nat) (e : Ex) (s : PS) : pc isN (n + 1) lvl e s = match whichP (opsP lvl) s with
  | none => retR e s
  | some op => bindR (px isN n (lvl + 1) s.next) fun f s1 => pc isN n lvl (mk2 op e f) s1 := by rw [pc]; cases whichP (opsP lvl) s <;> rfl
theorem ChS.same {w w1 : World} {s : PS} {pb : Nat} {x : XE} (h1 : Frm (PF pb) w w1) (hb : w.heap.size < w1.heap.size) (hp : PsM w1 pb s) (hg : pb < w.heap.size) (b0 : ∃ u0 u1 u2 u3 u4 u5 u6, Bx w1 w.heap.size #[u0, u1, u2, u3, u4, u5, u6] 30) (hm : XE.Mem (GE (w.heap.size + 1)) w1 x) :
  ChS w (w1.alloc (.cells x.encA 30)) pb w1.heap.size s x := by
 have b1 : Below w1.heap.size w1 (w1.alloc (.cells x.encA 30)) := (Below.refl _ _).alloc (Nat.le_refl _) _
 refine ⟨(⟨h1, hp⟩ : Stp w w1 pb s).below b1, Bx.new _ _ _, ?_, ?_, hb⟩
 ·obtain ⟨u0, u1, u2, u3, u4, u5, u6, c1⟩ := b0
  exact ⟨u0, u1, u2, u3, u4, u5, u6, c1.below b1⟩
 ·exact XE.Mem.mono (fun k hk => ⟨by have := hk.1; omega, by have := hk.2; omega⟩) x ((XE.Mem.old x hm).below b1)
theorem ChS.stp {w wr w2 : World} {pb gb : Nat} {s s2 : PS} {x : XE} (h : ChS w wr pb gb s x) (hg : pb < w.heap.size) (h2 : Stp wr w2 pb s2) : ChS w w2 pb gb s2 x := by
 have h1 := h.lg
 refine ⟨h.st.trans h2, h.bx.frm h2.fr (show ¬ gb = pb by omega), ?_, XE.Mem.frm h2.fr (fun k hk e => by have := hk.1; omega) x h.mm, h.lg⟩
 obtain ⟨u0, u1, u2, u3, u4, u5, u6, c1⟩ := h.b0
 exact ⟨u0, u1, u2, u3, u4, u5, u6, c1.frm h2.fr (show ¬ w.heap.size = pb by omega)⟩
theorem ChS.round {w wr w2 w4 : World} {pb gb : Nat} {s s3 : PS} {x y : XE} (h : ChS w wr pb gb s x) (hg : pb < w.heap.size) (h2 : Stp wr w2 pb s3) (hy : XE.Mem (GE wr.heap.size) w2 y) (op : Int)
  (h4 : Below (w2.alloc (.cells (xk.cells [x, y]).toArray 30)).heap.size (w2.alloc (.cells (xk.cells [x, y]).toArray 30)) w4) :
  ChS w (st7 w4 gb (.mk op 0 0 0 ⟨#[]⟩ ⟨#[]⟩ (some ⟨w2.heap.size, 0, none⟩) 2 [x, y])) pb gb s3 (.mk op 0 0 0 ⟨#[]⟩ ⟨#[]⟩ (some ⟨w2.heap.size, 0, none⟩) 2 [x, y]) := by
 have h1 := h.lg
 have hA := h.stp hg h2
 have hgb := h.bx.lt
 have hs2 := h2.fr.size
 have b3 : Below w2.heap.size w2 (w2.alloc (.cells (xk.cells [x, y]).toArray 30)) := (Below.refl _ _).alloc (Nat.le_refl _) _
 have hz := node2 (K := fun k => w.heap.size < k ∧ k ≠ gb) (w := w2) op x y ⟨by omega, by omega⟩ hA.mm (XE.Mem.mono (fun k hk => ⟨by have : wr.heap.size ≤ k := hk; omega, by have : wr.heap.size ≤ k := hk; omega⟩) y hy)
 have hz4 := hz.below h4
 have b24 : Below w2.heap.size w2 w4 := b3.trans (h4.mono b3.size)
 have bx4 := hA.bx.below b24
 have f7 : Frm (fun k => k = gb) w4 (st7 w4 gb (.mk op 0 0 0 ⟨#[]⟩ ⟨#[]⟩ (some ⟨w2.heap.size, 0, none⟩) 2 [x, y])) := st7_frm (F := fun k => k = gb) (Frm.refl _ _) (.inl rfl) _
 refine ⟨((h.st.trans h2).below b24).st7 (by omega) (by omega) _, ?_, ?_, XE.Mem.frm f7 (fun k hk => hk.2) _ hz4, h.lg⟩
 ·cases x; exact st7_box bx4 _
 ·obtain ⟨u0, u1, u2, u3, u4, u5, u6, c1⟩ := hA.b0
  exact ⟨u0, u1, u2, u3, u4, u5, u6, (c1.below b24).frm f7 (by omega)⟩
theorem ChS.at4 {w wr w2 w4 : World} {pb gb : Nat} {s s3 : PS} {x y : XE} (h : ChS w wr pb gb s x) (hg : pb < w.heap.size) (h2 : Stp wr w2 pb s3)
  (h4 : Below (w2.alloc (.cells (xk.cells [x, y]).toArray 30)).heap.size (w2.alloc (.cells (xk.cells [x, y]).toArray 30)) w4) : Bx w4 gb x.encA 30 := by
 have b3 : Below w2.heap.size w2 (w2.alloc (.cells (xk.cells [x, y]).toArray 30)) := (Below.refl _ _).alloc (Nat.le_refl _) _
 exact (h.stp hg h2).bx.below (b3.trans (h4.mono b3.size))
theorem ChS.out {w wr : World} {pb gb : Nat} {s : PS} {x : XE} (h : ChS w wr pb gb s x) (hg : pb < w.heap.size) : Bx (st7 wr w.heap.size x) w.heap.size x.encA 30 ∧ EndP w pb (RX1 w.heap.size) (.ok (x.er, s)) (.returned x.val) (st7 wr w.heap.size x) := by
 obtain ⟨u0, u1, u2, u3, u4, u5, u6, c1⟩ := h.b0
 have hS := h.st.st7 (Nat.le_refl _) hg x
 refine ⟨st7_box c1 x, hS.fr, _, rfl, ⟨x, rfl, rfl, ?_⟩, hS.ps⟩
 have f7 : Frm (fun k => k = w.heap.size) wr (Go.Proofs.YtofnkfjhmjecjaaGreatDoor.st7 wr w.heap.size x) := st7_frm (F := fun k => k = w.heap.size) (Frm.refl _ _) (.inl rfl) _
 exact XE.Mem.mono (fun k hk => Nat.le_of_lt hk.1) x (XE.Mem.frm f7 (fun k hk e => by have := hk.1; omega) x h.mm)
set_option maxHeartbeats 4000000 in
theorem chain_p {g n lvl pb : Nat} (hg : PX g n (lvl + 1) pb) (henter : ∀ args w, (callFunc g args).run Tryz.prog w = .ok (.enter g args) w) {w : World} {s : PS} (h : PsM w pb s) {r : Except Nat (Ex × PS)}
  (hr : (bindR (px isN n (lvl + 1) s) fun e s1 => pc isN n lvl e s1) = some r) (og : Nat) (hog : pb < og) (hogs : og < w.heap.size) (hc : ∀ j u, (okk.cells (opB (opsP lvl)))[j]? = some u → w.cell? ⟨og, j, none⟩ = some u) :
  Calls Tryz.prog 193 #[.pointer (some ⟨pb, 0, none⟩), .func (.func g) #[.pointer (some ⟨pb, 0, none⟩)] #[], .slice (some ⟨og, 0, none⟩) (opsP lvl).length (opsP lvl).length] w (EndP w pb (RX1 w.heap.size) r) := by
 generalize hP : EndP w pb (RX1 w.heap.size) r = P
 have b1 : Below w.heap.size w (w.alloc (.cells zx 30)) := (Below.refl _ _).alloc (Nat.le_refl _) _
 have hn1 := Bx.new w zx 30
 obtain ⟨wa, hwa⟩ : ∃ w1, w.alloc (.cells zx 30) = w1 := ⟨_, rfl⟩
 rw [hwa] at b1 hn1
 have hsa : wa.heap.size = w.heap.size + 1 := by rw [← hwa]; simp
 have HG := Lib.hid hg
 have S0 : Stp w wa pb s := (Stp.refl h).below b1
 have HS0 := Lib.hid S0
 have HN1 := Lib.hid hn1
 have HP := Lib.hid hP
 have HERR := Lib.hid (fun (c : Nat) (hrc : r = .error c) (w' : World) (hs : Frm (PF pb) w w') => show P (PPan (c : Int)) w' by rw [← hP, hrc]; exact ⟨hs, rfl⟩)
 have hpb := h.lt
 cases h1 : px isN n (lvl + 1) s with
 | none => rw [h1] at hr; cases hr
 | some r1 =>
  have HB := Lib.hid (hg wa s r1 S0.ps h1)
  rw [h1] at hr
  match r1, hr, h1, HB with
  | .error c, hr, h1, HB =>
   have hrc : r = .error c := by injection hr with hr; exact hr.symm
   have HE := Lib.hid (HERR.out c hrc)
   unfold zx at hwa
   clear hP hr h1 hrc hn1 h S0 hc b1
   go_enter Tryz.func193, Tryz.ntmps193
   go_wp2_with (first | (go_at_fn g; refine HB.out.mono ?_; rintro e w1 ⟨f1, rfl⟩; have F1 := Lib.hid f1; clear f1))
   exact ⟨rfl, HE.out _ (HS0.out.fr.trans F1.out (New.refl _ _))⟩
  | .ok (e0, s1), hr, h1, HB =>
   have HW := Lib.hid (fun (w' : World) (f : Frm (PF pb) w w') (s : PS) (hp : PsM w' pb s) => which_p hp (opsP lvl) (opsP_bytes lvl) (opsP_len lvl) og hog (Nat.lt_of_lt_of_le hogs f.size) (fun j u hj => (f.cell hogs (show ¬ og = pb by omega) j).trans (hc j u hj)))
   obtain ⟨L, hL⟩ : ∃ L, opsP lvl = L := ⟨_, rfl⟩
   have HL := Lib.hid hL
   have HR : Hid (pc isN n lvl e0 s1 = some r) := Lib.hid hr
   unfold zx at hwa
   rw [hL] at HW ⊢
   obtain ⟨m, hm⟩ : ∃ m, L.length = m := ⟨_, rfl⟩
   rw [hm] at HW ⊢
   clear hP hr h1 hn1 h S0 hc b1 hL hm
   go_enter Tryz.func193, Tryz.ntmps193
   go_wp2_with (first | (go_at_fn g; refine HB.out.mono ?_; rintro e w1 ⟨f1, v, rfl, ⟨x, rfl, rfl, m1⟩, p1⟩; have HCH := Lib.hid (ChS.same (HS0.out.fr.trans f1 (New.refl _ _)) (by have := f1.size; omega) p1 hpb ⟨_, _, _, _, _, _, _, HN1.out.frm f1 (show ¬ _ = _ by omega)⟩ (by rw [hsa] at m1; exact m1)); clear f1 p1 m1; obtain ⟨op, kind, num, scale, text, qual, a, cap, args⟩ := x; unfold XE.val; unfold XE.encA at HCH) | (go_at_call 209; refine (HW.out _ HCH.out.st.fr s1 HCH.out.st.ps).mono ?_; rintro e w2 ⟨rfl, s2⟩; have HC2 := Lib.hid (ChS.stp (x := XE.mk op kind num scale text qual a cap args) HCH.out hpb s2); clear s2))
   go_loopw [8] (fun i wr => ∃ (s : PS) (x : XE) (k j : Nat), i = .int .i64 (j : Int) ∧ Hid (opN (whichP L s) = j) ∧ k ≤ n ∧ Hid (pc isN k lvl x.er s = some r) ∧ Hid (ChS w wr pb w1.heap.size (opS (whichP L s) s) x)) (fun _ wr => plen wr pb)
   case atStart => exact ⟨s1, _, n, _, rfl, Lib.hid rfl, Nat.le_refl _, HR, HC2⟩
   case round =>
    clear HCH HC2 HR HB
    obtain ⟨s2, x, k, j, rfl, HJ, hk, HR, HC⟩ := hrel
    obtain ⟨k, rfl⟩ : ∃ k', k = k' + 1 := by
     cases k with
     | zero => have := HR.out; rw [pc] at this; cases this
     | succ k => exact ⟨k, rfl⟩
    have hR := HR.out
    rw [pc_eq, HL.out] at hR
    have hpl := HC.out.st.ps.plen
    have hlg := HC.out.lg
    obtain ⟨u0, u1, u2, u3, u4, u5, u6, c1⟩ := HC.out.b0
    obtain ⟨⟨p0, p1, p2, p3, p4, p5, p6⟩, y0, y1, y2, y3, y4, y5, y6⟩ := c1.seven
    have hbx := HC.out.bx
    have hgb := hbx.lt
    clear c1
    cases hw : whichP L s2 with
    | none =>
     rw [hw] at hR HC HJ
     obtain rfl : 0 = j := HJ.out
     have hr : r = .ok (x.er, s2) := by injection hR with hR; exact hR.symm
     have HO := HC.out.out hpb
     have HOB := Lib.hid HO.1
     have HOF := Lib.hid (show P (.returned x.val) (st7 wr w.heap.size x) by rw [← HP.out, hr]; exact HO.2)
     clear hR hr hw HO
     obtain ⟨op, kind, num, scale, text, qual, a, cap, args⟩ := x
     unfold XE.encA at hbx
     obtain ⟨⟨x0, x1, x2, x3, x4, x5, x6⟩, z0, z1, z2, z3, z4, z5, z6⟩ := hbx.seven
     clear hbx hpl
     go_wp2_with fail
     exact ex_ret Tryz.results193 HOB.out rfl rfl HOF.out
    | some op =>
     rw [hw] at hR HC HJ hpl
     have hpl : plen wr pb = s2.next.rest.length := hpl
     obtain rfl : op = j := HJ.out
     have hop := opsP_pos (by rw [HL.out]; exact hw)
     have k0 : ((op : Int) != 0) = true := by simp; omega
     have hp2 : PsM wr pb s2.next := HC.out.st.ps
     have hwl := whichP_len hw
     have HBB := Lib.hid (fun (w' : World) (hp : PsM w' pb s2.next) (r' : Except Nat (Ex × PS)) (h' : px isN k (lvl + 1) s2.next = some r') => HG.out w' s2.next r' hp (px_le isN (by omega) _ h'))
     have HMD := Lib.hid made_p
     cases h2 : px isN k (lvl + 1) s2.next with
     | none => rw [h2] at hR; cases hR
     | some r2 =>
      rw [h2] at hR
      match r2, hR, h2 with
      | .error c, hR, h2 =>
       have hrc : r = .error c := by injection hR with hR; exact hR.symm
       have HE := Lib.hid (HERR.out c hrc)
       have HB1 := Lib.hid (HBB.out wr hp2 _ h2)
       have HB2 := Lib.hid (HBB.out wr.drew (hp2.below (Below.refl _ _).drew) _ h2)
       clear hR hrc h2 hp2 hw hpl hwl
       obtain ⟨op1, kind, num, scale, text, qual, a, cap, args⟩ := x
       unfold XE.encA at hbx
       obtain ⟨⟨x0, x1, x2, x3, x4, x5, x6⟩, z0, z1, z2, z3, z4, z5, z6⟩ := hbx.seven
       clear hbx
       go_wp2_with fail
       go_region_dies
       all_goals
        refine HB2.out.mono ?_
        rintro e w3 ⟨f3, rfl⟩
        exact ⟨rfl, HE.out _ (HC.out.st.drew.fr.trans f3 (New.refl _ _))⟩
      | .ok (f, s3), hR, h2 =>
       have HB1 := Lib.hid (HBB.out wr hp2 _ h2)
       have HB2 := Lib.hid (HBB.out wr.drew (hp2.below (Below.refl _ _).drew) _ h2)
       have hu := ((px_uses isN k).1 _ _ _ _ h2).1
       have HU := Lib.hid (And.intro hu (And.intro hwl hpl))
       have HR3 : Hid (pc isN k lvl (mk2 op x.er f) s3 = some r) := Lib.hid hR
       clear hR h2 hp2 hw hpl hwl hu
       obtain ⟨op1, kind, num, scale, text, qual, a, cap, args⟩ := x
       unfold XE.encA at hbx
       obtain ⟨⟨x0, x1, x2, x3, x4, x5, x6⟩, z0, z1, z2, z3, z4, z5, z6⟩ := hbx.seven
       clear hbx
       go_wp2_with fail
       have HRN := Lib.hid (fun (w3 w4 : World) (y : XE) (f3 : Frm (PF pb) wr.drew w3) (p3 : PsM w3 pb s3) (hy : XE.Mem (GE wr.heap.size) w3 y) => ChS.round (y := y) HC.out hpb (⟨(Frm.refl (PF pb) wr).drew.trans f3 (New.refl _ _), p3⟩ : Stp wr w3 pb s3) hy op (w4 := w4))
       have HRA := Lib.hid (fun (w3 w4 : World) (y : XE) (f3 : Frm (PF pb) wr.drew w3) (p3 : PsM w3 pb s3) => ChS.at4 (y := y) HC.out hpb (⟨(Frm.refl (PF pb) wr).drew.trans f3 (New.refl _ _), p3⟩ : Stp wr w3 pb s3) (w4 := w4))
       have HRB := Lib.hid (fun (w3 : World) (f3 : Frm (PF pb) wr.drew w3) => HC.out.bx.frm ((Frm.refl (PF pb) wr).drew.trans f3 (New.refl _ _)) (show ¬ w1.heap.size = pb by omega))
       unfold XE.encA at HRA HRB
       go_region_with (first | (go_at_fn g; refine HB2.out.mono ?_; rintro e w3 ⟨f3, v, rfl, ⟨y, rfl, rfl, m3⟩, p3⟩; obtain ⟨⟨q0, q1, q2, q3, q4, q5, q6⟩, -⟩ := (HRB.out w3 f3).seven; have H3 := Lib.hid (And.intro f3 (And.intro p3 m3)); clear f3 p3 m3; obtain ⟨op2, kind2, num2, scale2, text2, qual2, a2, cap2, args2⟩ := y; unfold XE.val) | (go_at_call 210; refine (HMD.out _ _ _ 2 2 [XE.mk op1 kind num scale text qual a cap args, XE.mk op2 kind2 num2 scale2 text2 qual2 a2 cap2 args2] rfl).mono ?_; rintro e w4 ⟨rfl, b4⟩; obtain ⟨⟨e0, e1, e2, e3, e4, e5, e6⟩, g0, g1, g2, g3, g4, g5, g6⟩ := (HRA.out w3 w4 (XE.mk op2 kind2 num2 scale2 text2 qual2 a2 cap2 args2) H3.out.1 H3.out.2.1 b4).seven; have H4 := Lib.hid (HRN.out w3 w4 (XE.mk op2 kind2 num2 scale2 text2 qual2 a2 cap2 args2) H3.out.1 H3.out.2.1 H3.out.2.2 b4); clear b4; unfold XE.val))
       all_goals
        clear q0 q1 q2 q3 q4 q5 q6 e0 e1 e2 e3 e4 e5 e6 g0 g1 g2 g3 g4 g5 g6 x0 x1 x2 x3 x4 x5 x6 z0 z1 z2 z3 z4 z5 z6 p0 p1 p2 p3 p4 p5 p6 y0 y1 y2 y3 y4 y5 y6
        go_wp2_with (first | (go_at_call 209; refine (HW.out _ H4.out.st.fr s3 H4.out.st.ps).mono ?_; rintro e w6 ⟨rfl, s6⟩; have H6 := Lib.hid (ChS.stp H4.out hpb s6); clear s6))
        refine ⟨⟨s3, _, k, _, rfl, Lib.hid rfl, by omega, Lib.hid ?_, H6⟩, ?_⟩
        ·have := HR3.out
         simp only [XE.er, XE.erL, mk2] at this ⊢
         exact this
        ·rw [H6.out.st.ps.plen]
         have h1 := HU.out
         have h2 : (opS (whichP L s3) s3).rest.length ≤ s3.rest.length := by
          cases whichP L s3 with
          | none => exact Nat.le_refl _
          | some _ => exact next_le s3
         omega
end Go.Proofs.YtofnkfjhmjecjaaGreatDoor

namespace Go.Proofs.YtofnkfjhmjecjaaGreatDoor
set_option maxRecDepth 100000
open Go.RowKit Go.Joins Go.ChangeShapes Go.WideShapes
set_option linter.unusedVariables false
set_option linter.unusedSimpArgs false
structure Hd (w w1 : World) (pb : Nat) (s : PS) : Prop where
 st : Stp w w1 pb s
 bx : Bx w1 w.heap.size zx 30
 sz : w1.heap.size = w.heap.size + 1
 hp : pb < w.heap.size
theorem Hd.mk' {w : World} {pb : Nat} {s : PS} (h : PsM w pb s) : Hd w (w.alloc (.cells zx 30)) pb s :=
 ⟨(Stp.refl h).alloc _, Bx.new _ _ _, by simp, h.lt⟩
theorem Hd.box {w w1 w2 : World} {pb : Nat} {s s' : PS} (h : Hd w w1 pb s) (h2 : Stp w1 w2 pb s') : Bx w2 w.heap.size zx 30 := h.bx.frm h2.fr (show ¬ w.heap.size = pb by have := h.hp; omega)
theorem Hd.fin {w w1 w2 : World} {pb : Nat} {s s' : PS} (h : Hd w w1 pb s) (h2 : Stp w1 w2 pb s') (x : XE) (hm : XE.Mem (GE w1.heap.size) w2 x) :
  Bx (st7 w2 w.heap.size x) w.heap.size x.encA 30 ∧ EndP w pb (RX1 w.heap.size) (.ok (x.er, s')) (.returned x.val) (st7 w2 w.heap.size x) := by
 have hS := (h.st.trans h2).st7 (Nat.le_refl _) h.hp x
 refine ⟨st7_box (h.box h2) x, hS.fr, _, rfl, ⟨x, rfl, rfl, ?_⟩, hS.ps⟩
 have f7 : Frm (fun k => k = w.heap.size) w2 (Go.Proofs.YtofnkfjhmjecjaaGreatDoor.st7 w2 w.heap.size x) := st7_frm (F := fun k => k = w.heap.size) (Frm.refl _ _) (.inl rfl) _
 have hsz := h.sz
 exact XE.Mem.mono (fun k hk => by have : w1.heap.size ≤ k := hk; show w.heap.size ≤ k; omega) x (XE.Mem.frm f7 (fun k hk e => by have : w1.heap.size ≤ k := hk; omega) x hm)
theorem Hd.err {α : Type} {w w1 w2 : World} {pb : Nat} {s : PS} {R : World → Value → α → Prop} (h : Hd w w1 pb s) (f : Frm (PF pb) w1 w2) (c : Nat) : EndP w pb R (.error c) (PPan (c : Int)) w2 := ⟨h.st.fr.trans f (New.refl _ _), rfl⟩
theorem chain_q {g n lvl pb : Nat} (hg : PX g n (lvl + 1) pb) (henter : ∀ args w, (callFunc g args).run Tryz.prog w = .ok (.enter g args) w) {w : World} {s : PS} (h : PsM w pb s) {r : Except Nat (Ex × PS)}
  (hr : (bindR (px isN n (lvl + 1) s) fun e s1 => pc isN n lvl e s1) = some r) {m : Nat} (hm : m = (opsP lvl).length) {cs : Array Value} (hcs : cs = (okk.cells (opB (opsP lvl))).toArray) :
  Calls Tryz.prog 193 #[.pointer (some ⟨pb, 0, none⟩), .func (.func g) #[.pointer (some ⟨pb, 0, none⟩)] #[], .slice (some ⟨w.heap.size, 0, none⟩) m m] (w.alloc (.cells cs 193)) (EndP w pb (RX1 w.heap.size) r) := by
 subst hm hcs
 have b1 : Below w.heap.size w (w.alloc (.cells (okk.cells (opB (opsP lvl))).toArray 193)) := (Below.refl _ _).alloc (Nat.le_refl _) _
 have hb := Bx.new w (okk.cells (opB (opsP lvl))).toArray 193
 refine (chain_p hg henter (h.below b1) hr w.heap.size h.lt hb.lt (fun j u hj => hb.cell (by simpa using hj))).mono ?_
 rintro e w' ⟨f, h1⟩
 refine ⟨((Frm.refl _ w).step b1).trans f (New.refl _ _), ?_⟩
 match r, h1 with
 | .error c, h1 => exact h1
 | .ok (a, s'), ⟨v, e1, ⟨x, e2, e3, e4⟩, e5⟩ => exact ⟨v, e1, ⟨x, e2, e3, XE.Mem.mono (fun k hk => Nat.le_trans b1.size hk) x e4⟩, e5⟩
theorem cells0 : (#[.string ⟨#[111, 114]⟩, .int .i64 18] : Array Value) = (okk.cells (opB (opsP 0))).toArray := by rfl
set_option maxHeartbeats 2000000 in
theorem expr_p {n pb : Nat} (hg : PX 194 n 1 pb) : PX 173 (n + 1) 0 pb := by
 intro w s r h hr
 have hr' : (bindR (px isN n 1 s) fun e s1 => pc isN n 0 e s1) = some r := by
  rw [px] at hr <;> first | exact hr | (intros; omega)
 have hent : ∀ args w, (callFunc 194 args).run Tryz.prog w = .ok (.enter 194 args) w := enters_of Tryz.func194 (by kernel_rfl) rfl
 generalize hP : EndP w pb (RX1 w.heap.size) r = P
 have H1 := Hd.mk' h
 obtain ⟨w1, hw1⟩ : ∃ w1, w.alloc (.cells zx 30) = w1 := ⟨_, rfl⟩
 rw [hw1] at H1
 have HC := Lib.hid (chain_q hg hent H1.st.ps hr' (m := 1) rfl cells0)
 have HH := Lib.hid H1
 have HP := Lib.hid hP
 unfold zx at hw1
 clear hr hr' hg h H1 hP
 match r, HC, HP with
 | .error c, HC, HP =>
  go_enter Tryz.func173, Tryz.ntmps173
  go_wp2_with (first | (go_at_call 193; refine HC.out.mono ?_; rintro e w2 ⟨f2, rfl⟩; have F2 := Lib.hid f2; clear f2))
  exact ⟨rfl, by rw [← HP.out]; exact HH.out.err F2.out c⟩
 | .ok (ex, s2), HC, HP =>
  go_enter Tryz.func173, Tryz.ntmps173
  go_wp2_with (first | (go_at_call 193; refine HC.out.mono ?_; rintro e w2 ⟨f2, v, rfl, ⟨x, rfl, rfl, m2⟩, p2⟩; obtain ⟨⟨x0, x1, x2, x3, x4, x5, x6⟩, z0, z1, z2, z3, z4, z5, z6⟩ := (HH.out.box ⟨f2, p2⟩).seven; have HF := Lib.hid (HH.out.fin ⟨f2, p2⟩ x m2); clear f2 p2 m2; obtain ⟨op, kind, num, scale, text, qual, a, cap, args⟩ := x; unfold XE.val))
  exact ex_ret Tryz.results173 HF.out.1 rfl rfl (by rw [← HP.out]; exact HF.out.2)
theorem cells1 : (#[.string ⟨#[97, 110, 100]⟩, .int .i64 17] : Array Value) = (okk.cells (opB (opsP 1))).toArray := by rfl
set_option maxHeartbeats 2000000 in
theorem both_p {n pb : Nat} (hg : PX 211 n 2 pb) : PX 194 (n + 1) 1 pb := by
 intro w s r h hr
 have hr' : (bindR (px isN n 2 s) fun e s1 => pc isN n 1 e s1) = some r := by
  rw [px] at hr <;> first | exact hr | (intros; omega)
 have hent : ∀ args w, (callFunc 211 args).run Tryz.prog w = .ok (.enter 211 args) w := enters_of Tryz.func211 (by kernel_rfl) rfl
 generalize hP : EndP w pb (RX1 w.heap.size) r = P
 have H1 := Hd.mk' h
 obtain ⟨w1, hw1⟩ : ∃ w1, w.alloc (.cells zx 30) = w1 := ⟨_, rfl⟩
 rw [hw1] at H1
 have HC := Lib.hid (chain_q hg hent H1.st.ps hr' (m := 1) rfl cells1)
 have HH := Lib.hid H1
 have HP := Lib.hid hP
 unfold zx at hw1
 clear hr hr' hg h H1 hP
 match r, HC, HP with
 | .error c, HC, HP =>
  go_enter Tryz.func194, Tryz.ntmps194
  go_wp2_with (first | (go_at_call 193; refine HC.out.mono ?_; rintro e w2 ⟨f2, rfl⟩; have F2 := Lib.hid f2; clear f2))
  exact ⟨rfl, by rw [← HP.out]; exact HH.out.err F2.out c⟩
 | .ok (ex, s2), HC, HP =>
  go_enter Tryz.func194, Tryz.ntmps194
  go_wp2_with (first | (go_at_call 193; refine HC.out.mono ?_; rintro e w2 ⟨f2, v, rfl, ⟨x, rfl, rfl, m2⟩, p2⟩; obtain ⟨⟨x0, x1, x2, x3, x4, x5, x6⟩, z0, z1, z2, z3, z4, z5, z6⟩ := (HH.out.box ⟨f2, p2⟩).seven; have HF := Lib.hid (HH.out.fin ⟨f2, p2⟩ x m2); clear f2 p2 m2; obtain ⟨op, kind, num, scale, text, qual, a, cap, args⟩ := x; unfold XE.val))
  exact ex_ret Tryz.results194 HF.out.1 rfl rfl (by rw [← HP.out]; exact HF.out.2)
theorem cells4 : (#[.string ⟨#[43]⟩, .int .i64 7, .string ⟨#[45]⟩, .int .i64 8, .string ⟨#[124, 124]⟩, .int .i64 12] : Array Value) = (okk.cells (opB (opsP 4))).toArray := by rfl
set_option maxHeartbeats 2000000 in
theorem sum_p {n pb : Nat} (hg : PX 253 n 5 pb) : PX 239 (n + 1) 4 pb := by
 intro w s r h hr
 have hr' : (bindR (px isN n 5 s) fun e s1 => pc isN n 4 e s1) = some r := by
  rw [px] at hr <;> first | exact hr | (intros; omega)
 have hent : ∀ args w, (callFunc 253 args).run Tryz.prog w = .ok (.enter 253 args) w := enters_of Tryz.func253 (by kernel_rfl) rfl
 generalize hP : EndP w pb (RX1 w.heap.size) r = P
 have H1 := Hd.mk' h
 obtain ⟨w1, hw1⟩ : ∃ w1, w.alloc (.cells zx 30) = w1 := ⟨_, rfl⟩
 rw [hw1] at H1
 have HC := Lib.hid (chain_q hg hent H1.st.ps hr' (m := 3) rfl cells4)
 have HH := Lib.hid H1
 have HP := Lib.hid hP
 unfold zx at hw1
 clear hr hr' hg h H1 hP
 match r, HC, HP with
 | .error c, HC, HP =>
  go_enter Tryz.func239, Tryz.ntmps239
  go_wp2_with (first | (go_at_call 193; refine HC.out.mono ?_; rintro e w2 ⟨f2, rfl⟩; have F2 := Lib.hid f2; clear f2))
  exact ⟨rfl, by rw [← HP.out]; exact HH.out.err F2.out c⟩
 | .ok (ex, s2), HC, HP =>
  go_enter Tryz.func239, Tryz.ntmps239
  go_wp2_with (first | (go_at_call 193; refine HC.out.mono ?_; rintro e w2 ⟨f2, v, rfl, ⟨x, rfl, rfl, m2⟩, p2⟩; obtain ⟨⟨x0, x1, x2, x3, x4, x5, x6⟩, z0, z1, z2, z3, z4, z5, z6⟩ := (HH.out.box ⟨f2, p2⟩).seven; have HF := Lib.hid (HH.out.fin ⟨f2, p2⟩ x m2); clear f2 p2 m2; obtain ⟨op, kind, num, scale, text, qual, a, cap, args⟩ := x; unfold XE.val))
  exact ex_ret Tryz.results239 HF.out.1 rfl rfl (by rw [← HP.out]; exact HF.out.2)
theorem cells5 : (#[.string ⟨#[42]⟩, .int .i64 9, .string ⟨#[47]⟩, .int .i64 10, .string ⟨#[37]⟩, .int .i64 11] : Array Value) = (okk.cells (opB (opsP 5))).toArray := by rfl
set_option maxHeartbeats 2000000 in
theorem term_p {n pb : Nat} (hg : PX 259 n 6 pb) : PX 253 (n + 1) 5 pb := by
 intro w s r h hr
 have hr' : (bindR (px isN n 6 s) fun e s1 => pc isN n 5 e s1) = some r := by
  rw [px] at hr <;> first | exact hr | (intros; omega)
 have hent : ∀ args w, (callFunc 259 args).run Tryz.prog w = .ok (.enter 259 args) w := enters_of Tryz.func259 (by kernel_rfl) rfl
 generalize hP : EndP w pb (RX1 w.heap.size) r = P
 have H1 := Hd.mk' h
 obtain ⟨w1, hw1⟩ : ∃ w1, w.alloc (.cells zx 30) = w1 := ⟨_, rfl⟩
 rw [hw1] at H1
 have HC := Lib.hid (chain_q hg hent H1.st.ps hr' (m := 3) rfl cells5)
 have HH := Lib.hid H1
 have HP := Lib.hid hP
 unfold zx at hw1
 clear hr hr' hg h H1 hP
 match r, HC, HP with
 | .error c, HC, HP =>
  go_enter Tryz.func253, Tryz.ntmps253
  go_wp2_with (first | (go_at_call 193; refine HC.out.mono ?_; rintro e w2 ⟨f2, rfl⟩; have F2 := Lib.hid f2; clear f2))
  exact ⟨rfl, by rw [← HP.out]; exact HH.out.err F2.out c⟩
 | .ok (ex, s2), HC, HP =>
  go_enter Tryz.func253, Tryz.ntmps253
  go_wp2_with (first | (go_at_call 193; refine HC.out.mono ?_; rintro e w2 ⟨f2, v, rfl, ⟨x, rfl, rfl, m2⟩, p2⟩; obtain ⟨⟨x0, x1, x2, x3, x4, x5, x6⟩, z0, z1, z2, z3, z4, z5, z6⟩ := (HH.out.box ⟨f2, p2⟩).seven; have HF := Lib.hid (HH.out.fin ⟨f2, p2⟩ x m2); clear f2 p2 m2; obtain ⟨op, kind, num, scale, text, qual, a, cap, args⟩ := x; unfold XE.val))
  exact ex_ret Tryz.results253 HF.out.1 rfl rfl (by rw [← HP.out]; exact HF.out.2)
end Go.Proofs.YtofnkfjhmjecjaaGreatDoor
