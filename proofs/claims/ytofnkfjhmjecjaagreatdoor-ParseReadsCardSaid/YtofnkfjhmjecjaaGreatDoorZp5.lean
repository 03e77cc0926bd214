/-
  Texts of mine put together, in build order.
  Conditions: as each declaration says.
-/
import Derived.Test.YtofnkfjhmjecjaaGreatDoorZp4
namespace Go.Proofs.YtofnkfjhmjecjaaGreatDoor
set_option maxRecDepth 100000
open Go.RowKit Go.Joins Go.ChangeShapes Go.WideShapes
set_option linter.unusedVariables false
set_option linter.unusedSimpArgs false
theorem strB_len (l : List Nat) : (strB l).size = l.length := by unfold strB; rw [strOfNums_size, List.length_map]
def ErrR (w : World) : Prop := ∃ ev, w.cell? ⟨3, 0, none⟩ = some ev ∧ (ev = .nilIface ∨ ∃ te pe, ev = .iface te pe)
theorem ErrR.lt {w : World} (h : ErrR w) : 3 < w.heap.size := by
 obtain ⟨ev, h, _⟩ := h
 exact Lib.lt_of_cell h
theorem ErrR.below {w w1 : World} (h : ErrR w) (hb : Below w.heap.size w w1) : ErrR w1 := by
 have hl := h.lt
 obtain ⟨ev, h1, h2⟩ := h
 exact ⟨ev, (hb.cell (p := ⟨3, 0, none⟩) hl).trans h1, h2⟩
theorem ErrR.frm {F : Bl} {w w1 : World} (h : ErrR w) (hb : Frm F w w1) (hf : ¬ F 3) : ErrR w1 := by
 have hl := h.lt
 obtain ⟨ev, h1, h2⟩ := h
 exact ⟨ev, (hb.cell hl hf 0).trans h1, h2⟩
theorem parse_b {l : List Nat} (hd : ∀ x ∈ l, dgL x = true) (h0 : 0 < l.length) (hl : l.length ≤ 8589934592) {w : World} (hE : ErrR w) :
  Calls Tryz.prog 163 #[.string (strB l), .int .i64 10, .int .i64 64] w fun e w' => Below w.heap.size w w' ∧ ∃ n ev, e = .returned (.tuple #[.int .i64 n, ev]) ∧
   ((decL l ≤ 9223372036854775807 ∧ n = (decL l : Int) ∧ ev = .nilIface) ∨ (9223372036854775807 < decL l ∧ ∃ t p, ev = .iface t p)) := by
 have hp := parse_dec l hd h0
 rw [← strB_data] at hp
 by_cases c : 9223372036854775807 < decL l
 ·rw [if_pos c] at hp
  obtain ⟨ev, h1, h2⟩ := hE
  refine (Go.Proofs.Any.strconv_ParseInt_10_at64_range piLays (strB l) (by rw [strB_len]; omega) hp ev w h1 h2).mono ?_
  rintro e w' ⟨N, rfl, _, _, hb⟩
  exact ⟨hb, _, _, rfl, .inr ⟨c, _, _, rfl⟩⟩
 ·rw [if_neg c] at hp
  refine (Go.Proofs.Any.strconv_ParseInt_10_at64_ok piLays (strB l) (by rw [strB_len]; omega) _ hp w).mono ?_
  rintro e w' ⟨rfl, hb⟩
  refine ⟨?_, _, _, rfl, .inl ⟨by omega, rfl, rfl⟩⟩
  rcases hb with rfl | ⟨t, rfl⟩
  ·exact Below.refl _ _
  ·exact Lib.bytesWorld_below _ _ _
def numE (l : List Nat) : Except Nat (Tk × Nat) :=
  if fracL (l.drop (runL dgL l)) then
    (if runL dgL l + runL dgL (l.drop (runL dgL l + 1)) > 15 then .error 11
     else .ok (⟨3, [], decL (l.take (runL dgL l) ++ (l.drop (runL dgL l + 1)).take (runL dgL (l.drop (runL dgL l + 1)))), runL dgL (l.drop (runL dgL l + 1))⟩, runL dgL l + 1 + runL dgL (l.drop (runL dgL l + 1))))
  else (if runL dgL l > 19 ∨ 9223372036854775807 < decL (l.take (runL dgL l)) then .error 11 else .ok (⟨2, [], decL (l.take (runL dgL l)), 0⟩, runL dgL l))
abbrev TBox (w : World) (g : Nat) (k n sc : Int) (s : ByteArray) : Prop := w.heap[g]? = some (.cells #[.int .i64 k, .string s, .int .i64 n, .int .i64 sc] 84 (0, 0))
theorem TBox.cells {w : World} {g : Nat} {k n sc : Int} {s : ByteArray} (h : TBox w g k n sc s) : (w.cell? ⟨g, 0, none⟩ = some (.int .i64 k) ∧ w.cell? ⟨g, 1, none⟩ = some (.string s) ∧ w.cell? ⟨g, 2, none⟩ = some (.int .i64 n) ∧ w.cell? ⟨g, 3, none⟩ = some (.int .i64 sc)) ∧
  w.frozen? ⟨g, 0, none⟩ = false ∧ w.frozen? ⟨g, 1, none⟩ = false ∧ w.frozen? ⟨g, 2, none⟩ = false ∧ w.frozen? ⟨g, 3, none⟩ = false := by
 refine ⟨⟨?_, ?_, ?_, ?_⟩, unfrozen_of_block h 0, unfrozen_of_block h 1, unfrozen_of_block h 2, unfrozen_of_block h 3⟩ <;> rw [cell_of_block h] <;> rfl
theorem TBox.lt {w : World} {g : Nat} {k n sc : Int} {s : ByteArray} (h : TBox w g k n sc s) : g < w.heap.size := (Array.getElem?_eq_some_iff.1 h).1
theorem TBox.below {w w1 : World} {g : Nat} {k n sc : Int} {s : ByteArray} (h : TBox w g k n sc s) (hb : Below w.heap.size w w1) : TBox w1 g k n sc s := (hb.block _ h.lt).trans h
theorem TBox.frm {F : Bl} {w w1 : World} {g : Nat} {k n sc : Int} {s : ByteArray} (h : TBox w g k n sc s) (hb : Frm F w w1) (hf : ¬ F g) : TBox w1 g k n sc s := (hb.heap h.lt hf).trans h
end Go.Proofs.YtofnkfjhmjecjaaGreatDoor

namespace Go.Proofs.YtofnkfjhmjecjaaGreatDoor
set_option maxRecDepth 100000
open Go.RowKit Go.Joins Go.ChangeShapes Go.WideShapes
set_option linter.unusedVariables false
set_option linter.unusedSimpArgs false
set_option maxHeartbeats 2000000 in
theorem number_any {w : World} {rd b off cap : Nat} {c : Nat} {r : List Nat} (h : Rd w rd b off cap (c :: r)) (hdg : dgL c = true) (hE : ErrR w) (hrE : 3 ≠ rd) :
  Calls Tryz.prog 99 #[.pointer (some ⟨rd, 0, none⟩)] w (TokP (numE (c :: r)) w rd b (c :: r)) := by
 have hq0 : 0 < runL dgL (c :: r) := by rw [runL_cons, if_pos hdg]; omega
 have hne : (c :: r) ≠ [] := by simp
 have hin := runL_in (f := dgL) (c :: r)
 have hkl := runL_le dgL (c :: r)
 generalize (c :: r) = l at *
 have b1 : Below w.heap.size w (w.alloc (.cells #[.int .i64 0, .string ⟨#[]⟩, .int .i64 0, .int .i64 0] 84)) := (Below.refl _ _).alloc (Nat.le_refl _) _
 have h1 := h.below b1
 have hbl : b < w.heap.size := h.is.hb (List.length_pos_iff.2 hne)
 have hrd : rd < w.heap.size := (Array.getElem?_eq_some_iff.1 h.hd).1
 have hle32 := h.ln
 have HT := Lib.hid (pass_any digit_any (enters_of Tryz.func98 (by kernel_rfl) rfl) h1)
 have HI := Lib.hid h1.is
 have HB := Lib.hid (show ¬ b = rd from fun e => h.ne e.symm)
 have HE := Lib.hid (hE.below b1)
 have hE0 := Lib.hid hE.lt
 have HBel := Lib.hid b1
 have hnew : TBox (w.alloc (.cells #[.int .i64 0, .string ⟨#[]⟩, .int .i64 0, .int .i64 0] 84)) w.heap.size 0 0 0 ⟨#[]⟩ := heap_alloc_new w (.cells #[.int .i64 0, .string ⟨#[]⟩, .int .i64 0, .int .i64 0] 84)
 have HN := Lib.hid hnew
 obtain ⟨W1, hW1⟩ : ∃ W1, w.alloc (.cells #[.int .i64 0, .string ⟨#[]⟩, .int .i64 0, .int .i64 0] 84) = W1 := ⟨_, rfl⟩
 rw [hW1] at HT HI HE HBel HN
 clear h h1 b1 hnew hE
 unfold numE
 have HIN := Lib.hid hin
 clear hin
 generalize hq : runL dgL l = q at *
 have HQ := Lib.hid hq
 clear hq
 generalize hP : TokP _ w rd b l = P
 have HP := Lib.hid hP
 clear hP
 go_enter Tryz.func99, Tryz.ntmps99
 go_wp2_with fail
 try go_at_call 35
 refine HT.out.mono ?_
 rintro e w2 ⟨rfl, off2, cap2, r2, f2⟩
 have R2 := Lib.hid r2
 have F2 := Lib.hid f2
 clear r2 f2
 go_wp2_with fail
 have bA : Below w2.heap.size w2 (w2.alloc (.cells #[.int .i64 2, .string ⟨#[]⟩, .int .i64 0, .int .i64 0] 84)) := (Below.refl _ _).alloc (Nat.le_refl _) _
 have nA : TBox (w2.alloc (.cells #[.int .i64 2, .string ⟨#[]⟩, .int .i64 0, .int .i64 0] 84)) w2.heap.size 2 0 0 ⟨#[]⟩ := heap_alloc_new w2 (.cells #[.int .i64 2, .string ⟨#[]⟩, .int .i64 0, .int .i64 0] 84)
 have HBA := Lib.hid (And.intro bA nA)
 have HG1 : Hid (w.heap.size < w2.heap.size) := Lib.hid (Nat.lt_of_lt_of_le (by rw [← hW1]; simp) F2.out.size)
 have HFR := Lib.hid (frac_any (R2.out.below bA))
 have HN2 := Lib.hid ((HN.out.frm F2.out (by omega)).below bA)
 have HE2 := Lib.hid ((HE.out.frm F2.out hrE).below bA)
 have HR3 := Lib.hid (R2.out.below bA)
 have HF3 := Lib.hid (((Frm.of_below (F := fun k => k = rd) HBel.out).trans F2.out (New.refl _ _)).step bA)
 have HI3 := Lib.hid ((F2.out.isB HI.out (fun _ => HB.out)).below bA)
 clear bA nA
 cases hfr : fracL (l.drop q) with
 | false =>
  rw [hfr] at HFR HP
  have hP1 := HP.out
  rw [if_neg (by decide)] at hP1
  obtain ⟨D, hD⟩ : ∃ D, l.take q = D := ⟨_, rfl⟩
  have hDl : D.length = q := by rw [← hD, List.length_take]; omega
  have HDD : Hid (∀ x ∈ D, dgL x = true) := Lib.hid (by rw [← hD]; exact HIN.out)
  obtain ⟨g1, hg1⟩ : ∃ g1, w2.heap.size = g1 := ⟨_, rfl⟩
  rw [hg1] at HG1 HBA
  rw [hD] at hP1
  go_wp2_with fail
  try go_at_call 161
  refine HFR.out.mono ?_
  rintro e wx ⟨rfl, rfl⟩
  try rw [hg1]
  generalize w2.alloc (.cells #[.int .i64 2, .string ⟨#[]⟩, .int .i64 0, .int .i64 0] 84) = wx at *
  obtain ⟨n, hn⟩ : ∃ n, n = q := ⟨_, rfl⟩
  subst hn
  obtain ⟨cp, hcp⟩ : ∃ cp, cp = cap := ⟨_, rfl⟩
  subst hcp
  obtain ⟨M, hM⟩ : ∃ M : Nat, M = 19 := ⟨_, rfl⟩
  have HD : Hid (IsB wx b off D) := Lib.hid (by rw [← hD]; exact HI3.out.take _)
  have HEx := HE2
  have HN0 := HN2
  have HN1 := Lib.hid HBA.out.2
  have RX := HR3
  have FX := HF3
  have HGG : Hid (¬ w.heap.size = g1) := Lib.hid (by have := HG1.out; omega)
  have HEr : Hid (M < n ∨ 9223372036854775807 < decL D → ∀ wz, Frm (fun k => k = rd) w wz → P (.returned (.tuple #[Tkv 0 ⟨#[]⟩ 0 0, .int .i64 11])) wz) := Lib.hid (by
   intro hc wz hf
   rw [if_pos (by omega)] at hP1
   rw [← hP1]
   exact ⟨rfl, hf⟩)
  have HOk : Hid (n ≤ M ∧ decL D ≤ 9223372036854775807 → ∀ wz off' cap', Rd wz rd b off' cap' (l.drop n) → Frm (fun k => k = rd) w wz → P (.returned (.tuple #[Tkv 2 ⟨#[]⟩ (decL D : Int) 0, .int .i64 0])) wz) := Lib.hid (by
   intro hc wz o c hr hf
   rw [if_neg (by omega)] at hP1
   rw [← hP1]
   exact ⟨rfl, o, c, hr, hf⟩)
  rw [show ((19 : Int)) = (M : Int) by rw [hM]; rfl]
  clear HP hP1 HFR HBA HN2 HE2 HR3 HF3 hg1

  have hcv := str_b HD.out n cp (by omega)
  have hPI := parse_b HDD.out (by omega) (by omega) HEx.out
  have hDn : D.take n = D := List.take_of_length_le (by omega)
  rw [hDn] at hcv
  generalize strB D = S at hcv hPI
  have HPI := Lib.hid hPI
  clear hPI hDn
  go_wp2_with fail
  try go_at_call 163
  refine HPI.out.mono ?_
  rintro e wy ⟨by_, v, ev, rfl, hv⟩
  have N0 := HN0.out.below by_
  have N1 := HN1.out.below by_
  obtain ⟨⟨e0, e1, e2, e3⟩, f0, f1, f4, f3⟩ := N0.cells
  obtain ⟨⟨x0, x1, x2, x3⟩, y0, y1, y2, y3⟩ := N1.cells
  have hgg : ¬ w.heap.size = g1 := HGG.out
  have hgg' : ¬ g1 = w.heap.size := fun e => HGG.out e.symm
  have RY := Lib.hid (RX.out.below by_)
  have FY := Lib.hid (FX.out.step by_)
  have N0H := Lib.hid N0
  clear by_ N0 N1
  rcases hv with ⟨hv1, rfl, rfl⟩ | ⟨hv1, t, p, rfl⟩
  ·by_cases hm : n ≤ M
   ·have k1 : decide ((M : Int) < (n : Int)) = false := by simp; omega
    have HF := HOk.out ⟨hm, hv1⟩
    have HX := Lib.hid (show P (.returned (.tuple #[Tkv 2 ⟨#[]⟩ (decL D : Int) 0, .int .i64 0])) (((((wy.setCell ⟨g1, 2, none⟩ (.int .i64 (decL D : Int))).setCell ⟨w.heap.size, 0, none⟩ (.int .i64 2)).setCell ⟨w.heap.size, 1, none⟩ (.string ⟨#[]⟩)).setCell ⟨w.heap.size, 2, none⟩ (.int .i64 (decL D : Int))).setCell ⟨w.heap.size, 3, none⟩ (.int .i64 0)) by
     have f5 := FY.out.setCell (.inr (Nat.le_of_lt HG1.out)) 2 (.int .i64 (decL D : Int))
     have r5 := RY.out.frm (F := fun k => k = g1) (Frm.set1 wy (F := fun k => k = g1) rfl 2 (.int .i64 (decL D : Int))) (by have := HG1.out; show ¬ rd = g1; omega) (by have := HG1.out; show ¬ b = g1; omega)
     obtain ⟨a1, a2⟩ := Rd.boxed f5 r5 hrd hbl (.int .i64 2) (.string ⟨#[]⟩) (.int .i64 (decL D : Int)) (.int .i64 0)
     exact HF _ _ _ a1 a2)
    have hbx : TBox (wy.setCell ⟨g1, 2, none⟩ (.int .i64 (decL D : Int))) w.heap.size 0 0 0 ⟨#[]⟩ := N0H.out.frm (F := fun k => k = g1) (Frm.set1 wy (F := fun k => k = g1) rfl 2 _) HGG.out
    generalize decL D = V at *
    go_wp2_with fail
    exact tok_ret Tryz.results99 (box_four hbx _ _ _ _) rfl rfl rfl HX.out
   ·have k1 : decide ((M : Int) < (n : Int)) = true := by simp; omega
    have HX := Lib.hid (show P (.returned (.tuple #[Tkv 0 ⟨#[]⟩ 0 0, .int .i64 11])) ((((wy.setCell ⟨w.heap.size, 0, none⟩ (.int .i64 0)).setCell ⟨w.heap.size, 1, none⟩ (.string ⟨#[]⟩)).setCell ⟨w.heap.size, 2, none⟩ (.int .i64 0)).setCell ⟨w.heap.size, 3, none⟩ (.int .i64 0)) by
     obtain ⟨_, a2⟩ := Rd.boxed FY.out RY.out hrd hbl (.int .i64 0) (.string ⟨#[]⟩) (.int .i64 0) (.int .i64 0)
     exact HEr.out (.inl (by omega)) _ a2)
    generalize decL D = V at *
    go_wp2_with fail
    exact tok_ret Tryz.results99 (box_four N0H.out _ _ _ _) rfl rfl rfl HX.out
  ·have HX := Lib.hid (show P (.returned (.tuple #[Tkv 0 ⟨#[]⟩ 0 0, .int .i64 11])) ((((wy.setCell ⟨w.heap.size, 0, none⟩ (.int .i64 0)).setCell ⟨w.heap.size, 1, none⟩ (.string ⟨#[]⟩)).setCell ⟨w.heap.size, 2, none⟩ (.int .i64 0)).setCell ⟨w.heap.size, 3, none⟩ (.int .i64 0)) by
    obtain ⟨_, a2⟩ := Rd.boxed FY.out RY.out hrd hbl (.int .i64 0) (.string ⟨#[]⟩) (.int .i64 0) (.int .i64 0)
    exact HEr.out (.inr hv1) _ a2)
   go_wp2_with fail
   exact tok_ret Tryz.results99 (box_four N0H.out _ _ _ _) rfl rfl rfl HX.out
 | true =>
  rw [hfr] at HFR HP
  have hP1 := HP.out
  rw [if_pos rfl] at hP1
  have hl2 : 1 ≤ (l.drop q).length := by
   cases e : l.drop q with
   | nil => rw [e] at hfr; cases hfr
   | cons a b => simp
  have hfin := runL_in (f := dgL) (l.drop (q + 1))
  have hfle := runL_le dgL (l.drop (q + 1))
  have HT4 := Lib.hid (take_any HR3.out 1 hl2)
  have hlen4 : (l.drop (q + 1)).length ≤ 4294967296 := by rw [List.length_drop]; omega
  obtain ⟨g1, hg1⟩ : ∃ g1, w2.heap.size = g1 := ⟨_, rfl⟩
  rw [hg1] at HG1 HBA
  have hdd : (l.drop q).drop 1 = l.drop (q + 1) := List.drop_drop
  go_wp2_with fail
  try go_at_call 161
  refine HFR.out.mono ?_
  rintro e wx ⟨rfl, rfl⟩
  try rw [hg1]
  generalize w2.alloc (.cells #[.int .i64 2, .string ⟨#[]⟩, .int .i64 0, .int .i64 0] 84) = wx at *
  go_wp2_with fail
  try go_at_call 94
  refine HT4.out.mono ?_
  rintro e w4 ⟨rfl, off4, cap4, r4, f4⟩
  rw [hdd] at r4
  have HF4 := Lib.hid f4
  have HI4 := Lib.hid r4.is
  have HT5 := Lib.hid (pass_any digit_any (enters_of Tryz.func98 (by kernel_rfl) rfl) r4)
  have hc4 := r4.cp
  clear r4 f4
  generalize hf : runL dgL (l.drop (q + 1)) = f at *
  go_wp2_with fail
  try go_at_call 35
  refine HT5.out.mono ?_
  rintro e w5 ⟨rfl, off5, cap5, r5, f5⟩
  rw [List.drop_drop] at r5
  have HF5 := Lib.hid f5
  have HR5 := Lib.hid r5
  have HN5 := Lib.hid ((HN2.out.frm HF4.out (by omega)).frm f5 (by omega))
  have hg1r : ¬ g1 = rd := by have := HG1.out; omega
  have N5 := (HBA.out.2.frm HF4.out hg1r).frm f5 hg1r
  obtain ⟨⟨x0, x1, x2, x3⟩, y0, y1, y2, y3⟩ := N5.cells
  have HN1' := Lib.hid N5
  have HL := Lib.hid (And.intro (HI3.out.take q) (HI4.out.take f))
  clear r5 f5 N5
  obtain ⟨w6, hw6⟩ : ∃ w6, (((w5.setCell ⟨g1, 0, none⟩ (.int .i64 3)).setCell ⟨g1, 1, none⟩ (.string ⟨#[]⟩)).setCell ⟨g1, 2, none⟩ (.int .i64 0)).setCell ⟨g1, 3, none⟩ (.int .i64 f) = w6 := ⟨_, rfl⟩
  go_wp2_with fail
  have hg1b : ¬ g1 = b := by have := HG1.out; omega
  have F6 : Frm (fun k => k = g1) w5 w6 := by
   rw [← hw6]
   exact ((((Frm.refl (fun k => k = g1) w5).setCell (.inl rfl) 0 _).setCell (.inl rfl) 1 _).setCell (.inl rfl) 2 _).setCell (.inl rfl) 3 _
  have N6 : TBox w6 g1 3 0 (f : Int) ⟨#[]⟩ := by
   rw [← hw6]
   exact box_four HN1'.out _ _ _ _
  have I6 := F6.isB (HF5.out.isB (HF4.out.isB HL.out.1 (fun _ => HB.out)) (fun _ => HB.out)) (fun _ e => hg1b e.symm)
  have J6 := F6.isB (HF5.out.isB HL.out.2 (fun _ => HB.out)) (fun _ e => hg1b e.symm)
  have E6 : ErrR w6 := by
   refine (((HE2.out.frm HF4.out hrE).frm HF5.out hrE)).frm F6 ?_
   have := hE0.out
   have := HG1.out
   show ¬ _ = g1
   omega
  have Z6 := HN5.out.frm F6 (by have := HG1.out; omega)
  have R6 := HR5.out.frm F6 (by have := HG1.out; omega) (by omega)
  have FF6 : Frm (fun k => k = rd) w w6 := ((HF3.out.trans HF4.out (New.refl _ _)).trans HF5.out (New.refl _ _)).trans F6 (fun k hk => .inr (by have := HG1.out; omega))
  have bB : Below w6.heap.size w6 (w6.alloc (.cells #[.slice (some ⟨b, off, none⟩) q cap, .slice (some ⟨b, off4, none⟩) f cap4] 78)) := (Below.refl _ _).alloc (Nat.le_refl _) _
  have nB := heap_alloc_new w6 (.cells #[.slice (some ⟨b, off, none⟩) q cap, .slice (some ⟨b, off4, none⟩) f cap4] 78)
  have hlq : (l.take q).length = q := by rw [List.length_take]; omega
  have hlf : ((l.drop (q + 1)).take f).length = f := by rw [List.length_take]; omega
  have HC := Lib.hid (concat_b (c := cap) (c2 := cap4) (by rw [cell_of_block nB, hlq]; rfl) (by rw [cell_of_block nB, hlf]; rfl) (I6.below bB) (J6.below bB) (by omega) (by omega) (by omega))
  have H6 := Lib.hid (And.intro (N6.below bB) (And.intro (E6.below bB) (And.intro (Z6.below bB) (And.intro (R6.below bB) (FF6.step bB)))))
  clear F6 N6 I6 J6 E6 Z6 R6 FF6 bB nB hw6 x0 x1 x2 x3 y0 y1 y2 y3
  obtain ⟨D, hD⟩ : ∃ D, l.take q ++ (l.drop (q + 1)).take f = D := ⟨_, rfl⟩
  have hDl : D.length = q + f := by rw [← hD, List.length_append, hlq, hlf]
  have HDD : Hid (∀ x ∈ D, dgL x = true) := Lib.hid (by
   intro x hx
   rw [← hD] at hx
   rcases List.mem_append.1 hx with g | g
   ·exact HIN.out x g
   ·exact hfin x g)
  have hD15 : Hid (q + f ≤ 15 → decL D ≤ 9223372036854775807) := Lib.hid (by
   intro h15
   have h1 := decL_lt D HDD.out
   have h2 := Nat.lt_of_lt_of_le h1 (Nat.pow_le_pow_right (by omega : 0 < 10) (show D.length ≤ 15 by omega))
   generalize decL D = V at h2
   omega)
  rw [hD] at hP1 HC
  try go_at_call 162
  refine HC.out.mono ?_
  rintro e w8 ⟨v8, rfl, o8, b8⟩
  obtain ⟨gD, capD, ev8, isD, _⟩ := o8.isB (fun x hx => by have := (dg_iff x).1 (HDD.out x hx); omega)
  rw [hDl] at ev8
  subst ev8
  obtain ⟨n, hn⟩ : ∃ n, n = q + f := ⟨_, rfl⟩
  rw [← hn] at hDl hP1 hD15
  obtain ⟨cp, hcp⟩ : ∃ cp, cp = capD := ⟨_, rfl⟩
  subst hcp
  have HD : Hid (IsB w8 gD 0 D) := Lib.hid isD
  have HEx := Lib.hid (H6.out.2.1.below b8)
  have HN0 := Lib.hid (H6.out.2.2.1.below b8)
  have HN1 := Lib.hid (H6.out.1.below b8)
  have RX := Lib.hid (H6.out.2.2.2.1.below b8)
  have FX := Lib.hid (H6.out.2.2.2.2.step b8)
  have HGG : Hid (¬ w.heap.size = g1) := Lib.hid (by have := HG1.out; omega)
  have HEr : Hid (15 < n ∨ 9223372036854775807 < decL D → ∀ wz, Frm (fun k => k = rd) w wz → P (.returned (.tuple #[Tkv 0 ⟨#[]⟩ 0 0, .int .i64 11])) wz) := Lib.hid (by
   intro hc wz hf
   rw [if_pos (by have := hD15.out; omega)] at hP1
   rw [← hP1]
   exact ⟨rfl, hf⟩)
  have HOk : Hid (n ≤ 15 ∧ decL D ≤ 9223372036854775807 → ∀ wz off' cap', Rd wz rd b off' cap' (l.drop (q + 1 + f)) → Frm (fun k => k = rd) w wz → P (.returned (.tuple #[Tkv 3 ⟨#[]⟩ (decL D : Int) (f : Int), .int .i64 0])) wz) := Lib.hid (by
   intro hc wz o c hr hf
   rw [if_neg (by omega)] at hP1
   rw [← hP1]
   exact ⟨rfl, o, c, hr, hf⟩)
  have hnb1 : 0 < n := by omega
  have hnb2 : n ≤ 8589934592 := by omega
  rw [← hn]
  have HQN := Lib.hid hn
  clear hn
  clear HP hP1 HFR HBA HN2 HE2 HR3 HF3 hg1 H6 b8 o8 isD HC hf hfin hfle hdd
  have hcv := str_b HD.out n cp (by omega)
  have hPI := parse_b HDD.out (by omega) (by omega) HEx.out
  have hDn : D.take n = D := List.take_of_length_le (by omega)
  rw [hDn] at hcv
  generalize strB D = S at hcv hPI
  have HPI := Lib.hid hPI
  clear hPI hDn
  go_wp2_with fail
  try go_at_call 163
  refine HPI.out.mono ?_
  rintro e wy ⟨by_, v, ev, rfl, hv⟩
  have N0 := HN0.out.below by_
  have N1 := HN1.out.below by_
  obtain ⟨⟨e0, e1, e2, e3⟩, f0, f1, f4, f3⟩ := N0.cells
  obtain ⟨⟨x0, x1, x2, x3⟩, y0, y1, y2, y3⟩ := N1.cells
  have hgg : ¬ w.heap.size = g1 := HGG.out
  have hgg' : ¬ g1 = w.heap.size := fun e => HGG.out e.symm
  have RY := Lib.hid (RX.out.below by_)
  have FY := Lib.hid (FX.out.step by_)
  have N0H := Lib.hid N0
  clear by_ N0 N1
  rcases hv with ⟨hv1, rfl, rfl⟩ | ⟨hv1, t, p, rfl⟩
  ·by_cases hm : n ≤ 15
   ·have k1 : decide ((15 : Int) < (n : Int)) = false := by simp; omega
    have HF := HOk.out ⟨hm, hv1⟩
    have HX := Lib.hid (show P (.returned (.tuple #[Tkv 3 ⟨#[]⟩ (decL D : Int) (f : Int), .int .i64 0])) (((((wy.setCell ⟨g1, 2, none⟩ (.int .i64 (decL D : Int))).setCell ⟨w.heap.size, 0, none⟩ (.int .i64 3)).setCell ⟨w.heap.size, 1, none⟩ (.string ⟨#[]⟩)).setCell ⟨w.heap.size, 2, none⟩ (.int .i64 (decL D : Int))).setCell ⟨w.heap.size, 3, none⟩ (.int .i64 (f : Int))) by
     have f5 := FY.out.setCell (.inr (Nat.le_of_lt HG1.out)) 2 (.int .i64 (decL D : Int))
     have r5 := RY.out.frm (F := fun k => k = g1) (Frm.set1 wy (F := fun k => k = g1) rfl 2 (.int .i64 (decL D : Int))) (by have := HG1.out; show ¬ rd = g1; omega) (by have := HG1.out; show ¬ b = g1; omega)
     obtain ⟨a1, a2⟩ := Rd.boxed f5 r5 hrd hbl (.int .i64 3) (.string ⟨#[]⟩) (.int .i64 (decL D : Int)) (.int .i64 (f : Int))
     exact HF _ _ _ a1 a2)
    have hbx : TBox (wy.setCell ⟨g1, 2, none⟩ (.int .i64 (decL D : Int))) w.heap.size 0 0 0 ⟨#[]⟩ := N0H.out.frm (F := fun k => k = g1) (Frm.set1 wy (F := fun k => k = g1) rfl 2 _) HGG.out
    generalize decL D = V at *
    go_wp2_with fail
    exact tok_ret Tryz.results99 (box_four hbx _ _ _ _) rfl rfl rfl HX.out
   ·have k1 : decide ((15 : Int) < (n : Int)) = true := by simp; omega
    have HX := Lib.hid (show P (.returned (.tuple #[Tkv 0 ⟨#[]⟩ 0 0, .int .i64 11])) ((((wy.setCell ⟨w.heap.size, 0, none⟩ (.int .i64 0)).setCell ⟨w.heap.size, 1, none⟩ (.string ⟨#[]⟩)).setCell ⟨w.heap.size, 2, none⟩ (.int .i64 0)).setCell ⟨w.heap.size, 3, none⟩ (.int .i64 0)) by
     obtain ⟨_, a2⟩ := Rd.boxed FY.out RY.out hrd hbl (.int .i64 0) (.string ⟨#[]⟩) (.int .i64 0) (.int .i64 0)
     exact HEr.out (.inl (by omega)) _ a2)
    generalize decL D = V at *
    go_wp2_with fail
    exact tok_ret Tryz.results99 (box_four N0H.out _ _ _ _) rfl rfl rfl HX.out
  ·have HX := Lib.hid (show P (.returned (.tuple #[Tkv 0 ⟨#[]⟩ 0 0, .int .i64 11])) ((((wy.setCell ⟨w.heap.size, 0, none⟩ (.int .i64 0)).setCell ⟨w.heap.size, 1, none⟩ (.string ⟨#[]⟩)).setCell ⟨w.heap.size, 2, none⟩ (.int .i64 0)).setCell ⟨w.heap.size, 3, none⟩ (.int .i64 0)) by
    obtain ⟨_, a2⟩ := Rd.boxed FY.out RY.out hrd hbl (.int .i64 0) (.string ⟨#[]⟩) (.int .i64 0) (.int .i64 0)
    exact HEr.out (.inr hv1) _ a2)
   go_wp2_with fail
   exact tok_ret Tryz.results99 (box_four N0H.out _ _ _ _) rfl rfl rfl HX.out
end Go.Proofs.YtofnkfjhmjecjaaGreatDoor

namespace Go.Proofs.YtofnkfjhmjecjaaGreatDoor
set_option maxRecDepth 100000
open Go.RowKit Go.Joins Go.ChangeShapes Go.WideShapes
set_option linter.unusedVariables false
set_option linter.unusedSimpArgs false
def txtE (r : List Nat) : Except Nat (Tk × Nat) := match textL r with
 | none => .error 121
 | some x => if x.1.length > 200 then .error 1 else .ok (⟨4, x.1, 0, 0⟩, x.2 + 1)
theorem Rd.grown {w w1 : World} {rd b off cap : Nat} {l : List Nat} {row : Option Nat} (h : Rd w rd b off cap l) (hg : w.grownBy w1 row) (h1 : ∀ k, row = some k → k ≠ rd ∧ k ≠ b) : Rd w1 rd b off cap l := by
 have f : Frm (fun k => row = some k) w w1 := ⟨hg.os, hg.tape, hg.output, hg.size, fun k hk hf => hg.block k hk (fun e => hf e.symm)⟩
 exact h.frm f (fun e => (h1 rd e).1 rfl) (fun e => (h1 b e).2 rfl)
theorem TBox.grown {w w1 : World} {g : Nat} {k n sc : Int} {s : ByteArray} {row : Option Nat} (h : TBox w g k n sc s) (hg : w.grownBy w1 row) (h1 : ∀ k, row = some k → k ≠ g) : TBox w1 g k n sc s := (hg.block g h.lt (fun e => h1 g e.symm rfl)).trans h
def lenAt (w : World) (rd : Nat) : Nat := match w.cell? ⟨rd, 0, none⟩ with
 | some (.slice _ n _) => n
 | _ => 0
theorem Rd.len {w : World} {rd b off cap : Nat} {l : List Nat} (h : Rd w rd b off cap l) : lenAt w rd = l.length := by
 unfold lenAt
 rw [cell_of_block h.hd]
 rfl
structure TxS (w wr : World) (rd b : Nat) (r : List Nat) (v : Value) (acc : List Nat) (k off cap : Nat) : Prop where
 own : OwB wr (w.heap.size + 1) v acc
 rds : Rd wr rd b off cap (r.drop k)
 kl : k ≤ r.length
 al : acc.length ≤ k
 eq : textL r = (textL (r.drop k)).map (fun x => (acc ++ x.1, k + x.2))
 hd : r.drop k = [] ∨ ∃ s, r.drop k = 39 :: s
 fr : Frm (fun k => k = rd) w wr
 bx : TBox wr w.heap.size 0 0 0 ⟨#[]⟩
 ac : ∀ x ∈ acc, x < 256
set_option maxHeartbeats 4000000 in
theorem text_any {w : World} {rd b off cap : Nat} {r : List Nat} (h : Rd w rd b off cap (39 :: r)) :
  Calls Tryz.prog 100 #[.pointer (some ⟨rd, 0, none⟩)] w (TokP (txtE r) w rd b (39 :: r)) := by
 have b1 : Below w.heap.size w (w.alloc (.cells #[.int .i64 0, .string ⟨#[]⟩, .int .i64 0, .int .i64 0] 84)) := (Below.refl _ _).alloc (Nat.le_refl _) _
 have h1 := h.below b1
 have hbl : b < w.heap.size := h.is.hb (by simp)
 have hrd : rd < w.heap.size := (Array.getElem?_eq_some_iff.1 h.hd).1
 have hle32 := h.ln
 have hrl : r.length ≤ 4294967296 := by simp at hle32; omega
 have HLT := Lib.hid h.is.lt
 have HT := Lib.hid (take_any h1 1 (by simp))
 have HI := Lib.hid h1.is
 have HB := Lib.hid (show ¬ b = rd from fun e => h.ne e.symm)
 have HBel := Lib.hid b1
 have hnew : TBox (w.alloc (.cells #[.int .i64 0, .string ⟨#[]⟩, .int .i64 0, .int .i64 0] 84)) w.heap.size 0 0 0 ⟨#[]⟩ := heap_alloc_new w (.cells #[.int .i64 0, .string ⟨#[]⟩, .int .i64 0, .int .i64 0] 84)
 have HN := Lib.hid hnew
 have hsz : (w.alloc (.cells #[.int .i64 0, .string ⟨#[]⟩, .int .i64 0, .int .i64 0] 84)).heap.size = w.heap.size + 1 := by simp
 have HSZ := Lib.hid hsz
 clear h h1 b1 hnew hsz
 generalize hP : TokP _ w rd b (39 :: r) = P
 have HP := Lib.hid hP
 clear hP
 go_enter Tryz.func100, Tryz.ntmps100
 go_wp2_with fail
 generalize w.alloc (.cells #[.int .i64 0, .string ⟨#[]⟩, .int .i64 0, .int .i64 0] 84) = W1 at *
 try go_at_call 94
 refine HT.out.mono ?_
 rintro e w2 ⟨rfl, off2, cap2, r2, f2⟩
 have r2 : Rd w2 rd b off2 cap2 r := r2
 have HT3 := Lib.hid (pass_any noquote_any (enters_of Tryz.func165 (by kernel_rfl) rfl) r2)
 have F2 := Lib.hid f2
 have HI2 := Lib.hid r2.is
 have hlt2 := runL_le nqL r
 have hrun := textL_run r
 have hdn := drop_nq r
 generalize hq : runL nqL r = q at *
 clear r2 f2 hq
 go_wp2_with fail
 try go_at_call 35
 refine HT3.out.mono ?_
 rintro e w3 ⟨rfl, off3, cap3, r3, f3⟩
 have hI3 := (f3.isB HI2.out (fun _ => HB.out)).take q
 have HC := Lib.hid (clone_b q cap2 (by rw [List.length_take]; omega) hI3 (by omega))
 have R3 := Lib.hid r3
 have F3 := Lib.hid (((Frm.of_below (F := fun k => k = rd) HBel.out).trans F2.out (New.refl _ _)).trans f3 (New.refl _ _))
 have N3 := Lib.hid ((HN.out.frm F2.out (by omega)).frm f3 (by omega))
 have hs3 : w.heap.size + 1 ≤ w3.heap.size := by have := F2.out.size; have := f3.size; have := HSZ.out; omega
 clear r3 f3 hI3
 go_wp2_with fail
 try go_at_call 164
 refine HC.out.mono ?_
 rintro e w4 ⟨v4, rfl, o4, b4⟩
 have HS0 : Hid (TxS w w4 rd b r v4 (r.take q) q off3 cap3) := Lib.hid ⟨o4.le hs3, R3.out.below b4, hlt2, by rw [List.length_take]; omega, hrun, hdn, F3.out.step b4, N3.out.below b4, fun x hx => HLT.out x (List.mem_cons_of_mem _ (List.mem_of_mem_take hx))⟩
 clear o4 b4 hrun hdn
 go_wp2_with fail
 go_loopw [4] (fun v wr => ∃ acc k off cap, TxS w wr rd b r v acc k off cap) (fun _ wr => lenAt wr rd)
 case atStart => exact ⟨_, _, _, _, HS0.out⟩
 case round =>
  obtain ⟨acc, k, off5, cap5, hs⟩ := hrel
  have c0 : wr.cell? ⟨rd, 0, none⟩ = some (.slice (some ⟨b, off5, none⟩) (r.drop k).length cap5) := by rw [cell_of_block hs.rds.hd]; rfl
  have HS := Lib.hid hs
  have hcp := hs.rds.cp
  have hhd := hs.hd
  have heq := hs.eq
  have hkl := hs.kl
  have hal := hs.al
  have hbd := hs.rds.is
  clear hs
  have hkd : (r.drop k).length = r.length - k := List.length_drop
  rcases hhd with e | ⟨s, e⟩
  ·have hP1 := HP.out
   unfold txtE at hP1
   rw [heq, e] at hP1
   rw [e] at c0
   have N0 := HS.out.bx
   obtain ⟨⟨e0, e1, e2, e3⟩, f0, f1, f4, f3⟩ := N0.cells
   have N0H := Lib.hid N0
   clear N0 heq
   have c0 : wr.cell? ⟨rd, 0, none⟩ = some (.slice (some ⟨b, off5, none⟩) 0 cap5) := c0
   have HX := Lib.hid (show P (.returned (.tuple #[Tkv 0 ⟨#[]⟩ 0 0, .int .i64 121])) ((((wr.setCell ⟨w.heap.size, 0, none⟩ (.int .i64 0)).setCell ⟨w.heap.size, 1, none⟩ (.string ⟨#[]⟩)).setCell ⟨w.heap.size, 2, none⟩ (.int .i64 0)).setCell ⟨w.heap.size, 3, none⟩ (.int .i64 0)) by
    obtain ⟨_, a2⟩ := Rd.boxed HS.out.fr HS.out.rds hrd hbl (.int .i64 0) (.string ⟨#[]⟩) (.int .i64 0) (.int .i64 0)
    rw [← hP1]
    exact ⟨rfl, a2⟩)
   clear hP1 hbd e
   go_wp2_with fail
   exact tok_ret Tryz.results100 (box_four N0H.out _ _ _ _) rfl rfl rfl HX.out
  ·by_cases h2 : ∃ s', s = 39 :: s'
   ·obtain ⟨s', rfl⟩ := h2
    have R0 := HS.out.rds
    rw [e] at R0 c0 hbd
    have d0 : wr.cell? ⟨b, off5, none⟩ = some (.int .u8 (39 : Nat)) := hbd.c 0 39 rfl
    have d1 : wr.cell? ⟨b, off5 + 1, none⟩ = some (.int .u8 (39 : Nat)) := hbd.c 1 39 rfl
    have hcapn : (39 :: 39 :: s').length ≤ cap5 := R0.cp
    have HTa := Lib.hid (take_any R0 1 (by simp))
    obtain ⟨n1, hn1⟩ : ∃ n1, (39 :: 39 :: s').length = n1 := ⟨_, rfl⟩
    have hn1p : (1 : Int) < (n1 : Int) := by rw [← hn1]; simp; omega
    have HML := Lib.hid (show lenAt wr rd = n1 by rw [R0.len, hn1])
    rw [hn1] at c0 hcapn
    obtain ⟨gv, capv, ev, isv, hgv⟩ := HS.out.own.isB HS.out.ac
    obtain ⟨na, hna⟩ : ∃ na, acc.length = na := ⟨_, rfl⟩
    rw [hna] at ev
    subst ev
    have HR := Lib.hid (show k + 2 + s'.length = r.length by have := hkd; rw [e] at this; simp at this; omega)
    have HN1 := Lib.hid hn1
    have HNA := Lib.hid hna
    have HE := Lib.hid e
    have HQ := Lib.hid heq
    clear hbd hn1 isv hcp heq e hkd R0 hna
    go_wp2_with fail
    try go_at_call 94
    refine HTa.out.mono ?_
    rintro ee w5 ⟨rfl, off6, cap6, r6, f6⟩
    have r6 : Rd w5 rd b off6 cap6 (39 :: s') := r6
    have HTb := Lib.hid (take_any r6 1 (by simp))
    have HI6 := Lib.hid (r6.is.take 1)
    have F6 := Lib.hid f6
    clear r6 f6 d0 d1 c0
    go_wp2_with fail
    try go_at_call 94
    refine HTb.out.mono ?_
    rintro ee w6 ⟨rfl, off7, cap7, r7, f7⟩
    have r7 : Rd w6 rd b off7 cap7 s' := r7
    have R7 := Lib.hid r7
    have I7 := Lib.hid (f7.isB HI6.out (fun _ => HB.out))
    have F7 := Lib.hid (F6.out.trans f7 (New.refl _ _))
    have hs7 : wr.heap.size ≤ w6.heap.size := (F6.out.trans f7 (New.refl _ _)).size
    have hsw : w.heap.size ≤ wr.heap.size := HS.out.fr.size
    have hbase : w.heap.size + 1 ≤ wr.heap.size := by have := HS.out.bx.lt; omega
    have hbase6 : w.heap.size + 1 ≤ w6.heap.size := by omega
    have O7 : OwB w6 (w.heap.size + 1) (.slice (some ⟨gv, 0, none⟩) na capv) acc := by
     have o := Frm.ownsRow F7.out HS.out.own.1 (fun g hg => by
      simp only [Value.ownBlock, Option.some.injEq] at hg
      omega)
     exact ⟨o, by simp⟩
    have HO7 := Lib.hid O7
    clear r7 f7 O7
    go_wp2_with (first | (at_builtin; refine wp_push rfl _ _ rfl (w.heap.size + 1) (.slice (some ⟨gv, 0, none⟩) na capv) acc rfl HO7.out ⟨b, off6, none⟩ 1 cap6 [39] rfl rfl (isB_news I7.out) (by have := HNA.out; omega) hbase6 ?_; intro v8 w8 own8 gr8; have HX8 := Lib.hid (And.intro own8 gr8); clear own8 gr8))
    have f8 := (HS.out.fr.trans F7.out (New.refl _ _)).grown HX8.out.2 (fun g hg => .inr (by simp only [Value.ownBlock, Option.some.injEq] at hg; omega))
    have B8 := Lib.hid ((HS.out.bx.frm F7.out (by omega)).grown HX8.out.2 (fun g hg => by simp only [Value.ownBlock, Option.some.injEq] at hg; omega))
    have r8 := R7.out.grown HX8.out.2 (fun g hg => by simp only [Value.ownBlock, Option.some.injEq] at hg; omega)
    have hs8 := HX8.out.2.size
    have HTc := Lib.hid (pass_any noquote_any (enters_of Tryz.func165 (by kernel_rfl) rfl) r8)
    have hq2 := runL_le nqL s'
    have hrun := textL_run s'
    have hdn := drop_nq s'
    have HI8 := Lib.hid r8.is
    have F8 := Lib.hid f8
    have own8 := HX8.out.1
    obtain ⟨g8, cap8, ev8, _, hg8⟩ := own8.isB (fun x hx => by
     rcases List.mem_append.1 hx with g | g
     ·exact HS.out.ac x g
     ·simp at g; omega)
    have hl8 : (acc ++ [39]).length = na + 1 := by rw [List.length_append, HNA.out]; rfl
    rw [hl8] at ev8
    subst ev8
    have HO8 := Lib.hid own8
    clear own8 r8 f8
    generalize hq : runL nqL s' = q2 at *
    clear hq
    go_wp2_with fail
    try go_at_call 35
    refine HTc.out.mono ?_
    rintro ee w9 ⟨rfl, off9, cap9, r9, f9⟩
    have hs9 := f9.size
    have I9 := Lib.hid ((f9.isB HI8.out (fun _ => HB.out)).take q2)
    have O9 : OwB w9 (w.heap.size + 1) (.slice (some ⟨g8, 0, none⟩) (na + 1) cap8) (acc ++ [39]) := by
     have o := Frm.ownsRow f9 HO8.out.1 (fun g hg => by
      simp only [Value.ownBlock, Option.some.injEq] at hg
      omega)
     exact ⟨o, by simp⟩
    have HO9 := Lib.hid O9
    have F9 := Lib.hid (F8.out.trans f9 (New.refl _ _))
    have R9 := Lib.hid r9
    have B9 := Lib.hid (B8.out.frm f9 (by omega))
    have hlq : (s'.take q2).length = q2 := by rw [List.length_take]; omega
    have hbase9 : w.heap.size + 1 ≤ w9.heap.size := by omega
    have hlen9 : (acc ++ [39]).length + q2 ≤ 70368744177664 := by rw [hl8]; have := HR.out; have := HNA.out; omega
    clear r9 f9 O9
    go_wp2_with (first | (at_builtin; refine wp_push rfl _ _ rfl (w.heap.size + 1) (.slice (some ⟨g8, 0, none⟩) (na + 1) cap8) (acc ++ [39]) rfl HO9.out ⟨b, off7, none⟩ q2 cap7 (s'.take q2) rfl hlq (isB_news I9.out) hlen9 hbase9 ?_; intro v10 w10 own10 gr10; have HX10 := Lib.hid (And.intro own10 gr10); clear own10 gr10))
    have hk10 : r.drop (k + 2 + q2) = s'.drop q2 := by
     rw [show k + 2 + q2 = k + (2 + q2) by omega, ← List.drop_drop, HE.out, ← List.drop_drop]
     rfl
    have r10 := R9.out.grown HX10.out.2 (fun g hg => by simp only [Value.ownBlock, Option.some.injEq] at hg; omega)
    rw [← hk10] at r10
    have f10 := F9.out.grown HX10.out.2 (fun g hg => .inr (by simp only [Value.ownBlock, Option.some.injEq] at hg; omega))
    go_roundw
    case rel =>
     refine ⟨acc ++ [39] ++ s'.take q2, k + 2 + q2, off9, cap9, HX10.out.1, r10, by have := HR.out; omega, ?_, ?_, ?_, f10, ?_, ?_⟩
     ·rw [List.length_append, hl8, hlq]; have := HNA.out; omega
     ·rw [HQ.out, HE.out, textL_two, hrun, hk10, Option.map_map, Option.map_map]
      congr 1
      funext x
      simp only [Function.comp, List.append_assoc, List.cons_append, List.nil_append, Prod.mk.injEq, true_and]
      omega
     ·rw [hk10]; exact hdn
     ·exact B9.out.grown HX10.out.2 (fun g hg => by simp only [Value.ownBlock, Option.some.injEq] at hg; omega)
     ·intro x hx
      rcases List.mem_append.1 hx with g | g
      ·rcases List.mem_append.1 g with g | g
       ·exact HS.out.ac x g
       ·simp at g; omega
      ·exact I9.out.lt x g
    case measure =>
     rw [r10.len, hk10, HML.out, List.length_drop, ← HN1.out]
     simp
     omega
   ·have HEND := Lib.hid (textL_end (s := s) (fun d t he hd => h2 ⟨t, by rw [he, hd]⟩))
    rw [e] at c0 hbd
    have d0 : wr.cell? ⟨b, off5, none⟩ = some (.int .u8 (39 : Nat)) := hbd.c 0 39 rfl
    obtain ⟨n1, hn1⟩ : ∃ n1, (39 :: s).length = n1 := ⟨_, rfl⟩
    have hn1p : 1 ≤ n1 := by rw [← hn1]; simp
    have htest : (n1 = 1) ∨ (1 < n1 ∧ ∃ d : Nat, wr.cell? ⟨b, off5 + 1, none⟩ = some (.int .u8 (d : Int)) ∧ ((d : Int) == 39) = false) := by
     cases s with
     | nil => left; rw [← hn1]; rfl
     | cons d t =>
      right
      refine ⟨by rw [← hn1]; simp, d, hbd.c 1 d rfl, ?_⟩
      have : ¬ d = 39 := fun hd => h2 ⟨t, by rw [hd]⟩
      exact beq_eq_false_iff_ne.2 (by omega)
    have HN1 := Lib.hid hn1
    rw [hn1] at c0
    have kz : ((n1 : Int) == 0) = false := beq_eq_false_iff_ne.2 (by omega)
    have hcap1 : n1 ≤ cap5 := by have := hcp; rw [e] at this; omega
    clear hbd hn1
    have hfin : textL r = some (acc, k + 1) := by rw [heq, e, HEND.out]; simp
    have HT := Lib.hid (take_any HS.out.rds 1 (by rw [e]; simp))
    clear heq e HN1
    have hj : (∃ (u : Unit), n1 = 1) ∨ ((1 : Int) < (n1 : Int) ∧ ∃ d : Nat, wr.cell? ⟨b, off5 + 1, none⟩ = some (.int .u8 (d : Int)) ∧ ((d : Int) == 39) = false) := by
     rcases htest with ht | ⟨ht, hh⟩
     ·exact .inl ⟨(), ht⟩
     ·exact .inr ⟨by omega, hh⟩
    clear htest
    rcases hj with ⟨_, rfl⟩ | ⟨ht, d, d1, d2⟩
    all_goals
     obtain ⟨gv, capv, ev, isv, hgv⟩ := HS.out.own.isB HS.out.ac
     have hst := str_own HS.out.own
     have N0 := HS.out.bx
     obtain ⟨⟨e0, e1, e2, e3⟩, f0, f1, f4, f3⟩ := N0.cells
     have N0H := Lib.hid N0
     clear N0
     have hP1 := HP.out
     unfold txtE at hP1
     rw [hfin] at hP1
     simp only at hP1
     subst ev
     obtain ⟨n, hn⟩ : ∃ n, acc.length = n := ⟨_, rfl⟩
     by_cases c200 : n > 200
     ·rw [if_pos (by omega)] at hP1
      have HX := Lib.hid (show P (.returned (.tuple #[Tkv 0 ⟨#[]⟩ 0 0, .int .i64 1])) ((((wr.setCell ⟨w.heap.size, 0, none⟩ (.int .i64 0)).setCell ⟨w.heap.size, 1, none⟩ (.string ⟨#[]⟩)).setCell ⟨w.heap.size, 2, none⟩ (.int .i64 0)).setCell ⟨w.heap.size, 3, none⟩ (.int .i64 0)) by
       obtain ⟨_, a2⟩ := Rd.boxed HS.out.fr HS.out.rds hrd hbl (.int .i64 0) (.string ⟨#[]⟩) (.int .i64 0) (.int .i64 0)
       rw [← hP1]
       exact ⟨rfl, a2⟩)
      have k200 : decide ((200 : Int) < (n : Int)) = true := by simp; omega
      rw [hn] at hst ⊢
      clear hP1 hfin hn isv HT
      go_wp2_with fail
      exact tok_ret Tryz.results100 (box_four N0H.out _ _ _ _) rfl rfl rfl HX.out
     ·rw [if_neg (by omega)] at hP1
      have k200 : decide ((200 : Int) < (n : Int)) = false := by simp; omega
      have HOW := Lib.hid HS.out.own
      have HNN := Lib.hid hn
      rw [hn] at hst HOW ⊢
      generalize hS : strB acc = S at hst
      have HSS := Lib.hid hS
      have HP1 := Lib.hid hP1
      clear hP1 hfin hn isv hst hS
      go_wp2_with fail
      try go_at_call 94
      refine HT.out.mono ?_
      rintro ee w5 ⟨rfl, off6, cap6, r6, f6⟩
      rw [List.drop_drop] at r6
      have N6 := N0H.out.frm f6 (by omega)
      obtain ⟨⟨e0, e1, e2, e3⟩, f0, f1, f4, f3⟩ := N6.cells
      have hst2 : (convert 78 9 (.slice (some ⟨gv, 0, none⟩) n capv)).run Tryz.prog w5 = .ok (.string S) w5 := by
       have o5 := Frm.ownsRow f6 HS.out.own.1 (fun g hg => by
        simp only [Value.ownBlock, Option.some.injEq] at hg
        omega)
       rw [← HSS.out]
       have o6 : OwB w5 (w.heap.size + 1) (.slice (some ⟨gv, 0, none⟩) acc.length capv) acc := ⟨o5, by simp⟩
       have := str_own o6
       rw [HNN.out] at this
       exact this
      have HX := Lib.hid (show P (.returned (.tuple #[Tkv 4 S 0 0, .int .i64 0])) ((((w5.setCell ⟨w.heap.size, 0, none⟩ (.int .i64 4)).setCell ⟨w.heap.size, 1, none⟩ (.string S)).setCell ⟨w.heap.size, 2, none⟩ (.int .i64 0)).setCell ⟨w.heap.size, 3, none⟩ (.int .i64 0)) by
       obtain ⟨a1, a2⟩ := Rd.boxed (HS.out.fr.trans f6 (New.refl _ _)) r6 hrd hbl (.int .i64 4) (.string S) (.int .i64 0) (.int .i64 0)
       rw [← HP1.out, ← HSS.out]
       rw [← HSS.out] at a1 a2
       exact ⟨rfl, _, _, a1, a2⟩)
      have N6H := Lib.hid N6
      clear r6 f6 N6
      go_wp2_with fail
      exact tok_ret Tryz.results100 (box_four N6H.out _ _ _ _) rfl rfl rfl HX.out
end Go.Proofs.YtofnkfjhmjecjaaGreatDoor

namespace Go.Proofs.YtofnkfjhmjecjaaGreatDoor
set_option maxRecDepth 100000
open Go.RowKit Go.Joins Go.ChangeShapes Go.WideShapes
set_option linter.unusedVariables false
set_option linter.unusedSimpArgs false
theorem TokP.open {x : Except Nat (Tk × Nat)} {w w1 w2 : World} {rd b : Nat} {l : List Nat} {e : Ending} (h : TokP x w1 rd b l e w2) (hb : Below w.heap.size w w1) (h1 : rd < w.heap.size) (h2 : b < w.heap.size) :
  ∃ k s n sc er, e = .returned (.tuple #[Tkv k s n sc, .int .i64 er]) ∧ Frm (fun k => k = rd) w1 w2 ∧
   TokP x w rd b l (.returned (.tuple #[Tkv k s n sc, .int .i64 er])) ((((w2.setCell ⟨w.heap.size, 0, none⟩ (.int .i64 k)).setCell ⟨w.heap.size, 1, none⟩ (.string s)).setCell ⟨w.heap.size, 2, none⟩ (.int .i64 n)).setCell ⟨w.heap.size, 3, none⟩ (.int .i64 sc)) := by
 cases x with
 | error er =>
  obtain ⟨rfl, f⟩ := h
  have f0 := (Frm.of_below (F := fun k => k = rd) hb).trans f (New.refl _ _)
  exact ⟨_, _, _, _, _, rfl, f, rfl, (((f0.setCell (.inr (Nat.le_refl _)) 0 _).setCell (.inr (Nat.le_refl _)) 1 _).setCell (.inr (Nat.le_refl _)) 2 _).setCell (.inr (Nat.le_refl _)) 3 _⟩
 | ok y =>
  obtain ⟨t, k⟩ := y
  obtain ⟨rfl, off', cap', r, f⟩ := h
  have f0 := (Frm.of_below (F := fun k => k = rd) hb).trans f (New.refl _ _)
  obtain ⟨a1, a2⟩ := Rd.boxed f0 r h1 h2 (.int .i64 t.kind) (.string (strB t.text)) (.int .i64 t.num) (.int .i64 t.scale)
  exact ⟨_, _, _, _, _, rfl, f, rfl, off', cap', a1, a2⟩
theorem tokL_word {c : Nat} {r : List Nat} (h : bwL c = true) : tokL (c :: r) = wrdE (c :: r) := by
 rw [tokL_cons, tokC_eq, if_pos h]; rfl
theorem tokL_num {c : Nat} {r : List Nat} (h : bwL c = false) (h2 : dgL c = true) : tokL (c :: r) = numE (c :: r) := by
 rw [tokL_cons, tokC_eq, if_neg (by simp [h]), if_pos h2]; rfl
theorem tokL_txt (r : List Nat) : tokL (39 :: r) = txtE r := by
 rw [tokL_cons, tokC_eq, if_neg (by decide), if_neg (by decide), if_pos rfl]
 unfold txtE
 cases textL r <;> rfl
theorem tokL_sgn {c : Nat} {r : List Nat} (h : bwL c = false) (h2 : dgL c = false) (h3 : ¬ c = 39) : tokL (c :: r) = sgnE (c :: r) := by
 rw [tokL_cons, tokC_eq, if_neg (by simp [h]), if_neg (by simp [h2]), if_neg h3]; rfl
set_option maxHeartbeats 4000000 in
theorem token_any {w : World} {rd b off cap : Nat} {c : Nat} {r : List Nat} (h : Rd w rd b off cap (c :: r)) (hE : ErrR w) (hrE : 3 ≠ rd) :
  Calls Tryz.prog 37 #[.pointer (some ⟨rd, 0, none⟩)] w (TokP (tokL (c :: r)) w rd b (c :: r)) := by
 have b1 : Below w.heap.size w (w.alloc (.cells #[.int .i64 0, .string ⟨#[]⟩, .int .i64 0, .int .i64 0] 84)) := (Below.refl _ _).alloc (Nat.le_refl _) _
 have h1 := h.below b1
 have hE1 := hE.below b1
 have hbl : b < w.heap.size := h.is.hb (by simp)
 have hrd : rd < w.heap.size := (Array.getElem?_eq_some_iff.1 h.hd).1
 have hc8 : c < 256 := h.is.lt c (List.mem_cons_self ..)
 have hnew : TBox (w.alloc (.cells #[.int .i64 0, .string ⟨#[]⟩, .int .i64 0, .int .i64 0] 84)) w.heap.size 0 0 0 ⟨#[]⟩ := heap_alloc_new w (.cells #[.int .i64 0, .string ⟨#[]⟩, .int .i64 0, .int .i64 0] 84)
 have HN := Lib.hid hnew
 have HBel := Lib.hid b1
 have c0 : (w.alloc (.cells #[.int .i64 0, .string ⟨#[]⟩, .int .i64 0, .int .i64 0] 84)).cell? ⟨rd, 0, none⟩ = some (.slice (some ⟨b, off, none⟩) (c :: r).length cap) := by rw [cell_of_block h1.hd]; rfl
 have d0 : (w.alloc (.cells #[.int .i64 0, .string ⟨#[]⟩, .int .i64 0, .int .i64 0] 84)).cell? ⟨b, off, none⟩ = some (.int .u8 (c : Int)) := h1.is.c 0 c rfl
 have hlp : 0 < (c :: r).length := by simp
 obtain ⟨n, hn⟩ : ∃ n, (c :: r).length = n := ⟨_, rfl⟩
 rw [hn] at c0 hlp
 have HB1 := Lib.hid (begins_any c (w.alloc (.cells #[.int .i64 0, .string ⟨#[]⟩, .int .i64 0, .int .i64 0] 84)) hc8)
 have HD1 := Lib.hid (digit_any c (w.alloc (.cells #[.int .i64 0, .string ⟨#[]⟩, .int .i64 0, .int .i64 0] 84)) hc8)
 generalize hP : TokP (tokL (c :: r)) w rd b (c :: r) = P
 have HP := Lib.hid hP
 have H1 := Lib.hid h1
 have HE1 := Lib.hid hE1
 clear hP h h1 hE hE1 hnew b1 hn
 go_enter Tryz.func37, Tryz.ntmps37
 cases q1 : bwL c with
 | true =>
  rw [q1] at HB1
  have HC := Lib.hid (word_any H1.out q1)
  rw [tokL_word q1] at HP
  generalize wrdE (c :: r) = X at *
  generalize (c :: r) = l at *
  go_wp2_with (first | (go_at_call 96; refine HB1.out.mono ?_; rintro e w' ⟨rfl, rfl⟩))
  try go_at_call 97
  refine HC.out.mono ?_
  rintro e w2 ht
  obtain ⟨k, s, n2, sc, er, rfl, f2, hx⟩ := ht.open HBel.out hrd hbl
  rw [HP.out] at hx
  have HX := Lib.hid hx
  have hbx := HN.out.frm f2 (by omega)
  obtain ⟨⟨e0, e1, e2, e3⟩, f0, f1, f4, f3⟩ := hbx.cells
  have HBX := Lib.hid hbx
  clear hx ht f2 hbx
  unfold Tkv at *
  go_wp2_with fail
  exact tok_ret Tryz.results37 (box_four HBX.out _ _ _ _) rfl rfl rfl HX.out
 | false =>
  rw [q1] at HB1
  cases q2 : dgL c with
  | true =>
   rw [q2] at HD1
   have HC := Lib.hid (number_any H1.out q2 HE1.out hrE)
   rw [tokL_num q1 q2] at HP
   generalize numE (c :: r) = X at *
   generalize (c :: r) = l at *
   go_wp2_with (first | (go_at_call 96; refine HB1.out.mono ?_; rintro e w' ⟨rfl, rfl⟩) | (go_at_call 98; refine HD1.out.mono ?_; rintro e w' ⟨rfl, rfl⟩))
   try go_at_call 99
   refine HC.out.mono ?_
   rintro e w2 ht
   obtain ⟨k, s, n2, sc, er, rfl, f2, hx⟩ := ht.open HBel.out hrd hbl
   rw [HP.out] at hx
   have HX := Lib.hid hx
   have hbx := HN.out.frm f2 (by omega)
   obtain ⟨⟨e0, e1, e2, e3⟩, f0, f1, f4, f3⟩ := hbx.cells
   have HBX := Lib.hid hbx
   clear hx ht f2 hbx
   unfold Tkv at *
   go_wp2_with fail
   exact tok_ret Tryz.results37 (box_four HBX.out _ _ _ _) rfl rfl rfl HX.out
  | false =>
   rw [q2] at HD1
   by_cases q3 : c = 39
   ·subst q3
    have HC := Lib.hid (text_any H1.out)
    rw [tokL_txt] at HP
    generalize txtE r = X at *
    generalize (39 :: r) = l at *
    go_wp2_with (first | (go_at_call 96; refine HB1.out.mono ?_; rintro e w' ⟨rfl, rfl⟩) | (go_at_call 98; refine HD1.out.mono ?_; rintro e w' ⟨rfl, rfl⟩))
    try go_at_call 100
    refine HC.out.mono ?_
    rintro e w2 ht
    obtain ⟨k, s, n2, sc, er, rfl, f2, hx⟩ := ht.open HBel.out hrd hbl
    rw [HP.out] at hx
    have HX := Lib.hid hx
    have hbx := HN.out.frm f2 (by omega)
    obtain ⟨⟨e0, e1, e2, e3⟩, f0, f1, f4, f3⟩ := hbx.cells
    have HBX := Lib.hid hbx
    clear hx ht f2 hbx
    unfold Tkv at *
    go_wp2_with fail
    exact tok_ret Tryz.results37 (box_four HBX.out _ _ _ _) rfl rfl rfl HX.out
   ·have HC := Lib.hid (sign_any H1.out (by simp))
    rw [tokL_sgn q1 q2 q3] at HP
    have q4 : ((c : Int) == 39) = false := beq_eq_false_iff_ne.2 (by omega)
    generalize sgnE (c :: r) = X at *
    generalize (c :: r) = l at *
    go_wp2_with (first | (go_at_call 96; refine HB1.out.mono ?_; rintro e w' ⟨rfl, rfl⟩) | (go_at_call 98; refine HD1.out.mono ?_; rintro e w' ⟨rfl, rfl⟩))
    try go_at_call 101
    refine HC.out.mono ?_
    rintro e w2 ht
    obtain ⟨k, s, n2, sc, er, rfl, f2, hx⟩ := ht.open HBel.out hrd hbl
    rw [HP.out] at hx
    have HX := Lib.hid hx
    have hbx := HN.out.frm f2 (by omega)
    obtain ⟨⟨e0, e1, e2, e3⟩, f0, f1, f4, f3⟩ := hbx.cells
    have HBX := Lib.hid hbx
    clear hx ht f2 hbx
    unfold Tkv at *
    go_wp2_with fail
    exact tok_ret Tryz.results37 (box_four HBX.out _ _ _ _) rfl rfl rfl HX.out
end Go.Proofs.YtofnkfjhmjecjaaGreatDoor
