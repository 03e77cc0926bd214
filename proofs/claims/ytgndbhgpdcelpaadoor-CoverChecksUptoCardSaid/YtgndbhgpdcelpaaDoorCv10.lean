/-
  Whether modes cover: contracts over the translation.
  Conditions: the row lies in memory.
-/
import Derived.Test.YtgndbhgpdcelpaaDoorCv9
namespace Go.Proofs.YtgndbhgpdcelpaaDoor
set_option maxRecDepth 100000
open Go.RowKit Go.Joins Go.ChangeShapes Go.WideShapes
set_option linter.unusedVariables false
set_option linter.unusedSimpArgs false

theorem rng_box {w : World} {g : Nat} {x : Ins} {T : TypeId} (h : Bx w g x.enc.toArray T) : w.rangeAt g 0 x.enc := fun j v hj => by rw [Nat.zero_add]; exact h.cell (by simpa using hj)
theorem rng_below {w w1 : World} {g : Nat} {x : Ins} (h : w.rangeAt g 0 x.enc) (hl : g < w.heap.size) (hb : Below w.heap.size w w1) : w1.rangeAt g 0 x.enc := fun j v hj => (hb.cell (p := ⟨g, _, none⟩) hl).trans (h j v hj)
theorem as_step {wb w0 w1 : World} {g1 g2 : Nat} {v1 v2 : Value} (l1 : g1 < wb.heap.size) (l2 : g2 < wb.heap.size) (h : Below wb.heap.size wb w0 ∧ w0.cell? ⟨g1, 0, none⟩ = some v1 ∧ w0.cell? ⟨g2, 0, none⟩ = some v2) (hb : Below w0.heap.size w0 w1) : Below wb.heap.size wb w1 ∧ w1.cell? ⟨g1, 0, none⟩ = some v1 ∧ w1.cell? ⟨g2, 0, none⟩ = some v2 :=
  ⟨h.1.trans (hb.mono h.1.size), (hb.cell (p := ⟨g1, 0, none⟩) (Nat.lt_of_lt_of_le l1 h.1.size)).trans h.2.1, (hb.cell (p := ⟨g2, 0, none⟩) (Nat.lt_of_lt_of_le l2 h.1.size)).trans h.2.2⟩
theorem as_left {A B C D : Prop} (h : A ∧ B ∧ C ∧ D) : A ∧ B ∧ C := ⟨h.1, h.2.1, h.2.2.1⟩
theorem as_all {wb w0 w1 : World} {g1 g2 : Nat} {v1 v2 : Value} {C : World → Prop} (l1 : g1 < wb.heap.size) (l2 : g2 < wb.heap.size) (hc : ∀ w', Below wb.heap.size wb w' → C w') (h : Below wb.heap.size wb w0 ∧ w0.cell? ⟨g1, 0, none⟩ = some v1 ∧ w0.cell? ⟨g2, 0, none⟩ = some v2) (hb : Below w0.heap.size w0 w1) : Below wb.heap.size wb w1 ∧ w1.cell? ⟨g1, 0, none⟩ = some v1 ∧ w1.cell? ⟨g2, 0, none⟩ = some v2 ∧ C w1 :=
  ⟨h.1.trans (hb.mono h.1.size), (hb.cell (p := ⟨g1, 0, none⟩) (Nat.lt_of_lt_of_le l1 h.1.size)).trans h.2.1, (hb.cell (p := ⟨g2, 0, none⟩) (Nat.lt_of_lt_of_le l2 h.1.size)).trans h.2.2, hc _ (h.1.trans (hb.mono h.1.size))⟩
set_option maxHeartbeats 8000000 in
theorem allcp (w : World) (hT : TabB w 0 cvL) (g1 g2 : Nat) (F : FuncId) (md : Ins → Int) (wanted : Int) (eg : ∀ args w, (callFunc F args).run Tryd.prog w = .ok (.enter F args) w)
    (hF : ∀ (x : Ins) (W : World), Calls Tryd.prog F #[x.val] W fun e w' => e = .returned (.int .i64 (md x)) ∧ Below W.heap.size W w')
    (h1 : Bx w g1 #[.func (.func F) #[] #[]] 55) (h2 : Bx w g2 #[.int .i64 wanted] 3) :
    PrB 49 #[.pointer (some ⟨g1, 0, none⟩), .pointer (some ⟨g2, 0, none⟩)] (fun x => !cvI (md x) wanted) w := by
  intro W x hW
  obtain ⟨wb, hwb⟩ : ∃ wb, W.alloc (.cells x.enc.toArray 33) = wb := ⟨_, rfl⟩
  have hbi : Bx wb W.heap.size x.enc.toArray 33 := by rw [← hwb]; exact Bx.new _ _ _
  have hab : Below W.heap.size W wb := by rw [← hwb]; exact (Below.refl _ _).alloc (Nat.le_refl _) _
  have HBB := Lib.hid hab
  have hwB := btr hW hab hW.size
  have y1 : wb.cell? ⟨g1, 0, none⟩ = some (.func (.func F) #[] #[]) := (h1.below hwB).cell rfl
  have y2 : wb.cell? ⟨g2, 0, none⟩ = some (.int .i64 wanted) := (h2.below hwB).cell rfl
  have HL1 := Lib.hid (Nat.lt_of_lt_of_le h1.lt hwB.size)
  have HL2 := Lib.hid (Nat.lt_of_lt_of_le h2.lt hwB.size)
  have hlt := hbi.lt
  have hcells : ∀ w', Below wb.heap.size wb w' → w'.cell? ⟨W.heap.size, 0, none⟩ = some (.int .i64 x.op) ∧ w'.cell? ⟨W.heap.size, 1, none⟩ = some (.int .i64 x.c) ∧ w'.cell? ⟨W.heap.size, 2, none⟩ = some (.int .i64 x.jt) ∧ w'.cell? ⟨W.heap.size, 3, none⟩ = some (.int .i64 x.mode) ∧ w'.cell? ⟨W.heap.size, 4, none⟩ = some (.int .i64 x.part) ∧ w'.cell? ⟨W.heap.size, 5, none⟩ = some (.string x.tab) ∧ w'.cell? ⟨W.heap.size, 6, none⟩ = some (.int .i64 x.idx) ∧ w'.cell? ⟨W.heap.size, 7, none⟩ = some (.slice x.lo.a x.lo.n x.lo.c) ∧ w'.cell? ⟨W.heap.size, 8, none⟩ = some (.slice x.hi.a x.hi.n x.hi.c) ∧ w'.cell? ⟨W.heap.size, 9, none⟩ = some (.bool x.lx) ∧ w'.cell? ⟨W.heap.size, 10, none⟩ = some (.bool x.hx) ∧ w'.cell? ⟨W.heap.size, 11, none⟩ = some (.slice x.e.a x.e.n x.e.c) ∧ w'.cell? ⟨W.heap.size, 12, none⟩ = some (.int .i64 x.n) ∧ w'.cell? ⟨W.heap.size, 13, none⟩ = some (.slice x.ds.a x.ds.n x.ds.c) := fun w' h => by
    have hb' := hbi.below h
    exact ⟨hb'.cell rfl, hb'.cell rfl, hb'.cell rfl, hb'.cell rfl, hb'.cell rfl, hb'.cell rfl, hb'.cell rfl, hb'.cell rfl, hb'.cell rfl, hb'.cell rfl, hb'.cell rfl, hb'.cell rfl, hb'.cell rfl, hb'.cell rfl⟩
  rw [show x.enc.toArray = #[.int .i64 x.op, .int .i64 x.c, .int .i64 x.jt, .int .i64 x.mode, .int .i64 x.part, .string x.tab, .int .i64 x.idx, .slice x.lo.a x.lo.n x.lo.c, .slice x.hi.a x.hi.n x.hi.c, .bool x.lx, .bool x.hx, .slice x.e.a x.e.n x.e.c, .int .i64 x.n, .slice x.ds.a x.ds.n x.ds.c] from rfl] at hwb
  show Calls Tryd.prog _ #[x.val, .pointer (some ⟨g1, 0, none⟩), .pointer (some ⟨g2, 0, none⟩)] W fun e w' => e = .returned (.bool (!cvI (md x) wanted)) ∧ Below W.heap.size W w'
  have HF := Lib.hid (fun (V : World) => hF x V)
  have HCV := Lib.hid (fun (V : World) (hV : Below wb.heap.size wb V) => cov_any (md x) wanted V (hT.below (hwB.trans (hV.mono hwB.size))))
  generalize cvI (md x) wanted = R at HCV ⊢
  generalize md x = m at HF HCV
  unfold Ins.val at HF
  have hs : Below wb.heap.size wb wb ∧ wb.cell? ⟨g1, 0, none⟩ = some (.func (.func F) #[] #[]) ∧ wb.cell? ⟨g2, 0, none⟩ = some (.int .i64 wanted) := ⟨Below.refl _ _, y1, y2⟩
  unfold Ins.val
  have HCE := Lib.hid hcells
  clear hcells hbi hab hwB hlt h1 h2 hF hT hW
  go_enter Tryd.func49, Tryd.ntmps49
  go_upto_region 1 with fail
  try rw [hwb]
  clear hwb
  go_region_held3 (fun w' => Below wb.heap.size wb w' ∧ w'.cell? ⟨g1, 0, none⟩ = some (.func (.func F) #[] #[]) ∧ w'.cell? ⟨g2, 0, none⟩ = some (.int .i64 wanted) ∧ w'.cell? ⟨W.heap.size, 0, none⟩ = some (.int .i64 x.op) ∧ w'.cell? ⟨W.heap.size, 1, none⟩ = some (.int .i64 x.c) ∧ w'.cell? ⟨W.heap.size, 2, none⟩ = some (.int .i64 x.jt) ∧ w'.cell? ⟨W.heap.size, 3, none⟩ = some (.int .i64 x.mode) ∧ w'.cell? ⟨W.heap.size, 4, none⟩ = some (.int .i64 x.part) ∧ w'.cell? ⟨W.heap.size, 5, none⟩ = some (.string x.tab) ∧ w'.cell? ⟨W.heap.size, 6, none⟩ = some (.int .i64 x.idx) ∧ w'.cell? ⟨W.heap.size, 7, none⟩ = some (.slice x.lo.a x.lo.n x.lo.c) ∧ w'.cell? ⟨W.heap.size, 8, none⟩ = some (.slice x.hi.a x.hi.n x.hi.c) ∧ w'.cell? ⟨W.heap.size, 9, none⟩ = some (.bool x.lx) ∧ w'.cell? ⟨W.heap.size, 10, none⟩ = some (.bool x.hx) ∧ w'.cell? ⟨W.heap.size, 11, none⟩ = some (.slice x.e.a x.e.n x.e.c) ∧ w'.cell? ⟨W.heap.size, 12, none⟩ = some (.int .i64 x.n) ∧ w'.cell? ⟨W.heap.size, 13, none⟩ = some (.slice x.ds.a x.ds.n x.ds.c))
    (first | exact as_all HL1.out HL2.out HCE.out hs (Below.refl _ _).drew | exact as_all HL1.out HL2.out HCE.out (as_left (by assumption)) (Below.refl _ _).drew | exact as_all HL1.out HL2.out HCE.out (as_left (by assumption)) hb | assumption)
    (first | (refine (HF.out _).mono ?_; rintro e w1 ⟨rfl, hb⟩) | (refine (HCV.out _ (And.left (by assumption))).mono ?_; rintro e w1 ⟨rfl, rfl⟩))
  have HBF := Lib.hid (btr HBB.out.drew hb HBB.out.size)
  clear hb
  go_wp2_with fail
  go_ret
  exact ⟨rfl, HBF.out⟩
theorem allc_any (w : World) (hT : TabB w 0 cvL) (a : Option Addr) (cap : Nat) (q : List Ins) (h : RowA w a q) (hm : q.length ≤ 1048576) (F : FuncId) (md : Ins → Int) (wanted : Int) (eg : ∀ args w, (callFunc F args).run Tryd.prog w = .ok (.enter F args) w)
    (hF : ∀ (x : Ins) (W : World), Calls Tryd.prog F #[x.val] W fun e w' => e = .returned (.int .i64 (md x)) ∧ Below W.heap.size W w') :
    Calls Tryd.prog 42 #[.slice a q.length cap, .func (.func F) #[] #[], .int .i64 wanted] w fun e w' => e = .returned (.bool (q.all fun x => cvI (md x) wanted)) ∧ Below w.heap.size w w' := by
  obtain ⟨W1, hW1⟩ : ∃ W1, w.alloc (.cells #[.func (.func F) #[] #[]] 55) = W1 := ⟨_, rfl⟩
  obtain ⟨W2, hW2⟩ : ∃ W2, W1.alloc (.cells #[.int .i64 wanted] 3) = W2 := ⟨_, rfl⟩
  have hb1 : Below w.heap.size w W1 := by rw [← hW1]; exact (Below.refl _ _).alloc (Nat.le_refl _) _
  have hb2 : Below W1.heap.size W1 W2 := by rw [← hW2]; exact (Below.refl _ _).alloc (Nat.le_refl _) _
  have hx1 : Bx W1 w.heap.size #[.func (.func F) #[] #[]] 55 := by rw [← hW1]; exact Bx.new _ _ _
  have hx2 : Bx W2 W1.heap.size #[.int .i64 wanted] 3 := by rw [← hW2]; exact Bx.new _ _ _
  have HB := Lib.hid (btr hb1 hb2 hb1.size)
  have HC := Lib.hid (contf_any W2 a cap q (h.below HB.out) (by omega) _ _ _ (allcp W2 (hT.below HB.out) w.heap.size W1.heap.size F md wanted eg hF (hx1.below hb2) hx2) (enters_of Tryd.func49 (by kernel_rfl) rfl))
  rw [show (q.any fun x => !cvI (md x) wanted) = !(q.all fun x => cvI (md x) wanted) by rw [List.not_all_eq_any_not]] at HC
  generalize (q.all fun x => cvI (md x) wanted) = R at HC ⊢
  clear hb1 hb2 hx1 hx2 h hT hF
  generalize q.length = n at *
  go_enter Tryd.func42, Tryd.ntmps42
  go_wp2_with fail
  refine HC.out.mono ?_
  rintro e w' ⟨rfl, hb⟩
  have HB2 := Lib.hid (btr HB.out hb HB.out.size)
  clear hb
  go_wp2_with fail
  go_ret
  exact ⟨by simp, HB2.out⟩

end Go.Proofs.YtgndbhgpdcelpaaDoor
