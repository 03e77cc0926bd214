/-
  Package keys over the translation: a reading's value.
  Conditions: the reader and its bytes lie in memory.
-/
import Derived.Test.YtpknoclnmhomiaaKs6
import Derived.Test.YtpknoclnmhomiaaVl
import Derived.StillTailTactics
namespace Go.Proofs.Ytpknoclnmhomiaa
open Go.RowKit Go.Joins Go.ChangeShapes Go.WideShapes
set_option linter.unusedVariables false

/-- a value that is being read: the reader, the result's box, the value's box -/
structure Vs (w wx : World) (gr b off : Nat) (r : List Nat) (g2 g3 : Nat) (k n : Int) (s : ByteArray) : Prop where
  rd : Rd wx gr b off r
  gro : w.grownBy wx (some gr)
  res : BoxV wx g2 0 0 Em
  box : BoxV wx g3 k n s
  h2 : w.heap.size ≤ g2
  h3 : w.heap.size ≤ g3
  ne : g2 ≠ g3
  lt : gr < w.heap.size
  hb : 0 < r.length → b < w.heap.size
theorem BoxV.far {w w' : World} {g : Nat} {k n : Int} {s : ByteArray} {row : Option Nat} (h : BoxV w g k n s) (hg : w.grownBy w' row) (hne : some g ≠ row) : BoxV w' g k n s := (hg.block g h.lt hne).trans h
theorem Vs.first {w w1 : World} {gr b off c : Nat} {r : List Nat} {k : Int} (h : Rd w gr b off (c :: r)) (h1 : Rd w1 gr b (off + 1) r) (hg : (w.alloc (.cells #[.int .i64 0, .int .i64 0, .string Em] 35)).grownBy w1 (some gr)) :
    Vs w (w1.alloc (.cells #[.int .i64 k, .int .i64 0, .string Em] 35)) gr b (off + 1) r w.heap.size w1.heap.size k 0 Em := by
  have hl := h.lt
  have hs : w.heap.size < w1.heap.size := Nat.lt_of_lt_of_le (by simp) hg.size
  refine ⟨h1.below ((Below.refl _ _).alloc (Nat.le_refl _) _), ((World.grownBy_alloc w _ _).trans hg).trans (World.grownBy_alloc _ _ _), ?_, boxV_new w1 k 0 Em, Nat.le_refl _, Nat.le_of_lt hs, by omega, hl, fun _ => h.row.hb (by simp)⟩
  exact ((boxV_new w 0 0 Em).far hg (by simp; omega)).alloc _
theorem Vs.next {w wx w1 : World} {gr b off off' g2 g3 : Nat} {r r' : List Nat} {k n : Int} {s : ByteArray} (h : Vs w wx gr b off r g2 g3 k n s) (hr : Rd w1 gr b off' r') (hl : r'.length ≤ r.length) (hg : wx.grownBy w1 (some gr)) : Vs w w1 gr b off' r' g2 g3 k n s := by
  have := h.lt; have := h.h2; have := h.h3
  exact ⟨hr, h.gro.trans hg, h.res.far hg (by simp; omega), h.box.far hg (by simp; omega), h.h2, h.h3, h.ne, h.lt, fun hx => h.hb (by omega)⟩
theorem Vs.gone {w wx w1 : World} {gr b off g2 g3 : Nat} {r : List Nat} {k n : Int} {s : ByteArray} (h : Vs w wx gr b off r g2 g3 k n s) (hg : wx.grownBy w1 (some gr)) : w.grownBy w1 (some gr) := h.gro.trans hg
theorem Vs.set3 {w wx : World} {gr b off g2 g3 : Nat} {r : List Nat} {k n k' n' : Int} {s s' : ByteArray} (h : Vs w wx gr b off r g2 g3 k n s) (o : Nat) (u : Value) (hb : BoxV (wx.setCell ⟨g3, o, none⟩ u) g3 k' n' s') : Vs w (wx.setCell ⟨g3, o, none⟩ u) gr b off r g2 g3 k' n' s' := by
  have h1 := h.lt; have h2 := h.h2; have h3 := h.h3; have h4 := h.ne
  have hg := grown_setCell wx g3 o u
  exact ⟨h.rd.grown hg (fun hl => by have := h.hb hl; simp; omega) (by simp; omega), h.gro.andThen hg (fun j hj => by injection hj with hj; subst hj; exact .inl h3), h.res.far hg (by simpa using h4), hb, h.h2, h.h3, h.ne, h.lt, h.hb⟩
theorem Vs.setN {w wx : World} {gr b off g2 g3 : Nat} {r : List Nat} {k n : Int} {s : ByteArray} (h : Vs w wx gr b off r g2 g3 k n s) (n' : Int) : Vs w (wx.setCell ⟨g3, 1, none⟩ (.int .i64 n')) gr b off r g2 g3 k n' s :=
  h.set3 1 _ (h.box.boxX.setV n')
theorem Vs.setT {w wx : World} {gr b off g2 g3 : Nat} {r : List Nat} {k n : Int} {s : ByteArray} (h : Vs w wx gr b off r g2 g3 k n s) (t : ByteArray) : Vs w (wx.setCell ⟨g3, 2, none⟩ (.string t)) gr b off r g2 g3 k n t :=
  h.set3 2 _ (h.box.setT t)
theorem Vs.drew {w wx : World} {gr b off g2 g3 : Nat} {r : List Nat} {k n : Int} {s : ByteArray} (h : Vs w wx gr b off r g2 g3 k n s) : Vs w wx.drew gr b off r g2 g3 k n s :=
  ⟨h.rd.below (Below.refl _ _).drew, h.gro.trans ⟨rfl, rfl, rfl, Nat.le_refl _, fun _ _ _ => rfl⟩, h.res, h.box, h.h2, h.h3, h.ne, h.lt, h.hb⟩
/-- the result is laid -/
theorem Vs.out {w wx : World} {gr b off g2 g3 : Nat} {r : List Nat} {k n : Int} {s : ByteArray} (h : Vs w wx gr b off r g2 g3 k n s) (u0 u1 u2 : Value) :
    w.grownBy (((wx.setCell ⟨g2, 0, none⟩ u0).setCell ⟨g2, 1, none⟩ u1).setCell ⟨g2, 2, none⟩ u2) (some gr) ∧ Rd (((wx.setCell ⟨g2, 0, none⟩ u0).setCell ⟨g2, 1, none⟩ u1).setCell ⟨g2, 2, none⟩ u2) gr b off r := by
  have h1 := h.lt; have h2 := h.h2
  have hj : ∀ j, some g2 = some j → w.heap.size ≤ j ∨ some gr = some j := fun j hj => by injection hj with hj; subst hj; exact .inl h2
  have hb : 0 < r.length → some b ≠ some g2 := fun hl => by have := h.hb hl; simp; omega
  have hr : some gr ≠ some g2 := by simp; omega
  exact ⟨((h.gro.andThen (grown_setCell _ g2 0 u0) hj).andThen (grown_setCell _ g2 1 u1) hj).andThen (grown_setCell _ g2 2 u2) hj, ((h.rd.grown (grown_setCell _ g2 0 u0) hb hr).grown (grown_setCell _ g2 1 u1) hb hr).grown (grown_setCell _ g2 2 u2) hb hr⟩

/-- an outcome of value -/
def ValR (w : World) (gr b : Nat) (X : Int × Vt × List Nat) (e : Ending) (w' : World) : Prop :=
  w.grownBy w' (some gr) ∧ (X.1 = 0 → e = .returned (Vv X.2.1.1 X.2.1.2.1 X.2.1.2.2) ∧ ∃ off', Rd w' gr b off' X.2.2) ∧ (X.1 ≠ 0 → e = Pan X.1)
theorem ValR.good {w w' : World} {gr b off : Nat} {X : Int × Vt × List Nat} {k n : Int} {s : ByteArray} {r : List Nat} (hX : X = (0, (k, n, s), r)) (hg : w.grownBy w' (some gr)) (hr : Rd w' gr b off r) : ValR w gr b X (.returned (Vv k n s)) w' := by
  subst hX
  exact ⟨hg, fun _ => ⟨rfl, off, hr⟩, fun h => absurd rfl h⟩
theorem ValR.bad {w w' : World} {gr b : Nat} {X : Int × Vt × List Nat} {c : Int} (hX : X.1 = c) (hc : c ≠ 0) (hg : w.grownBy w' (some gr)) : ValR w gr b X (Pan c) w' := by
  subst hX
  exact ⟨hg, fun h => absurd h hc, fun _ => rfl⟩
theorem plV_self {n : Int} : plV n = n ↔ ¬ (n = -9223372036854775808 ∨ n ≠ PCanon n) := by
  unfold plV
  by_cases c : n = -9223372036854775808
  · rw [if_pos c]
    constructor
    · intro h; omega
    · intro h; exact absurd (.inl c) h
  · rw [if_neg c]
    constructor
    · rintro h (g | g)
      · exact c g
      · exact g h.symm
    · intro h
      exact (Decidable.byContradiction fun g => h (.inr (fun e => g e.symm)))
theorem realN_in {u : Nat} (h : u < 18446744073709551616) : InI (realN u) := by
  unfold realN InI
  split <;> omega

set_option maxHeartbeats 2000000 in
theorem val_null (w : World) (gr b off : Nat) (r : List Nat) (hl : r.length ≤ 4294967295) (h : Rd w gr b off (1 :: r)) :
    Calls Try.prog 28 #[.pointer (some ⟨gr, 0, none⟩)] w fun e w' => ValR w gr b (decOne (1 :: r)) e w' := by
  generalize hP : (fun (e : Ending) (w' : World) => ValR w gr b (decOne (1 :: r)) e w') = P
  have hgood : ∀ (k n : Int) (s : ByteArray) (r' : List Nat) (w' : World) (off' : Nat), decOne (1 :: r) = (0, (k, n, s), r') → w.grownBy w' (some gr) ∧ Rd w' gr b off' r' → P (.returned (Vv k n s)) w' := by
    intro k n s r' w' off' h1 h2; rw [← hP]; exact ValR.good h1 h2.1 h2.2
  have hbad : ∀ (er : Int) (w' : World), (decOne (1 :: r)).1 = er → er ≠ 0 → w.grownBy w' (some gr) → P (Pan er) w' := by
    intro er w' h1 h2 h3; rw [← hP]; exact ValR.bad h1 h2 h3
  have HG := Lib.hid hgood
  have HB := Lib.hid hbad
  have HL := Lib.hid hl
  have HR := Lib.hid h
  have HRA := Lib.hid (h.below ((Below.refl _ _).alloc (Nat.le_refl _) (.cells #[.int .i64 0, .int .i64 0, .string Em] 35)))
  have HNC := Lib.hid next_cons
  have HNN := Lib.hid next_nil
  have HNU := Lib.hid number_step
  have HTE := Lib.hid text_step
  have HMO := Lib.hid must_ok
  have HMN := Lib.hid must_no
  have HDC := Lib.hid (decOne_cons 1 r)
  clear hP hgood hbad h hl
  go_enter Try.func28, Try.ntmps28
  go_upto_region 2 with (first | (go_at_call 39; refine (HNC.out _ _ _ _ _ _ (by have := HL.out; omega) HRA.out).mono ?_; rintro e w1 ⟨rfl, hrd1, hg1⟩))
  have hvs := Vs.first (k := 0) HR.out hrd1 hg1
  generalize (w1.alloc (.cells #[.int .i64 0, .int .i64 0, .string ⟨#[]⟩] 35)) = wx at *
  generalize w1.heap.size = g3 at *
  generalize w.heap.size = g2 at *
  obtain ⟨x0, x1, x2⟩ := hvs.box.cells
  have z0 := hvs.box.frozen 0
  have z1 := hvs.box.frozen 1
  have z2 := hvs.box.frozen 2
  obtain ⟨y0, y1, y2⟩ := hvs.res.cells
  have f0 := hvs.res.frozen 0
  have f1 := hvs.res.frozen 1
  have f2 := hvs.res.frozen 2
  have n23 := hvs.ne
  have VS := Lib.hid hvs
  clear hvs hrd1 hg1
  have hd := HDC.out
  rw [if_neg (by decide), if_pos (by decide)] at hd
  have HD := Lib.hid hd
  clear hd
  go_wp2_with fail
  exact bodyPost_ret (v := Vv 0 0 Em) (by simp [results, Try.results28, go_sem, y0, y1, y2, Vv]) rfl (HG.out 0 0 Em _ _ _ HD.out (VS.out.out _ _ _))

set_option maxHeartbeats 2000000 in
theorem val_wrong (w : World) (gr b off c : Nat) (r : List Nat) (hl : r.length ≤ 4294967295) (hc : c = 0 ∨ 5 < c) (h : Rd w gr b off (c :: r)) :
    Calls Try.prog 28 #[.pointer (some ⟨gr, 0, none⟩)] w fun e w' => ValR w gr b (decOne (c :: r)) e w' := by
  generalize hP : (fun (e : Ending) (w' : World) => ValR w gr b (decOne (c :: r)) e w') = P
  have hgood : ∀ (k n : Int) (s : ByteArray) (r' : List Nat) (w' : World) (off' : Nat), decOne (c :: r) = (0, (k, n, s), r') → w.grownBy w' (some gr) ∧ Rd w' gr b off' r' → P (.returned (Vv k n s)) w' := by
    intro k n s r' w' off' h1 h2; rw [← hP]; exact ValR.good h1 h2.1 h2.2
  have hbad : ∀ (er : Int) (w' : World), (decOne (c :: r)).1 = er → er ≠ 0 → w.grownBy w' (some gr) → P (Pan er) w' := by
    intro er w' h1 h2 h3; rw [← hP]; exact ValR.bad h1 h2 h3
  have HG := Lib.hid hgood
  have HB := Lib.hid hbad
  have HL := Lib.hid hl
  have HR := Lib.hid h
  have HRA := Lib.hid (h.below ((Below.refl _ _).alloc (Nat.le_refl _) (.cells #[.int .i64 0, .int .i64 0, .string Em] 35)))
  have hc8 : c < 256 := h.row.lt c (by simp)
  have ce : IntKind.i64.wrap ((c : Int) - 1) = (c : Int) - 1 := by rw [IntKind.wrap_i64]; omega
  have HNC := Lib.hid next_cons
  have HNN := Lib.hid next_nil
  have HNU := Lib.hid number_step
  have HTE := Lib.hid text_step
  have HMO := Lib.hid must_ok
  have HMN := Lib.hid must_no
  have HDC := Lib.hid (decOne_cons c r)
  clear hP hgood hbad h hl
  go_enter Try.func28, Try.ntmps28
  go_upto_region 2 with (first | (go_at_call 39; refine (HNC.out _ _ _ _ _ _ (by have := HL.out; omega) HRA.out).mono ?_; rintro e w1 ⟨rfl, hrd1, hg1⟩))
  have hvs := Vs.first (k := ((c : Int) - 1)) HR.out hrd1 hg1
  generalize (w1.alloc (.cells #[.int .i64 ((c : Int) - 1), .int .i64 0, .string ⟨#[]⟩] 35)) = wx at *
  generalize w1.heap.size = g3 at *
  generalize w.heap.size = g2 at *
  obtain ⟨x0, x1, x2⟩ := hvs.box.cells
  have z0 := hvs.box.frozen 0
  have z1 := hvs.box.frozen 1
  have z2 := hvs.box.frozen 2
  obtain ⟨y0, y1, y2⟩ := hvs.res.cells
  have f0 := hvs.res.frozen 0
  have f1 := hvs.res.frozen 1
  have f2 := hvs.res.frozen 2
  have n23 := hvs.ne
  have VS := Lib.hid hvs
  clear hvs hrd1 hg1
  have hd := HDC.out
  rw [if_pos (by omega)] at hd
  have HD := Lib.hid (show (decOne (c :: r)).1 = 50 by rw [hd])
  have q0 : ((c : Int) - 1 == 0) = false := by simp; omega
  have q1 : ((c : Int) - 1 == 1) = false := by simp; omega
  have q2 : ((c : Int) - 1 == 2) = false := by simp; omega
  have q3 : ((c : Int) - 1 == 3) = false := by simp; omega
  have q4 : ((c : Int) - 1 == 4) = false := by simp; omega
  clear hd
  go_wp2_with fail
  exact ⟨rfl, HB.out 50 _ HD.out (by decide) VS.out.gro⟩

set_option maxHeartbeats 2000000 in
theorem val_bool (w : World) (gr b off : Nat) (r : List Nat) (hl : r.length ≤ 4294967295) (h : Rd w gr b off (2 :: r)) :
    Calls Try.prog 28 #[.pointer (some ⟨gr, 0, none⟩)] w fun e w' => ValR w gr b (decOne (2 :: r)) e w' := by
  generalize hP : (fun (e : Ending) (w' : World) => ValR w gr b (decOne (2 :: r)) e w') = P
  have hgood : ∀ (k n : Int) (s : ByteArray) (r' : List Nat) (w' : World) (off' : Nat), decOne (2 :: r) = (0, (k, n, s), r') → w.grownBy w' (some gr) ∧ Rd w' gr b off' r' → P (.returned (Vv k n s)) w' := by
    intro k n s r' w' off' h1 h2; rw [← hP]; exact ValR.good h1 h2.1 h2.2
  have hbad : ∀ (er : Int) (w' : World), (decOne (2 :: r)).1 = er → er ≠ 0 → w.grownBy w' (some gr) → P (Pan er) w' := by
    intro er w' h1 h2 h3; rw [← hP]; exact ValR.bad h1 h2 h3
  have HG := Lib.hid hgood
  have HB := Lib.hid hbad
  have HL := Lib.hid hl
  have HR := Lib.hid h
  have HRA := Lib.hid (h.below ((Below.refl _ _).alloc (Nat.le_refl _) (.cells #[.int .i64 0, .int .i64 0, .string Em] 35)))
  have HNC := Lib.hid next_cons
  have HNN := Lib.hid next_nil
  have HNU := Lib.hid number_step
  have HTE := Lib.hid text_step
  have HMO := Lib.hid must_ok
  have HMN := Lib.hid must_no
  have HDC := Lib.hid (decOne_cons 2 r)
  clear hP hgood hbad h hl
  go_enter Try.func28, Try.ntmps28
  go_upto_region 2 with (first | (go_at_call 39; refine (HNC.out _ _ _ _ _ _ (by have := HL.out; omega) HRA.out).mono ?_; rintro e w1 ⟨rfl, hrd1, hg1⟩))
  have hvs := Vs.first (k := 1) HR.out hrd1 hg1
  generalize (w1.alloc (.cells #[.int .i64 1, .int .i64 0, .string ⟨#[]⟩] 35)) = wx at *
  generalize w1.heap.size = g3 at *
  generalize w.heap.size = g2 at *
  obtain ⟨x0, x1, x2⟩ := hvs.box.cells
  have z0 := hvs.box.frozen 0
  have z1 := hvs.box.frozen 1
  have z2 := hvs.box.frozen 2
  obtain ⟨y0, y1, y2⟩ := hvs.res.cells
  have f0 := hvs.res.frozen 0
  have f1 := hvs.res.frozen 1
  have f2 := hvs.res.frozen 2
  have n23 := hvs.ne
  have VS := Lib.hid hvs
  clear hvs hrd1 hg1
  have hd := HDC.out
  rw [if_neg (by decide), if_neg (by decide), if_neg (by decide)] at hd
  rcases r with _ | ⟨x, q⟩
  · rw [if_pos (by decide)] at hd
    have HD := Lib.hid (show (decOne [2]).1 = 3 by rw [hd])
    clear hd
    go_wp2_with (first | (go_at_call 39; refine (HNN.out _ _ _ _ VS.out.rd).mono ?_; rintro e w' ⟨rfl, rfl⟩))
    exact ⟨rfl, HB.out 3 _ HD.out (by decide) VS.out.gro⟩
  · have hx8 : x < 256 := VS.out.rd.row.lt x (by simp)
    have hnl : ¬ (x :: q).length < nB 2 := by simp [nB]
    have hnu : numU ((x :: q).take (nB 2)) = x := by
      show 0 * 256 + x = x
      omega
    rw [if_neg hnl, hnu] at hd
    have hk : numK (((2 : Nat) : Int) - 1) x = if 1 < x then (0, 2) else ((x : Int), 0) := rfl
    rw [hk] at hd
    by_cases c1 : 1 < x
    · rw [if_pos c1, if_neg (by decide)] at hd
      have HD := Lib.hid (show (decOne (2 :: x :: q)).1 = 2 by rw [hd])
      have p1 : decide ((x : Int) ≤ 1) = false := by simp; omega
      have p2 : ¬ (x : Int) ≤ 1 := by omega
      clear hd hk hnu hnl
      go_wp2_with (first | (go_at_call 40; refine (HMN.out _ _).mono ?_; rintro e w' ⟨rfl, rfl⟩) | (go_at_call 39; refine (HNC.out _ _ _ _ _ _ (by have := HL.out; simp only [List.length_cons] at this; omega) VS.out.rd).mono ?_; rintro e w2 ⟨rfl, hrd2, hg2⟩; clear x0 x1 x2 z0 z1 z2 y0 y1 y2 f0 f1 f2; have VS2 := Lib.hid (VS.out.next hrd2 (by simp) hg2); obtain ⟨x0, x1, x2⟩ := VS2.out.box.cells; have z0 := VS2.out.box.frozen 0; have z1 := VS2.out.box.frozen 1; have z2 := VS2.out.box.frozen 2; obtain ⟨y0, y1, y2⟩ := VS2.out.res.cells; have f0 := VS2.out.res.frozen 0; have f1 := VS2.out.res.frozen 1; have f2 := VS2.out.res.frozen 2; clear hrd2 hg2))
      exact ⟨rfl, HB.out 2 _ HD.out (by decide) (VS2.out.setN _).gro⟩
    · rw [if_neg c1] at hd
      have HD := Lib.hid (show decOne (2 :: x :: q) = (0, (1, (x : Int), Em), q) from hd)
      have p1 : (x : Int) ≤ 1 := by omega
      clear hd hk hnu hnl
      go_wp2_with (first | (go_at_call 40; refine (HMO.out _ _).mono ?_; rintro e w' ⟨rfl, rfl⟩) | (go_at_call 39; refine (HNC.out _ _ _ _ _ _ (by have := HL.out; simp only [List.length_cons] at this; omega) VS.out.rd).mono ?_; rintro e w2 ⟨rfl, hrd2, hg2⟩; clear x0 x1 x2 z0 z1 z2 y0 y1 y2 f0 f1 f2; have VS2 := Lib.hid (VS.out.next hrd2 (by simp) hg2); obtain ⟨x0, x1, x2⟩ := VS2.out.box.cells; have z0 := VS2.out.box.frozen 0; have z1 := VS2.out.box.frozen 1; have z2 := VS2.out.box.frozen 2; obtain ⟨y0, y1, y2⟩ := VS2.out.res.cells; have f0 := VS2.out.res.frozen 0; have f1 := VS2.out.res.frozen 1; have f2 := VS2.out.res.frozen 2; clear hrd2 hg2))
      exact bodyPost_ret (v := Vv 1 (x : Int) Em) (by simp [results, Try.results28, go_sem, y0, y1, y2, Vv]) rfl (HG.out 1 (x : Int) Em _ _ _ HD.out ((VS2.out.setN _).out _ _ _))

set_option maxHeartbeats 2000000 in
theorem val_int (w : World) (gr b off : Nat) (r : List Nat) (hl : r.length ≤ 4294967295) (h : Rd w gr b off (3 :: r)) :
    Calls Try.prog 28 #[.pointer (some ⟨gr, 0, none⟩)] w fun e w' => ValR w gr b (decOne (3 :: r)) e w' := by
  generalize hP : (fun (e : Ending) (w' : World) => ValR w gr b (decOne (3 :: r)) e w') = P
  have hgood : ∀ (k n : Int) (s : ByteArray) (r' : List Nat) (w' : World) (off' : Nat), decOne (3 :: r) = (0, (k, n, s), r') → w.grownBy w' (some gr) ∧ Rd w' gr b off' r' → P (.returned (Vv k n s)) w' := by
    intro k n s r' w' off' h1 h2; rw [← hP]; exact ValR.good h1 h2.1 h2.2
  have hbad : ∀ (er : Int) (w' : World), (decOne (3 :: r)).1 = er → er ≠ 0 → w.grownBy w' (some gr) → P (Pan er) w' := by
    intro er w' h1 h2 h3; rw [← hP]; exact ValR.bad h1 h2 h3
  have HG := Lib.hid hgood
  have HB := Lib.hid hbad
  have HL := Lib.hid hl
  have HR := Lib.hid h
  have HRA := Lib.hid (h.below ((Below.refl _ _).alloc (Nat.le_refl _) (.cells #[.int .i64 0, .int .i64 0, .string Em] 35)))
  have HNC := Lib.hid next_cons
  have HNN := Lib.hid next_nil
  have HNU := Lib.hid number_step
  have HTE := Lib.hid text_step
  have HMO := Lib.hid must_ok
  have HMN := Lib.hid must_no
  have HDC := Lib.hid (decOne_cons 3 r)
  clear hP hgood hbad h hl
  go_enter Try.func28, Try.ntmps28
  go_upto_region 2 with (first | (go_at_call 39; refine (HNC.out _ _ _ _ _ _ (by have := HL.out; omega) HRA.out).mono ?_; rintro e w1 ⟨rfl, hrd1, hg1⟩))
  have hvs := Vs.first (k := 2) HR.out hrd1 hg1
  generalize (w1.alloc (.cells #[.int .i64 2, .int .i64 0, .string ⟨#[]⟩] 35)) = wx at *
  generalize w1.heap.size = g3 at *
  generalize w.heap.size = g2 at *
  obtain ⟨x0, x1, x2⟩ := hvs.box.cells
  have z0 := hvs.box.frozen 0
  have z1 := hvs.box.frozen 1
  have z2 := hvs.box.frozen 2
  obtain ⟨y0, y1, y2⟩ := hvs.res.cells
  have f0 := hvs.res.frozen 0
  have f1 := hvs.res.frozen 1
  have f2 := hvs.res.frozen 2
  have n23 := hvs.ne
  have VS := Lib.hid hvs
  clear hvs hrd1 hg1
  have hd := HDC.out
  rw [if_neg (by decide), if_neg (by decide), if_neg (by decide)] at hd
  have hlt := VS.out.rd.row.lt
  rw [show nB 3 = 8 from rfl] at hd
  by_cases c8 : r.length < 8
  · rw [if_pos c8] at hd
    have HD := Lib.hid (show (decOne (3 :: r)).1 = 3 by rw [hd])
    have H8 := Lib.hid c8
    clear hd c8
    go_wp2_with (first | (go_at_call 41; refine (HNU.out _ _ _ _ _ (by have := HL.out; omega) VS.out.rd).mono ?_; rintro e w2 ⟨hg2, hok, hno⟩; obtain rfl := hno H8.out))
    exact ⟨rfl, HB.out 3 _ HD.out (by decide) (VS.out.gone hg2)⟩
  · rw [if_neg c8] at hd
    have hv := numU_lt 8 (r.take 8) (fun x hx => hlt x (List.mem_of_mem_take hx)) (by rw [List.length_take]; omega)
    obtain ⟨u, hu⟩ : ∃ u, numU (r.take 8) = u := ⟨_, rfl⟩
    rw [hu] at hd hv
    have hu64 : u < 18446744073709551616 := hv
    have hx := xor_top u hu64
    obtain ⟨y, hy⟩ : ∃ y, (if u < 9223372036854775808 then u + 9223372036854775808 else u - 9223372036854775808 : Nat) = y := ⟨_, rfl⟩
    rw [hy] at hx
    have e1 : IntKind.i64.wrap (y : Int) = (u : Int) - 9223372036854775808 := by
      rw [IntKind.wrap_i64]
      split at hy <;> omega
    have HD := Lib.hid (show decOne (3 :: r) = (0, (2, (u : Int) - 9223372036854775808, Em), r.drop 8) from hd)
    have H8 := Lib.hid (show 8 ≤ r.length by omega)
    have HU := Lib.hid hu
    clear hd c8 hv hy hlt hu
    go_wp2_with (first | (go_at_call 41; refine (HNU.out _ _ _ _ _ (by have := HL.out; omega) VS.out.rd).mono ?_; rintro e w2 ⟨hg2, hok, hno⟩; obtain ⟨rfl, hrd2⟩ := hok H8.out; rw [HU.out]; clear x0 x1 x2 z0 z1 z2 y0 y1 y2 f0 f1 f2; have VS2 := Lib.hid (VS.out.next hrd2 (by rw [List.length_drop]; omega) hg2); obtain ⟨x0, x1, x2⟩ := VS2.out.box.cells; have z0 := VS2.out.box.frozen 0; have z1 := VS2.out.box.frozen 1; have z2 := VS2.out.box.frozen 2; obtain ⟨y0, y1, y2⟩ := VS2.out.res.cells; have f0 := VS2.out.res.frozen 0; have f1 := VS2.out.res.frozen 1; have f2 := VS2.out.res.frozen 2; clear hrd2 hg2))
    exact bodyPost_ret (v := Vv 2 ((u : Int) - 9223372036854775808) Em) (by simp [results, Try.results28, go_sem, y0, y1, y2, Vv]) rfl (HG.out 2 ((u : Int) - 9223372036854775808) Em _ _ _ HD.out ((VS2.out.setN _).out _ _ _))

set_option maxHeartbeats 2000000 in
theorem val_real (w : World) (gr b off : Nat) (r : List Nat) (hl : r.length ≤ 4294967295) (h : Rd w gr b off (4 :: r)) :
    Calls Try.prog 28 #[.pointer (some ⟨gr, 0, none⟩)] w fun e w' => ValR w gr b (decOne (4 :: r)) e w' := by
  generalize hP : (fun (e : Ending) (w' : World) => ValR w gr b (decOne (4 :: r)) e w') = P
  have hgood : ∀ (k n : Int) (s : ByteArray) (r' : List Nat) (w' : World) (off' : Nat), decOne (4 :: r) = (0, (k, n, s), r') → w.grownBy w' (some gr) ∧ Rd w' gr b off' r' → P (.returned (Vv k n s)) w' := by
    intro k n s r' w' off' h1 h2; rw [← hP]; exact ValR.good h1 h2.1 h2.2
  have hbad : ∀ (er : Int) (w' : World), (decOne (4 :: r)).1 = er → er ≠ 0 → w.grownBy w' (some gr) → P (Pan er) w' := by
    intro er w' h1 h2 h3; rw [← hP]; exact ValR.bad h1 h2 h3
  have HG := Lib.hid hgood
  have HB := Lib.hid hbad
  have HL := Lib.hid hl
  have HR := Lib.hid h
  have HRA := Lib.hid (h.below ((Below.refl _ _).alloc (Nat.le_refl _) (.cells #[.int .i64 0, .int .i64 0, .string Em] 35)))
  have HNC := Lib.hid next_cons
  have HNN := Lib.hid next_nil
  have HNU := Lib.hid number_step
  have HTE := Lib.hid text_step
  have HMO := Lib.hid must_ok
  have HMN := Lib.hid must_no
  have HTB := Lib.hid turnback_any
  have HPL := Lib.hid placed_any
  have HDC := Lib.hid (decOne_cons 4 r)
  clear hP hgood hbad h hl
  go_enter Try.func28, Try.ntmps28
  go_upto_region 2 with (first | (go_at_call 39; refine (HNC.out _ _ _ _ _ _ (by have := HL.out; omega) HRA.out).mono ?_; rintro e w1 ⟨rfl, hrd1, hg1⟩))
  have hvs := Vs.first (k := 3) HR.out hrd1 hg1
  generalize (w1.alloc (.cells #[.int .i64 3, .int .i64 0, .string ⟨#[]⟩] 35)) = wx at *
  generalize w1.heap.size = g3 at *
  generalize w.heap.size = g2 at *
  obtain ⟨x0, x1, x2⟩ := hvs.box.cells
  have z0 := hvs.box.frozen 0
  have z1 := hvs.box.frozen 1
  have z2 := hvs.box.frozen 2
  obtain ⟨y0, y1, y2⟩ := hvs.res.cells
  have f0 := hvs.res.frozen 0
  have f1 := hvs.res.frozen 1
  have f2 := hvs.res.frozen 2
  have n23 := hvs.ne
  have VS := Lib.hid hvs
  clear hvs hrd1 hg1
  have hd := HDC.out
  rw [if_neg (by decide), if_neg (by decide), if_neg (by decide)] at hd
  have hlt := VS.out.rd.row.lt
  rw [show nB 4 = 8 from rfl] at hd
  by_cases c8 : r.length < 8
  · rw [if_pos c8] at hd
    have HD := Lib.hid (show (decOne (4 :: r)).1 = 3 by rw [hd])
    have H8 := Lib.hid c8
    clear hd c8
    go_wp2_with (first | (go_at_call 41; refine (HNU.out _ _ _ _ _ (by have := HL.out; omega) VS.out.rd).mono ?_; rintro e w2 ⟨hg2, hok, hno⟩; obtain rfl := hno H8.out))
    exact ⟨rfl, HB.out 3 _ HD.out (by decide) (VS.out.gone hg2)⟩
  · rw [if_neg c8] at hd
    have hv := numU_lt 8 (r.take 8) (fun x hx => hlt x (List.mem_of_mem_take hx)) (by rw [List.length_take]; omega)
    obtain ⟨u, hu⟩ : ∃ u, numU (r.take 8) = u := ⟨_, rfl⟩
    rw [hu] at hd hv
    have hu64 : u < 18446744073709551616 := hv
    have hin := realN_in hu64
    have HTU := Lib.hid (HTB.out u hu64)
    have HPU := Lib.hid (HPL.out (realN u) hin)
    have hself := plV_self (n := realN u)
    have hk : numK (((4 : Nat) : Int) - 1) u = if realN u = -9223372036854775808 ∨ realN u ≠ PCanon (realN u) then (0, 2) else (realN u, 0) := rfl
    rw [hk] at hd
    have H8 := Lib.hid (show 8 ≤ r.length by omega)
    have HU := Lib.hid hu
    clear c8 hv hlt hu hk hin
    by_cases g : realN u = -9223372036854775808 ∨ realN u ≠ PCanon (realN u)
    · rw [if_pos g, if_neg (by decide)] at hd
      have HD := Lib.hid (show (decOne (4 :: r)).1 = 2 by rw [hd])
      have hp : ¬ realN u = plV (realN u) := fun e => (hself.1 e.symm) g
      have hp1 : (realN u == plV (realN u)) = false := by simpa using hp
      clear hd g hself
      generalize plV (realN u) = pv at *
      generalize realN u = rn at *
      go_wp2_with (first | (go_at_call 42; refine (HTU.out _).mono ?_; rintro e w' ⟨rfl, rfl⟩) | (go_at_call 41; refine (HNU.out _ _ _ _ _ (by have := HL.out; omega) VS.out.rd).mono ?_; rintro e w2 ⟨hg2, hok, hno⟩; obtain ⟨rfl, hrd2⟩ := hok H8.out; rw [HU.out]; clear x0 x1 x2 z0 z1 z2 y0 y1 y2 f0 f1 f2; have VS2 := Lib.hid (VS.out.next hrd2 (by rw [List.length_drop]; omega) hg2); obtain ⟨x0, x1, x2⟩ := VS2.out.box.cells; have z0 := VS2.out.box.frozen 0; have z1 := VS2.out.box.frozen 1; have z2 := VS2.out.box.frozen 2; obtain ⟨y0, y1, y2⟩ := VS2.out.res.cells; have f0 := VS2.out.res.frozen 0; have f1 := VS2.out.res.frozen 1; have f2 := VS2.out.res.frozen 2; clear hrd2 hg2))
      have VS3 := Lib.hid (VS2.out.setN rn)
      generalize w2.setCell ⟨g3, 1, none⟩ (.int .i64 rn) = w3 at *
      clear x0 x1 x2 z0 z1 z2 y0 y1 y2 f0 f1 f2
      obtain ⟨x0, x1, x2⟩ := VS3.out.box.cells; have z0 := VS3.out.box.frozen 0; have z1 := VS3.out.box.frozen 1; have z2 := VS3.out.box.frozen 2; obtain ⟨y0, y1, y2⟩ := VS3.out.res.cells; have f0 := VS3.out.res.frozen 0; have f1 := VS3.out.res.frozen 1; have f2 := VS3.out.res.frozen 2
      refine wp_region_still_tail 6 (by kernel_rfl) (by kernel_rfl) ?_
      simp only [List.take_succ_cons, List.take_zero, List.drop_succ_cons, List.drop_zero]
      still_step
      still_step
      still_step
      still_step
      still_call (same' (HPU.out _))
      still_step
      refine wpStill_nil ?_
      change wpList _ _ _ _ _ w3.drew
      have VS4 := Lib.hid VS3.out.drew
      generalize w3.drew = w4 at *
      clear x0 x1 x2 z0 z1 z2 y0 y1 y2 f0 f1 f2
      obtain ⟨x0, x1, x2⟩ := VS4.out.box.cells; have z0 := VS4.out.box.frozen 0; have z1 := VS4.out.box.frozen 1; have z2 := VS4.out.box.frozen 2; obtain ⟨y0, y1, y2⟩ := VS4.out.res.cells; have f0 := VS4.out.res.frozen 0; have f1 := VS4.out.res.frozen 1; have f2 := VS4.out.res.frozen 2
      go_wp2_with (first | (go_at_call 37; refine (HPU.out _).mono ?_; rintro e w' ⟨rfl, rfl⟩) | (go_at_call 40; refine (HMN.out _ _).mono ?_; rintro e w' ⟨rfl, rfl⟩))
      exact ⟨rfl, HB.out 2 _ HD.out (by decide) VS4.out.gro⟩
    · rw [if_neg g, if_pos rfl] at hd
      have HD := Lib.hid (show decOne (4 :: r) = (0, (3, realN u, Em), r.drop 8) from hd)
      have hp : plV (realN u) = realN u := hself.2 g
      rw [hp] at HPU
      clear hd g hself hp
      generalize realN u = rn at *
      have hrr : (rn == rn) = true := by simp
      go_wp2_with (first | (go_at_call 42; refine (HTU.out _).mono ?_; rintro e w' ⟨rfl, rfl⟩) | (go_at_call 41; refine (HNU.out _ _ _ _ _ (by have := HL.out; omega) VS.out.rd).mono ?_; rintro e w2 ⟨hg2, hok, hno⟩; obtain ⟨rfl, hrd2⟩ := hok H8.out; rw [HU.out]; clear x0 x1 x2 z0 z1 z2 y0 y1 y2 f0 f1 f2; have VS2 := Lib.hid (VS.out.next hrd2 (by rw [List.length_drop]; omega) hg2); obtain ⟨x0, x1, x2⟩ := VS2.out.box.cells; have z0 := VS2.out.box.frozen 0; have z1 := VS2.out.box.frozen 1; have z2 := VS2.out.box.frozen 2; obtain ⟨y0, y1, y2⟩ := VS2.out.res.cells; have f0 := VS2.out.res.frozen 0; have f1 := VS2.out.res.frozen 1; have f2 := VS2.out.res.frozen 2; clear hrd2 hg2))
      have VS3 := Lib.hid (VS2.out.setN rn)
      generalize w2.setCell ⟨g3, 1, none⟩ (.int .i64 rn) = w3 at *
      clear x0 x1 x2 z0 z1 z2 y0 y1 y2 f0 f1 f2
      obtain ⟨x0, x1, x2⟩ := VS3.out.box.cells; have z0 := VS3.out.box.frozen 0; have z1 := VS3.out.box.frozen 1; have z2 := VS3.out.box.frozen 2; obtain ⟨y0, y1, y2⟩ := VS3.out.res.cells; have f0 := VS3.out.res.frozen 0; have f1 := VS3.out.res.frozen 1; have f2 := VS3.out.res.frozen 2
      refine wp_region_still_tail 6 (by kernel_rfl) (by kernel_rfl) ?_
      simp only [List.take_succ_cons, List.take_zero, List.drop_succ_cons, List.drop_zero]
      still_step
      still_step
      still_step
      still_step
      still_call (same' (HPU.out _))
      still_step
      refine wpStill_nil ?_
      change wpList _ _ _ _ _ w3.drew
      have VS4 := Lib.hid VS3.out.drew
      generalize w3.drew = w4 at *
      clear x0 x1 x2 z0 z1 z2 y0 y1 y2 f0 f1 f2
      obtain ⟨x0, x1, x2⟩ := VS4.out.box.cells; have z0 := VS4.out.box.frozen 0; have z1 := VS4.out.box.frozen 1; have z2 := VS4.out.box.frozen 2; obtain ⟨y0, y1, y2⟩ := VS4.out.res.cells; have f0 := VS4.out.res.frozen 0; have f1 := VS4.out.res.frozen 1; have f2 := VS4.out.res.frozen 2
      go_wp2_with (first | (go_at_call 37; refine (HPU.out _).mono ?_; rintro e w' ⟨rfl, rfl⟩) | (go_at_call 40; refine (HMO.out _ _).mono ?_; rintro e w' ⟨rfl, rfl⟩))
      exact bodyPost_ret (v := Vv 3 rn Em) (by simp [results, Try.results28, go_sem, y0, y1, y2, Vv]) rfl (HG.out 3 rn Em _ _ _ HD.out (VS4.out.out _ _ _))

set_option maxHeartbeats 2000000 in
theorem val_text (w : World) (gr b off : Nat) (r : List Nat) (hl : r.length ≤ 4294967295) (h : Rd w gr b off (5 :: r)) :
    Calls Try.prog 28 #[.pointer (some ⟨gr, 0, none⟩)] w fun e w' => ValR w gr b (decOne (5 :: r)) e w' := by
  generalize hP : (fun (e : Ending) (w' : World) => ValR w gr b (decOne (5 :: r)) e w') = P
  have hgood : ∀ (k n : Int) (s : ByteArray) (r' : List Nat) (w' : World) (off' : Nat), decOne (5 :: r) = (0, (k, n, s), r') → w.grownBy w' (some gr) ∧ Rd w' gr b off' r' → P (.returned (Vv k n s)) w' := by
    intro k n s r' w' off' h1 h2; rw [← hP]; exact ValR.good h1 h2.1 h2.2
  have hbad : ∀ (er : Int) (w' : World), (decOne (5 :: r)).1 = er → er ≠ 0 → w.grownBy w' (some gr) → P (Pan er) w' := by
    intro er w' h1 h2 h3; rw [← hP]; exact ValR.bad h1 h2 h3
  have HG := Lib.hid hgood
  have HB := Lib.hid hbad
  have HL := Lib.hid hl
  have HR := Lib.hid h
  have HRA := Lib.hid (h.below ((Below.refl _ _).alloc (Nat.le_refl _) (.cells #[.int .i64 0, .int .i64 0, .string Em] 35)))
  have HNC := Lib.hid next_cons
  have HNN := Lib.hid next_nil
  have HNU := Lib.hid number_step
  have HTE := Lib.hid text_step
  have HMO := Lib.hid must_ok
  have HMN := Lib.hid must_no
  have HDC := Lib.hid (decOne_cons 5 r)
  clear hP hgood hbad h hl
  go_enter Try.func28, Try.ntmps28
  go_upto_region 2 with (first | (go_at_call 39; refine (HNC.out _ _ _ _ _ _ (by have := HL.out; omega) HRA.out).mono ?_; rintro e w1 ⟨rfl, hrd1, hg1⟩))
  have hvs := Vs.first (k := 4) HR.out hrd1 hg1
  generalize (w1.alloc (.cells #[.int .i64 4, .int .i64 0, .string ⟨#[]⟩] 35)) = wx at *
  generalize w1.heap.size = g3 at *
  generalize w.heap.size = g2 at *
  obtain ⟨x0, x1, x2⟩ := hvs.box.cells
  have z0 := hvs.box.frozen 0
  have z1 := hvs.box.frozen 1
  have z2 := hvs.box.frozen 2
  obtain ⟨y0, y1, y2⟩ := hvs.res.cells
  have f0 := hvs.res.frozen 0
  have f1 := hvs.res.frozen 1
  have f2 := hvs.res.frozen 2
  have n23 := hvs.ne
  have VS := Lib.hid hvs
  clear hvs hrd1 hg1
  have hd := HDC.out
  rw [if_neg (by decide), if_neg (by decide), if_pos (by decide)] at hd
  obtain ⟨X, hX⟩ : ∃ X, txt 0 r = X := ⟨_, rfl⟩
  have hlen := txt_len r 0
  have htx := HTE.out wx gr b (off + 1) r (by have := HL.out; omega) VS.out.rd
  rw [hX] at hd htx hlen
  have HTX := Lib.hid htx
  clear htx
  by_cases c : X.1 = 0
  · rw [if_pos c] at hd
    have HD := Lib.hid hd
    have HC := Lib.hid c
    have HLN := Lib.hid (hlen c)
    clear hd c hX hlen
    go_wp2_with (first | (go_at_call 43; refine HTX.out.mono ?_; rintro e w2 ⟨hg2, hok, hno⟩; obtain ⟨rfl, off2, hrd2⟩ := hok HC.out; clear x0 x1 x2 z0 z1 z2 y0 y1 y2 f0 f1 f2; have VS2 := Lib.hid (VS.out.next hrd2 (Nat.le_of_lt HLN.out) hg2); obtain ⟨x0, x1, x2⟩ := VS2.out.box.cells; have z0 := VS2.out.box.frozen 0; have z1 := VS2.out.box.frozen 1; have z2 := VS2.out.box.frozen 2; obtain ⟨y0, y1, y2⟩ := VS2.out.res.cells; have f0 := VS2.out.res.frozen 0; have f1 := VS2.out.res.frozen 1; have f2 := VS2.out.res.frozen 2; clear hrd2 hg2))
    exact bodyPost_ret (v := Vv 4 0 (strB X.2.1)) (by simp [results, Try.results28, go_sem, y0, y1, y2, Vv]) rfl (HG.out 4 0 (strB X.2.1) _ _ _ HD.out ((VS2.out.setT _).out _ _ _))
  · rw [if_neg c] at hd
    have HD := Lib.hid (show (decOne (5 :: r)).1 = X.1 by rw [hd])
    have HC := Lib.hid c
    clear hd c hX hlen
    go_wp2_with (first | (go_at_call 43; refine HTX.out.mono ?_; rintro e w2 ⟨hg2, hok, hno⟩; obtain rfl := hno HC.out))
    exact ⟨rfl, HB.out _ _ HD.out HC.out (VS.out.gone hg2)⟩

theorem value_step (w : World) (gr b off c : Nat) (r : List Nat) (hl : r.length ≤ 4294967295) (h : Rd w gr b off (c :: r)) :
    Calls Try.prog 28 #[.pointer (some ⟨gr, 0, none⟩)] w fun e w' => ValR w gr b (decOne (c :: r)) e w' := by
  have hc : (c = 0 ∨ 5 < c) ∨ c = 1 ∨ c = 2 ∨ c = 3 ∨ c = 4 ∨ c = 5 := by omega
  rcases hc with hc | rfl | rfl | rfl | rfl | rfl
  · exact val_wrong w gr b off c r hl hc h
  · exact val_null w gr b off r hl h
  · exact val_bool w gr b off r hl h
  · exact val_int w gr b off r hl h
  · exact val_real w gr b off r hl h
  · exact val_text w gr b off r hl h

end Go.Proofs.Ytpknoclnmhomiaa
