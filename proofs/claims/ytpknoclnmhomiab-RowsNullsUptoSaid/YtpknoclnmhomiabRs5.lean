/-
  Package rows over the translation: read, a value of a column out of bytes.
  Conditions: the bytes lie in memory.
-/
import Derived.Test.YtpknoclnmhomiabRs4
namespace Go.Proofs.Ytpknoclnmhomiab
open Go.RowKit Go.Joins Go.ChangeShapes Go.WideShapes
set_option linter.unusedVariables false

theorem numL_snoc (l : List Nat) (c : Nat) : numL (l ++ [c]) = numL l + 256 ^ l.length * c := by
  induction l with
  | nil => show c + 256 * 0 = 0 + 256 ^ 0 * c; omega
  | cons a l ih =>
    show a + 256 * numL (l ++ [c]) = a + 256 * numL l + 256 ^ (l.length + 1) * c
    rw [ih, Nat.pow_succ, Nat.mul_add, Nat.mul_comm (256 ^ l.length) 256, Nat.mul_assoc]
    omega
theorem ofInt_sgn {A : Nat} (h : A < 18446744073709551616) : (BitVec.ofInt IntKind.i64.bits (sgn A)).toNat = A := by
  rw [BitVec.toNat_ofInt]
  show (sgn A % 18446744073709551616).toNat = A
  unfold sgn
  split <;> omega
theorem or_sgn {A B : Nat} (hA : A < 18446744073709551616) (hB : B < 18446744073709551616) : bits .or .i64 (sgn A) (sgn B) = sgn (A ||| B) := by
  unfold bits
  dsimp only
  rw [BitVec.toNat_or, ofInt_sgn hA, ofInt_sgn hB]
  exact sgn_wrap (Nat.or_lt_two_pow (n := 64) hA hB)
theorem or_more (A c j : Nat) (hj : j ≤ 7) (hc : c < 256) (hA : A < 256 ^ j) : bits .or .i64 (sgn A) (sgn (256 ^ j * c)) = sgn (A + 256 ^ j * c) := by
  have e : (256 : Nat) ^ j = 2 ^ (8 * j) := by rw [Nat.pow_mul]
  have h1 : (256 : Nat) ^ j * 256 ≤ 18446744073709551616 := by
    have : (256 : Nat) ^ (j + 1) ≤ 256 ^ 8 := Nat.pow_le_pow_right (by decide) (by omega)
    rw [Nat.pow_succ] at this
    exact this
  have h2 : 256 ^ j * c < 18446744073709551616 := Nat.lt_of_lt_of_le (Nat.mul_lt_mul_of_pos_left hc (Nat.pow_pos (by decide))) h1
  have h3 : 256 ^ j < 18446744073709551616 := Nat.lt_of_lt_of_le (by have : 256 ^ j * 1 < 256 ^ j * 256 := Nat.mul_lt_mul_of_pos_left (by decide) (Nat.pow_pos (by decide)); omega) h1
  rw [or_sgn (Nat.lt_trans hA h3) h2]
  rw [e] at hA ⊢
  have := Nat.two_pow_add_eq_or_of_lt hA c
  rw [Nat.or_comm, ← this, Nat.add_comm]

/-- the checks at the end of a number are the document's -/
theorem rone_num (t : Int) (ht : t = 1 ∨ t = 2 ∨ t = 3) (R : List Nat) (u : Nat) (h : ¬ R.length < nby t) (hu : numL (R.take (nby t)) = u) (hlt : u < 18446744073709551616) (h1 : t = 1 → u < 256) :
    (rone t R 0).1 = VCheck t (sgn u) Em ∧ ((rone t R 0).1 = 0 → rone t R 0 = (0, (t, sgn u, Em), nby t)) := by
  have hs : ¬ R.length < 0 + nby t := by rw [Nat.zero_add]; exact h
  rcases ht with rfl | rfl | rfl
  · by_cases c : 1 < u
    · have e := rone_1big R 0 u hs hu c
      have hv : VCheck 1 (sgn u) Em = 2 := vcheck_eq 1 (sgn u) Em 2 (.inr (.inr (.inl ⟨by decide, by decide, by
        have : sgn u = (u : Int) := if_pos (by have := h1 rfl; omega)
        rw [this]
        simp [RightNum]
        omega, rfl⟩)))
      rw [e, hv]
      exact ⟨rfl, fun h => absurd h (by decide)⟩
    · have e := rone_1 R 0 u hs hu c
      have hsg : sgn u = (u : Int) := if_pos (by omega)
      have hv : VCheck 1 (sgn u) Em = 0 := vck_num (by decide) (by decide) (by
        rw [hsg]
        have : u = 0 ∨ u = 1 := by omega
        rcases this with rfl | rfl <;> rfl)
      rw [e, hv, hsg]
      exact ⟨rfl, fun _ => rfl⟩
  · have e := rone_2 R 0 u hs hu
    rw [e, vck_num (k := 2) (n := sgn u) (by decide) (by decide) rfl]
    exact ⟨rfl, fun _ => rfl⟩
  · have hin := (sgn_in hlt).1
    by_cases c : PCanon (sgn u) = sgn u
    · have e := rone_3 R 0 u hs hu c
      rw [e, vck_num (k := 3) (n := sgn u) (by decide) (by decide) (rgt3' hin c.symm)]
      exact ⟨rfl, fun _ => rfl⟩
    · have e := rone_3bad R 0 u hs hu c
      have hv : VCheck 3 (sgn u) Em = 2 := vcheck_eq 3 (sgn u) Em 2 (.inr (.inr (.inl ⟨by decide, by decide, by
        rcases hr : RightNum 3 (sgn u) with _ | _
        · rfl
        · exact absurd (rgt3 hin hr).symm c, rfl⟩)))
      rw [e, hv]
      exact ⟨rfl, fun h => absurd h (by decide)⟩

/-- the two boxes that read makes: the column, the result -/
theorem rd_boxes (w : World) (m : ByteArray) (t : Int) (q : Bool) :
    Below w.heap.size w ((w.alloc (.cells #[.string m, .int .i64 t, .bool q] 47)).alloc (.cells #[.int .i64 0, .int .i64 0, .string Em] 43)) ∧
    BoxC ((w.alloc (.cells #[.string m, .int .i64 t, .bool q] 47)).alloc (.cells #[.int .i64 0, .int .i64 0, .string Em] 43)) w.heap.size m t q ∧
    BoxV ((w.alloc (.cells #[.string m, .int .i64 t, .bool q] 47)).alloc (.cells #[.int .i64 0, .int .i64 0, .string Em] 43)) (w.heap.size + 1) 0 0 Em := by
  refine ⟨((Below.refl _ _).alloc (Nat.le_refl _) _).alloc (by simp) _, (boxC_new w m t q).alloc _, ?_⟩
  have := boxV_new (w.alloc (.cells #[.string m, .int .i64 t, .bool q] 47)) 0 0 Em
  rwa [show (w.alloc (.cells #[.string m, .int .i64 t, .bool q] 47)).heap.size = w.heap.size + 1 by simp] at this
/-- a number that is being read: the value's box, the result's box, the bytes -/
structure Rw (w wr : World) (t x : Int) (g2 g3 b off : Nat) (R : List Nat) : Prop where
  h1 : BoxV wr g3 t x Em
  h2 : BoxV wr g2 0 0 Em
  h3 : Below w.heap.size w wr
  h4 : IsB wr b off R
theorem Rw.drew {w wr : World} {t x : Int} {g2 g3 b off : Nat} {R : List Nat} (h : Rw w wr t x g2 g3 b off R) : Rw w wr.drew t x g2 g3 b off R := ⟨h.h1, h.h2, h.h3.drew, h.h4.below (Below.refl _ _).drew⟩
theorem Rw.set {w wr : World} {t x : Int} {g2 g3 b off : Nat} {R : List Nat} (h : Rw w wr t x g2 g3 b off R) (hb : b < g3) (hg : w.heap.size ≤ g3) (hne : g2 ≠ g3) (y : Int) : Rw w (wr.setCell ⟨g3, 1, none⟩ (.int .i64 y)) t y g2 g3 b off R := by
  refine ⟨h.h1.boxX.setV y, ?_, h.h3.setCell (p := ⟨g3, 1, none⟩) hg _, ⟨fun hl => by simpa [World.setCell] using h.h4.hb hl, fun i z hz => ?_, h.h4.lt⟩⟩
  · exact (heap_setCell_other wr ⟨g3, 1, none⟩ g2 _ hne).trans h.h2
  · rw [World.cell?_setCell_other _ _ _ _ (fun e => by injection e with e1 e2; omega)]
    exact h.h4.c i z hz
theorem Rw.step {w wr w1 : World} {t x : Int} {g2 g3 b off : Nat} {R : List Nat} (h : Rw w wr t x g2 g3 b off R) (hb : Below wr.heap.size wr w1) : Rw w w1 t x g2 g3 b off R := ⟨h.h1.below hb, h.h2.below hb, stepB h.h3 hb, h.h4.below hb⟩
theorem below_set3 {w wx : World} {B g : Nat} (h : Below B w wx) (hg : B ≤ g) (u0 u1 u2 : Value) : Below B w (((wx.setCell ⟨g, 0, none⟩ u0).setCell ⟨g, 1, none⟩ u1).setCell ⟨g, 2, none⟩ u2) :=
  ((h.setCell (p := ⟨g, 0, none⟩) hg u0).setCell (p := ⟨g, 1, none⟩) hg u1).setCell (p := ⟨g, 2, none⟩) hg u2

set_option maxRecDepth 100000 in
set_option maxHeartbeats 4000000 in
theorem read_null (m : ByteArray) (t : Int) (q : Bool) (a : Option Addr) (b off cap : Nat) (R : List Nat) (hcap : R.length ≤ cap) (hcm : cap ≤ maxLen) (hm : R.length ≤ 4294967296) (w : World) (ha : R.length = 0 ∨ a = some ⟨b, off, none⟩) (hA : IsB w b off R) :
    Calls Try.prog 24 #[Cc m t q, .bool true, .slice a R.length cap] w fun e w' => OneOk w ((if q = true then (60, (0, 0, Em), 0) else (0, (0, 0, Em), 0)) : Int × Vt × Nat) e w' := by
  generalize hP : (fun (e : Ending) (w' : World) => OneOk w ((if q = true then (60, (0, 0, Em), 0) else (0, (0, 0, Em), 0)) : Int × Vt × Nat) e w') = P
  have hbad : ∀ (c : Int), c ≠ 0 → (((if q = true then (60, (0, 0, Em), 0) else (0, (0, 0, Em), 0)) : Int × Vt × Nat) : Int × Vt × Nat).1 = c → ∀ (k n : Int) (s : ByteArray) (qq : Nat) (w' : World), Below w.heap.size w w' → P (.returned (.tuple #[Vv k n s, .int .i64 (qq : Nat), .int .i64 c])) w' := by
    intro c hc hX k n s qq w' h; rw [← hP]; exact OneOk.bad c hc hX k n s qq h
  have hgood : ∀ (k n : Int) (s : ByteArray) (qq : Nat), ((if q = true then (60, (0, 0, Em), 0) else (0, (0, 0, Em), 0)) : Int × Vt × Nat) = (0, (k, n, s), qq) → ∀ (w' : World), Below w.heap.size w w' → P (.returned (.tuple #[Vv k n s, .int .i64 (qq : Nat), .int .i64 0])) w' := by
    intro k n s qq hX w' h; rw [← hP]; exact OneOk.good k n s qq hX h
  have HBAD := Lib.hid hbad
  have HGOOD := Lib.hid hgood
  obtain ⟨b0, bc, bv⟩ := rd_boxes w m t q
  have HB0 := Lib.hid b0
  have HA := Lib.hid (hA.below b0)
  clear hP hbad hgood hA b0
  unfold Cc
  rcases q with _ | _
  · have HX := Lib.hid (show ((if (false : Bool) = true then (60, (0, 0, Em), 0) else (0, (0, 0, Em), 0)) : Int × Vt × Nat) = (0, (0, 0, Em), 0) from rfl)
    go_enter Try.func24, Try.ntmps24
    go_upto_region 1 with fail
    generalize ((w.alloc (.cells #[.string m, .int .i64 t, .bool false] 47)).alloc (.cells #[.int .i64 0, .int .i64 0, .string Em] 43)) = wx at *
    obtain ⟨y0, y1, y2⟩ := bc.cells
    obtain ⟨x0, x1, x2⟩ := bv.cells
    have f0 := bv.frozen 0
    have f1 := bv.frozen 1
    have f2 := bv.frozen 2
    go_wp2_with fail
    exact bodyPost_ret (v := .tuple #[Vv 0 0 Em, .int .i64 ((0 : Nat) : Int), .int .i64 0]) (by simp [results, Try.results24, go_sem, x0, x1, x2, Vv]) rfl (HGOOD.out 0 0 Em 0 HX.out _ (below_set3 HB0.out (Nat.le_succ _) _ _ _))
  · have HX := Lib.hid (show ((if (true : Bool) = true then (60, (0, 0, Em), 0) else (0, (0, 0, Em), 0)) : Int × Vt × Nat).1 = 60 from rfl)
    go_enter Try.func24, Try.ntmps24
    go_upto_region 1 with fail
    generalize ((w.alloc (.cells #[.string m, .int .i64 t, .bool true] 47)).alloc (.cells #[.int .i64 0, .int .i64 0, .string Em] 43)) = wx at *
    obtain ⟨y0, y1, y2⟩ := bc.cells
    obtain ⟨x0, x1, x2⟩ := bv.cells
    have f0 := bv.frozen 0
    have f1 := bv.frozen 1
    have f2 := bv.frozen 2
    go_wp2_with fail
    exact bodyPost_ret (v := .tuple #[Vv 0 0 Em, .int .i64 ((0 : Nat) : Int), .int .i64 60]) (by simp [results, Try.results24, go_sem, x0, x1, x2, Vv]) rfl (HBAD.out 60 (by decide) HX.out 0 0 Em 0 _ (below_set3 HB0.out (Nat.le_succ _) _ _ _))

set_option maxRecDepth 100000 in
set_option maxHeartbeats 4000000 in
theorem read_text (m : ByteArray) (q : Bool) (a : Option Addr) (b off cap : Nat) (R : List Nat) (hcap : R.length ≤ cap) (hcm : cap ≤ maxLen) (hm : R.length ≤ 4294967296) (w : World) (ha : R.length = 0 ∨ a = some ⟨b, off, none⟩) (hA : IsB w b off R) :
    Calls Try.prog 24 #[Cc m 4 q, .bool false, .slice a R.length cap] w fun e w' => OneOk w (rone 4 R 0) e w' := by
  generalize hP : (fun (e : Ending) (w' : World) => OneOk w (rone 4 R 0) e w') = P
  have hbad : ∀ (c : Int), c ≠ 0 → ((rone 4 R 0) : Int × Vt × Nat).1 = c → ∀ (k n : Int) (s : ByteArray) (qq : Nat) (w' : World), Below w.heap.size w w' → P (.returned (.tuple #[Vv k n s, .int .i64 (qq : Nat), .int .i64 c])) w' := by
    intro c hc hX k n s qq w' h; rw [← hP]; exact OneOk.bad c hc hX k n s qq h
  have hgood : ∀ (k n : Int) (s : ByteArray) (qq : Nat), (rone 4 R 0) = (0, (k, n, s), qq) → ∀ (w' : World), Below w.heap.size w w' → P (.returned (.tuple #[Vv k n s, .int .i64 (qq : Nat), .int .i64 0])) w' := by
    intro k n s qq hX w' h; rw [← hP]; exact OneOk.good k n s qq hX h
  have HBAD := Lib.hid hbad
  have HGOOD := Lib.hid hgood
  obtain ⟨b0, bc, bv⟩ := rd_boxes w m 4 q
  have HB0 := Lib.hid b0
  have HA := Lib.hid (hA.below b0)
  clear hP hbad hgood hA b0
  unfold Cc
  have hrt := fun wx (h : IsB wx b off R) => readtext_any a b off cap R hcap hm wx ha h
  generalize rone 4 R 0 = X at *
  have HRT := Lib.hid hrt
  clear hrt
  go_enter Try.func24, Try.ntmps24
  go_upto_region 1 with fail
  generalize ((w.alloc (.cells #[.string m, .int .i64 4, .bool q] 47)).alloc (.cells #[.int .i64 0, .int .i64 0, .string Em] 43)) = wx at *
  obtain ⟨y0, y1, y2⟩ := bc.cells
  obtain ⟨x0, x1, x2⟩ := bv.cells
  have f0 := bv.frozen 0
  have f1 := bv.frozen 1
  have f2 := bv.frozen 2
  have HBV := Lib.hid bv
  have HBC := Lib.hid bc
  go_wp2_with (first | (go_at_call 30; refine (HRT.out _ HA.out).mono ?_; rintro e w1 ⟨v, qq, rfl, hgd, ⟨k, n, s, rfl⟩, b1⟩; clear x0 x1 x2 f0 f1 f2 y0 y1 y2; obtain ⟨x0, x1, x2⟩ := (HBV.out.below b1).cells; have f0 := (HBV.out.below b1).frozen 0; have f1 := (HBV.out.below b1).frozen 1; have f2 := (HBV.out.below b1).frozen 2; have B1 := Lib.hid (HB0.out.trans (b1.mono HB0.out.size)); have HGD := Lib.hid hgd; clear b1 hgd; unfold Vv))
  have hfin : P (.returned (.tuple #[Vv k n s, .int .i64 (qq : Nat), .int .i64 X.1])) (((w1.setCell ⟨w.heap.size + 1, 0, none⟩ (.int .i64 k)).setCell ⟨w.heap.size + 1, 1, none⟩ (.int .i64 n)).setCell ⟨w.heap.size + 1, 2, none⟩ (.string s)) := by
    by_cases c : X.1 = 0
    · obtain ⟨e1, e2⟩ := HGD.out c
      obtain ⟨X1, ⟨k', n', s'⟩, q'⟩ := X
      simp only at c e1 e2
      unfold Vv at e1
      injection e1 with e1
      simp at e1
      obtain ⟨rfl, rfl, rfl⟩ := e1
      subst e2 c
      exact HGOOD.out _ _ _ _ rfl _ (below_set3 B1.out (Nat.le_succ _) _ _ _)
    · exact HBAD.out _ c rfl k n s qq _ (below_set3 B1.out (Nat.le_succ _) _ _ _)
  exact bodyPost_ret (v := .tuple #[Vv k n s, .int .i64 ((qq : Nat) : Int), .int .i64 X.1]) (by simp [results, Try.results24, go_sem, x0, x1, x2, Vv]) rfl (hfin)

set_option maxRecDepth 100000 in
set_option maxHeartbeats 4000000 in
theorem read_wrong (m : ByteArray) (t : Int) (q : Bool) (ht : t < 1 ∨ 4 < t) (a : Option Addr) (b off cap : Nat) (R : List Nat) (hcap : R.length ≤ cap) (hcm : cap ≤ maxLen) (hm : R.length ≤ 4294967296) (w : World) (ha : R.length = 0 ∨ a = some ⟨b, off, none⟩) (hA : IsB w b off R) :
    Calls Try.prog 24 #[Cc m t q, .bool false, .slice a R.length cap] w fun e w' => OneOk w (rone t R 0) e w' := by
  generalize hP : (fun (e : Ending) (w' : World) => OneOk w (rone t R 0) e w') = P
  have hbad : ∀ (c : Int), c ≠ 0 → ((rone t R 0) : Int × Vt × Nat).1 = c → ∀ (k n : Int) (s : ByteArray) (qq : Nat) (w' : World), Below w.heap.size w w' → P (.returned (.tuple #[Vv k n s, .int .i64 (qq : Nat), .int .i64 c])) w' := by
    intro c hc hX k n s qq w' h; rw [← hP]; exact OneOk.bad c hc hX k n s qq h
  have hgood : ∀ (k n : Int) (s : ByteArray) (qq : Nat), (rone t R 0) = (0, (k, n, s), qq) → ∀ (w' : World), Below w.heap.size w w' → P (.returned (.tuple #[Vv k n s, .int .i64 (qq : Nat), .int .i64 0])) w' := by
    intro k n s qq hX w' h; rw [← hP]; exact OneOk.good k n s qq hX h
  have HBAD := Lib.hid hbad
  have HGOOD := Lib.hid hgood
  obtain ⟨b0, bc, bv⟩ := rd_boxes w m t q
  have HB0 := Lib.hid b0
  have HA := Lib.hid (hA.below b0)
  clear hP hbad hgood hA b0
  unfold Cc
  have HX := Lib.hid (rone_bad t R 0 ht)
  have t4 : (t == 4) = false := by simp; omega
  have HW := Lib.hid (width_any t)
  rw [show wid t = 0 from by unfold wid; rw [if_neg (by omega), if_neg (by omega)]] at HW
  go_enter Try.func24, Try.ntmps24
  go_upto_region 1 with fail
  generalize ((w.alloc (.cells #[.string m, .int .i64 t, .bool q] 47)).alloc (.cells #[.int .i64 0, .int .i64 0, .string Em] 43)) = wx at *
  obtain ⟨y0, y1, y2⟩ := bc.cells
  obtain ⟨x0, x1, x2⟩ := bv.cells
  have f0 := bv.frozen 0
  have f1 := bv.frozen 1
  have f2 := bv.frozen 2
  go_wp2_with (first | (go_at_call 27; refine (HW.out _).mono ?_; rintro e w1 ⟨rfl, rfl⟩))
  exact bodyPost_ret (v := .tuple #[Vv 0 0 Em, .int .i64 ((0 : Nat) : Int), .int .i64 30]) (by simp [results, Try.results24, go_sem, x0, x1, x2, Vv]) rfl (HBAD.out 30 (by decide) HX.out 0 0 Em 0 _ (below_set3 HB0.out (Nat.le_succ _) _ _ _))

set_option maxRecDepth 100000 in
set_option maxHeartbeats 4000000 in
theorem read_1 (m : ByteArray) (q : Bool) (a : Option Addr) (b off cap : Nat) (R : List Nat) (hcap : R.length ≤ cap) (hcm : cap ≤ maxLen) (hm : R.length ≤ 4294967296) (w : World) (ha : R.length = 0 ∨ a = some ⟨b, off, none⟩) (hA : IsB w b off R) :
    Calls Try.prog 24 #[Cc m 1 q, .bool false, .slice a R.length cap] w fun e w' => OneOk w (rone 1 R 0) e w' := by
  generalize hP : (fun (e : Ending) (w' : World) => OneOk w (rone 1 R 0) e w') = P
  have hbad : ∀ (c : Int), c ≠ 0 → ((rone 1 R 0) : Int × Vt × Nat).1 = c → ∀ (k n : Int) (s : ByteArray) (qq : Nat) (w' : World), Below w.heap.size w w' → P (.returned (.tuple #[Vv k n s, .int .i64 (qq : Nat), .int .i64 c])) w' := by
    intro c hc hX k n s qq w' h; rw [← hP]; exact OneOk.bad c hc hX k n s qq h
  have hgood : ∀ (k n : Int) (s : ByteArray) (qq : Nat), (rone 1 R 0) = (0, (k, n, s), qq) → ∀ (w' : World), Below w.heap.size w w' → P (.returned (.tuple #[Vv k n s, .int .i64 (qq : Nat), .int .i64 0])) w' := by
    intro k n s qq hX w' h; rw [← hP]; exact OneOk.good k n s qq hX h
  have HBAD := Lib.hid hbad
  have HGOOD := Lib.hid hgood
  obtain ⟨b0, bc, bv⟩ := rd_boxes w m 1 q
  have HB0 := Lib.hid b0
  have HA := Lib.hid (hA.below b0)
  clear hP hbad hgood hA b0
  unfold Cc
  have HW := Lib.hid (width_any 1)
  rw [show wid 1 = 1 from rfl] at HW
  by_cases hs : R.length < 1
  · have HX := Lib.hid (rone_short 1 R 0 (by decide) (by rw [Nat.zero_add]; exact hs))
    have hs1 : (R.length : Int) < 1 := by omega
    go_enter Try.func24, Try.ntmps24
    go_upto_region 1 with fail
    generalize ((w.alloc (.cells #[.string m, .int .i64 1, .bool q] 47)).alloc (.cells #[.int .i64 0, .int .i64 0, .string Em] 43)) = wx at *
    obtain ⟨y0, y1, y2⟩ := bc.cells
    obtain ⟨x0, x1, x2⟩ := bv.cells
    have f0 := bv.frozen 0
    have f1 := bv.frozen 1
    have f2 := bv.frozen 2
    go_wp2_with (first | (go_at_call 27; refine (HW.out _).mono ?_; rintro e w1 ⟨rfl, rfl⟩))
    exact bodyPost_ret (v := .tuple #[Vv 0 0 Em, .int .i64 ((0 : Nat) : Int), .int .i64 3]) (by simp [results, Try.results24, go_sem, x0, x1, x2, Vv]) rfl (HBAD.out 3 (by decide) HX.out 0 0 Em 0 _ (below_set3 HB0.out (Nat.le_succ _) _ _ _))
  · obtain rfl : a = some ⟨b, off, none⟩ := by rcases ha with h | h; omega; exact h
    have hs1 : decide ((R.length : Int) < 1) = false := by simp; omega
    have hs2 : (1 : Int) ≤ (R.length : Int) := by omega
    have hlt : numL (R.take 1) < 256 ^ 1 := by
      have := numL_lt (R.take 1) (fun x hx => HA.out.lt x (List.mem_of_mem_take hx))
      rw [List.length_take, show min 1 R.length = 1 by omega] at this
      exact this
    have hrn := rone_num 1 (by decide) R _ (by show ¬ R.length < 1; exact hs) rfl (show numL (R.take (nby 1)) < 18446744073709551616 from Nat.lt_of_lt_of_le hlt (by decide)) (by intro h; first | exact absurd h (by decide) | exact hlt)
    have HRN := Lib.hid (show (rone 1 R 0).1 = VCheck 1 (sgn (numL (R.take 1))) Em ∧ ((rone 1 R 0).1 = 0 → rone 1 R 0 = (0, (1, sgn (numL (R.take 1)), Em), 1)) from hrn)
    have HS := Lib.hid hs
    have HCK := Lib.hid (fun n => check_any 1 n Em (by decide))
    unfold Vv at HCK
    clear hrn hlt ha hs
    go_enter Try.func24, Try.ntmps24
    go_upto_region 1 with fail
    generalize ((w.alloc (.cells #[.string m, .int .i64 1, .bool q] 47)).alloc (.cells #[.int .i64 0, .int .i64 0, .string Em] 43)) = wx at *
    obtain ⟨y0, y1, y2⟩ := bc.cells
    obtain ⟨x0, x1, x2⟩ := bv.cells
    have f0 := bv.frozen 0
    have f1 := bv.frozen 1
    have f2 := bv.frozen 2
    go_wp2_with (first | (go_at_call 27; refine (HW.out _).mono ?_; rintro e w1 ⟨rfl, rfl⟩))
    have bv3 := boxV_new wx 1 0 Em
    have bx := (bv.alloc (.cells #[.int .i64 1, .int .i64 0, .string Em] 43))
    have HB1 := Lib.hid (HB0.out.alloc HB0.out.size (.cells #[.int .i64 1, .int .i64 0, .string Em] 43))
    have hg3 : w.heap.size ≤ wx.heap.size := HB0.out.size
    have hne : w.heap.size + 1 ≠ wx.heap.size := by have := bv.lt; omega
    have HA1 := Lib.hid (HA.out.below ((Below.refl _ _).alloc (Nat.le_refl _) (.cells #[.int .i64 1, .int .i64 0, .string Em] 43)))
    have hbb : b < wx.heap.size := HA.out.hb (by omega)
    clear x0 x1 x2 f0 f1 f2 y0 y1 y2 bv bc
    generalize wx.alloc (.cells #[.int .i64 1, .int .i64 0, .string Em] 43) = wy at *
    generalize wx.heap.size = g3 at *
    go_loopw [48] (fun i wr => ∃ j : Nat, j ≤ 1 ∧ i = .int .i64 j ∧ Rw w wr 1 (sgn (numL (R.take j))) (w.heap.size + 1) g3 b off R) (fun i _ => 1 - (intOf i).toNat)
    case atStart => exact ⟨0, by omega, rfl, ⟨bv3, bx, HB1.out, HA1.out⟩⟩
    case round =>
      obtain ⟨j, hj, rfl, hrw⟩ := hrel
      have HRW := Lib.hid hrw
      clear hrw bv3 bx
      have hc : j = 0 ∨ j = 1 := by omega
      rcases hc with rfl | rfl
      · have hz : R[0]? = some (R[0]'(by have := HS.out; omega)) := List.getElem?_eq_getElem _
        generalize R[0]'(by have := HS.out; omega) = c at *
        have a0 := HRW.out.h4.c 0 c hz
        have hc8 := HRW.out.h4.lt c (List.mem_of_getElem? hz)
        have hlt := numL_lt (R.take 0) (fun x hx => HRW.out.h4.lt x (List.mem_of_mem_take hx))
        rw [List.length_take, show min 0 R.length = 0 by have := HS.out; omega] at hlt
        have hsn : numL (R.take 1) = numL (R.take 0) + 256 ^ 0 * c := by
          show numL (R.take (0 + 1)) = _
          rw [List.take_add_one, hz]
          have := numL_snoc (R.take 0) c
          rw [List.length_take, show min 0 R.length = 0 by have := HS.out; omega] at this
          exact this
        have hor := or_more (numL (R.take 0)) c 0 (by decide) hc8 hlt
        rw [← hsn] at hor
        have e0 : IntKind.i64.wrap (c : Int) = (c : Int) := by rw [IntKind.wrap_i64]; omega
        have e1 : sgn (256 ^ 0 * c) = (c : Int) := by rw [show 256 ^ 0 * c = c by omega]; exact if_pos (by omega)
        rw [e1] at hor
        clear e1
        obtain ⟨xn, hxn⟩ : ∃ xn, sgn (numL (R.take 1)) = xn := ⟨_, rfl⟩
        rw [hxn] at hor
        have HXN := Lib.hid hxn
        clear hxn
        generalize sgn (numL (R.take 0)) = xv at *
        obtain ⟨x0, x1, x2⟩ := HRW.out.h1.cells
        have z1 := HRW.out.h1.frozen 1
        have hjm : (0 : Int) < (R.length : Int) := by omega
        have hjn : 0 < R.length := by omega
        rw [Nat.add_zero] at a0
        clear hz hc8 hlt hsn
        go_upto_region 16 with fail
        go_region
        all_goals
          go_wp2_with fail
          go_roundw
          case rel => exact ⟨1, by omega, by first | rfl | go_num, by
            rw [HXN.out]
            first
              | exact HRW.out.drew.set hbb hg3 hne xn
              | exact (HRW.out.set hbb hg3 hne xn).drew
              | exact HRW.out.set hbb hg3 hne xn⟩
          case measure => simp [intOf]
      · obtain ⟨x0, x1, x2⟩ := HRW.out.h1.cells
        obtain ⟨y0, y1, y2⟩ := HRW.out.h2.cells
        have f0 := HRW.out.h2.frozen 0
        have f1 := HRW.out.h2.frozen 1
        have f2 := HRW.out.h2.frozen 2
        obtain ⟨hr1, hr2⟩ := HRN.out
        generalize sgn (numL (R.take 1)) = u at *
        have hck := HCK.out u
        generalize VCheck 1 u Em = vc at *
        have HVC := Lib.hid hck
        have HR12 := Lib.hid (And.intro hr1 hr2)
        clear hck hr1 hr2 HRN HCK
        have hlx := HRW.out.h1.lt
        have hly := HRW.out.h2.lt
        go_wp2_with fail
        go_region_with (go_at_call 28; refine (HVC.out _).mono ?_; rintro e w3 ⟨rfl, b3⟩; have HRW3 := Lib.hid (HRW.out.drew.step b3); clear x0 x1 x2 y0 y1 y2 f0 f1 f2; obtain ⟨x0, x1, x2⟩ := HRW3.out.h1.cells; obtain ⟨y0, y1, y2⟩ := HRW3.out.h2.cells; have f0 := HRW3.out.h2.frozen 0; have f1 := HRW3.out.h2.frozen 1; have f2 := HRW3.out.h2.frozen 2; clear b3)
        all_goals
          have hfin : P (.returned (.tuple #[Vv 1 u Em, .int .i64 ((1 : Nat) : Int), .int .i64 vc])) (((w3.setCell ⟨w.heap.size + 1, 0, none⟩ (.int .i64 1)).setCell ⟨w.heap.size + 1, 1, none⟩ (.int .i64 u)).setCell ⟨w.heap.size + 1, 2, none⟩ (.string Em)) := by
            have hb := below_set3 (g := w.heap.size + 1) HRW3.out.h3 (Nat.le_succ _) (.int .i64 1) (.int .i64 u) (.string Em)
            obtain ⟨e1, e2⟩ := HR12.out
            by_cases cc : vc = 0
            · subst cc
              exact HGOOD.out _ _ _ _ (e2 e1) _ hb
            · exact HBAD.out _ cc e1 _ _ _ _ _ hb
          go_wp2_with fail
          exact bodyPost_ret (v := .tuple #[Vv 1 u Em, .int .i64 ((1 : Nat) : Int), .int .i64 vc]) (by simp [results, Try.results24, go_sem, y0, y1, y2, Vv]) rfl hfin

set_option maxRecDepth 100000 in
set_option maxHeartbeats 4000000 in
theorem read_2 (m : ByteArray) (q : Bool) (a : Option Addr) (b off cap : Nat) (R : List Nat) (hcap : R.length ≤ cap) (hcm : cap ≤ maxLen) (hm : R.length ≤ 4294967296) (w : World) (ha : R.length = 0 ∨ a = some ⟨b, off, none⟩) (hA : IsB w b off R) :
    Calls Try.prog 24 #[Cc m 2 q, .bool false, .slice a R.length cap] w fun e w' => OneOk w (rone 2 R 0) e w' := by
  generalize hP : (fun (e : Ending) (w' : World) => OneOk w (rone 2 R 0) e w') = P
  have hbad : ∀ (c : Int), c ≠ 0 → ((rone 2 R 0) : Int × Vt × Nat).1 = c → ∀ (k n : Int) (s : ByteArray) (qq : Nat) (w' : World), Below w.heap.size w w' → P (.returned (.tuple #[Vv k n s, .int .i64 (qq : Nat), .int .i64 c])) w' := by
    intro c hc hX k n s qq w' h; rw [← hP]; exact OneOk.bad c hc hX k n s qq h
  have hgood : ∀ (k n : Int) (s : ByteArray) (qq : Nat), (rone 2 R 0) = (0, (k, n, s), qq) → ∀ (w' : World), Below w.heap.size w w' → P (.returned (.tuple #[Vv k n s, .int .i64 (qq : Nat), .int .i64 0])) w' := by
    intro k n s qq hX w' h; rw [← hP]; exact OneOk.good k n s qq hX h
  have HBAD := Lib.hid hbad
  have HGOOD := Lib.hid hgood
  obtain ⟨b0, bc, bv⟩ := rd_boxes w m 2 q
  have HB0 := Lib.hid b0
  have HA := Lib.hid (hA.below b0)
  clear hP hbad hgood hA b0
  unfold Cc
  have HW := Lib.hid (width_any 2)
  rw [show wid 2 = 8 from rfl] at HW
  by_cases hs : R.length < 8
  · have HX := Lib.hid (rone_short 2 R 0 (by decide) (by rw [Nat.zero_add]; exact hs))
    have hs1 : (R.length : Int) < 8 := by omega
    go_enter Try.func24, Try.ntmps24
    go_upto_region 1 with fail
    generalize ((w.alloc (.cells #[.string m, .int .i64 2, .bool q] 47)).alloc (.cells #[.int .i64 0, .int .i64 0, .string Em] 43)) = wx at *
    obtain ⟨y0, y1, y2⟩ := bc.cells
    obtain ⟨x0, x1, x2⟩ := bv.cells
    have f0 := bv.frozen 0
    have f1 := bv.frozen 1
    have f2 := bv.frozen 2
    go_wp2_with (first | (go_at_call 27; refine (HW.out _).mono ?_; rintro e w1 ⟨rfl, rfl⟩))
    exact bodyPost_ret (v := .tuple #[Vv 0 0 Em, .int .i64 ((0 : Nat) : Int), .int .i64 3]) (by simp [results, Try.results24, go_sem, x0, x1, x2, Vv]) rfl (HBAD.out 3 (by decide) HX.out 0 0 Em 0 _ (below_set3 HB0.out (Nat.le_succ _) _ _ _))
  · obtain rfl : a = some ⟨b, off, none⟩ := by rcases ha with h | h; omega; exact h
    have hs1 : decide ((R.length : Int) < 8) = false := by simp; omega
    have hs2 : (8 : Int) ≤ (R.length : Int) := by omega
    have hlt : numL (R.take 8) < 256 ^ 8 := by
      have := numL_lt (R.take 8) (fun x hx => HA.out.lt x (List.mem_of_mem_take hx))
      rw [List.length_take, show min 8 R.length = 8 by omega] at this
      exact this
    have hrn := rone_num 2 (by decide) R _ (by show ¬ R.length < 8; exact hs) rfl (show numL (R.take (nby 2)) < 18446744073709551616 from Nat.lt_of_lt_of_le hlt (by decide)) (by intro h; first | exact absurd h (by decide) | exact hlt)
    have HRN := Lib.hid (show (rone 2 R 0).1 = VCheck 2 (sgn (numL (R.take 8))) Em ∧ ((rone 2 R 0).1 = 0 → rone 2 R 0 = (0, (2, sgn (numL (R.take 8)), Em), 8)) from hrn)
    have HS := Lib.hid hs
    have HCK := Lib.hid (fun n => check_any 2 n Em (by decide))
    unfold Vv at HCK
    clear hrn hlt ha hs
    go_enter Try.func24, Try.ntmps24
    go_upto_region 1 with fail
    generalize ((w.alloc (.cells #[.string m, .int .i64 2, .bool q] 47)).alloc (.cells #[.int .i64 0, .int .i64 0, .string Em] 43)) = wx at *
    obtain ⟨y0, y1, y2⟩ := bc.cells
    obtain ⟨x0, x1, x2⟩ := bv.cells
    have f0 := bv.frozen 0
    have f1 := bv.frozen 1
    have f2 := bv.frozen 2
    go_wp2_with (first | (go_at_call 27; refine (HW.out _).mono ?_; rintro e w1 ⟨rfl, rfl⟩))
    have bv3 := boxV_new wx 2 0 Em
    have bx := (bv.alloc (.cells #[.int .i64 2, .int .i64 0, .string Em] 43))
    have HB1 := Lib.hid (HB0.out.alloc HB0.out.size (.cells #[.int .i64 2, .int .i64 0, .string Em] 43))
    have hg3 : w.heap.size ≤ wx.heap.size := HB0.out.size
    have hne : w.heap.size + 1 ≠ wx.heap.size := by have := bv.lt; omega
    have HA1 := Lib.hid (HA.out.below ((Below.refl _ _).alloc (Nat.le_refl _) (.cells #[.int .i64 2, .int .i64 0, .string Em] 43)))
    have hbb : b < wx.heap.size := HA.out.hb (by omega)
    clear x0 x1 x2 f0 f1 f2 y0 y1 y2 bv bc
    generalize wx.alloc (.cells #[.int .i64 2, .int .i64 0, .string Em] 43) = wy at *
    generalize wx.heap.size = g3 at *
    go_loopw [48] (fun i wr => ∃ j : Nat, j ≤ 8 ∧ i = .int .i64 j ∧ Rw w wr 2 (sgn (numL (R.take j))) (w.heap.size + 1) g3 b off R) (fun i _ => 8 - (intOf i).toNat)
    case atStart => exact ⟨0, by omega, rfl, ⟨bv3, bx, HB1.out, HA1.out⟩⟩
    case round =>
      obtain ⟨j, hj, rfl, hrw⟩ := hrel
      have HRW := Lib.hid hrw
      clear hrw bv3 bx
      have hc : j = 0 ∨ j = 1 ∨ j = 2 ∨ j = 3 ∨ j = 4 ∨ j = 5 ∨ j = 6 ∨ j = 7 ∨ j = 8 := by omega
      rcases hc with rfl | rfl | rfl | rfl | rfl | rfl | rfl | rfl | rfl
      · have hz : R[0]? = some (R[0]'(by have := HS.out; omega)) := List.getElem?_eq_getElem _
        generalize R[0]'(by have := HS.out; omega) = c at *
        have a0 := HRW.out.h4.c 0 c hz
        have hc8 := HRW.out.h4.lt c (List.mem_of_getElem? hz)
        have hlt := numL_lt (R.take 0) (fun x hx => HRW.out.h4.lt x (List.mem_of_mem_take hx))
        rw [List.length_take, show min 0 R.length = 0 by have := HS.out; omega] at hlt
        have hsn : numL (R.take 1) = numL (R.take 0) + 256 ^ 0 * c := by
          show numL (R.take (0 + 1)) = _
          rw [List.take_add_one, hz]
          have := numL_snoc (R.take 0) c
          rw [List.length_take, show min 0 R.length = 0 by have := HS.out; omega] at this
          exact this
        have hor := or_more (numL (R.take 0)) c 0 (by decide) hc8 hlt
        rw [← hsn] at hor
        have e0 : IntKind.i64.wrap (c : Int) = (c : Int) := by rw [IntKind.wrap_i64]; omega
        have e1 : sgn (256 ^ 0 * c) = (c : Int) := by rw [show 256 ^ 0 * c = c by omega]; exact if_pos (by omega)
        rw [e1] at hor
        clear e1
        obtain ⟨xn, hxn⟩ : ∃ xn, sgn (numL (R.take 1)) = xn := ⟨_, rfl⟩
        rw [hxn] at hor
        have HXN := Lib.hid hxn
        clear hxn
        generalize sgn (numL (R.take 0)) = xv at *
        obtain ⟨x0, x1, x2⟩ := HRW.out.h1.cells
        have z1 := HRW.out.h1.frozen 1
        have hjm : (0 : Int) < (R.length : Int) := by omega
        have hjn : 0 < R.length := by omega
        rw [Nat.add_zero] at a0
        clear hz hc8 hlt hsn
        go_upto_region 16 with fail
        go_region
        all_goals
          go_wp2_with fail
          go_roundw
          case rel => exact ⟨1, by omega, by first | rfl | go_num, by
            rw [HXN.out]
            first
              | exact HRW.out.drew.set hbb hg3 hne xn
              | exact (HRW.out.set hbb hg3 hne xn).drew
              | exact HRW.out.set hbb hg3 hne xn⟩
          case measure => simp [intOf]
      · have hz : R[1]? = some (R[1]'(by have := HS.out; omega)) := List.getElem?_eq_getElem _
        generalize R[1]'(by have := HS.out; omega) = c at *
        have a0 := HRW.out.h4.c 1 c hz
        have hc8 := HRW.out.h4.lt c (List.mem_of_getElem? hz)
        have hlt := numL_lt (R.take 1) (fun x hx => HRW.out.h4.lt x (List.mem_of_mem_take hx))
        rw [List.length_take, show min 1 R.length = 1 by have := HS.out; omega] at hlt
        have hsn : numL (R.take 2) = numL (R.take 1) + 256 ^ 1 * c := by
          show numL (R.take (1 + 1)) = _
          rw [List.take_add_one, hz]
          have := numL_snoc (R.take 1) c
          rw [List.length_take, show min 1 R.length = 1 by have := HS.out; omega] at this
          exact this
        have hor := or_more (numL (R.take 1)) c 1 (by decide) hc8 hlt
        rw [← hsn] at hor
        have e0 : IntKind.i64.wrap (c : Int) = (c : Int) := by rw [IntKind.wrap_i64]; omega
        have hw : IntKind.i64.wrap ((c : Int) * 256) = sgn (256 ^ 1 * c) := by
          rw [← sgn_wrap (by omega)]
          exact congrArg IntKind.i64.wrap (by omega)
        generalize sgn (256 ^ 1 * c) = yv at *
        obtain ⟨xn, hxn⟩ : ∃ xn, sgn (numL (R.take 2)) = xn := ⟨_, rfl⟩
        rw [hxn] at hor
        have HXN := Lib.hid hxn
        clear hxn
        generalize sgn (numL (R.take 1)) = xv at *
        obtain ⟨x0, x1, x2⟩ := HRW.out.h1.cells
        have z1 := HRW.out.h1.frozen 1
        have hjm : (1 : Int) < (R.length : Int) := by omega
        have hjn : 1 < R.length := by omega
        clear hz hc8 hlt hsn
        go_upto_region 16 with fail
        go_region
        all_goals
          go_wp2_with fail
          go_roundw
          case rel => exact ⟨2, by omega, by first | rfl | go_num, by
            rw [HXN.out]
            first
              | exact HRW.out.drew.set hbb hg3 hne xn
              | exact (HRW.out.set hbb hg3 hne xn).drew
              | exact HRW.out.set hbb hg3 hne xn⟩
          case measure => simp [intOf]
      · have hz : R[2]? = some (R[2]'(by have := HS.out; omega)) := List.getElem?_eq_getElem _
        generalize R[2]'(by have := HS.out; omega) = c at *
        have a0 := HRW.out.h4.c 2 c hz
        have hc8 := HRW.out.h4.lt c (List.mem_of_getElem? hz)
        have hlt := numL_lt (R.take 2) (fun x hx => HRW.out.h4.lt x (List.mem_of_mem_take hx))
        rw [List.length_take, show min 2 R.length = 2 by have := HS.out; omega] at hlt
        have hsn : numL (R.take 3) = numL (R.take 2) + 256 ^ 2 * c := by
          show numL (R.take (2 + 1)) = _
          rw [List.take_add_one, hz]
          have := numL_snoc (R.take 2) c
          rw [List.length_take, show min 2 R.length = 2 by have := HS.out; omega] at this
          exact this
        have hor := or_more (numL (R.take 2)) c 2 (by decide) hc8 hlt
        rw [← hsn] at hor
        have e0 : IntKind.i64.wrap (c : Int) = (c : Int) := by rw [IntKind.wrap_i64]; omega
        have hw : IntKind.i64.wrap ((c : Int) * 65536) = sgn (256 ^ 2 * c) := by
          rw [← sgn_wrap (by omega)]
          exact congrArg IntKind.i64.wrap (by omega)
        generalize sgn (256 ^ 2 * c) = yv at *
        obtain ⟨xn, hxn⟩ : ∃ xn, sgn (numL (R.take 3)) = xn := ⟨_, rfl⟩
        rw [hxn] at hor
        have HXN := Lib.hid hxn
        clear hxn
        generalize sgn (numL (R.take 2)) = xv at *
        obtain ⟨x0, x1, x2⟩ := HRW.out.h1.cells
        have z1 := HRW.out.h1.frozen 1
        have hjm : (2 : Int) < (R.length : Int) := by omega
        have hjn : 2 < R.length := by omega
        clear hz hc8 hlt hsn
        go_upto_region 16 with fail
        go_region
        all_goals
          go_wp2_with fail
          go_roundw
          case rel => exact ⟨3, by omega, by first | rfl | go_num, by
            rw [HXN.out]
            first
              | exact HRW.out.drew.set hbb hg3 hne xn
              | exact (HRW.out.set hbb hg3 hne xn).drew
              | exact HRW.out.set hbb hg3 hne xn⟩
          case measure => simp [intOf]
      · have hz : R[3]? = some (R[3]'(by have := HS.out; omega)) := List.getElem?_eq_getElem _
        generalize R[3]'(by have := HS.out; omega) = c at *
        have a0 := HRW.out.h4.c 3 c hz
        have hc8 := HRW.out.h4.lt c (List.mem_of_getElem? hz)
        have hlt := numL_lt (R.take 3) (fun x hx => HRW.out.h4.lt x (List.mem_of_mem_take hx))
        rw [List.length_take, show min 3 R.length = 3 by have := HS.out; omega] at hlt
        have hsn : numL (R.take 4) = numL (R.take 3) + 256 ^ 3 * c := by
          show numL (R.take (3 + 1)) = _
          rw [List.take_add_one, hz]
          have := numL_snoc (R.take 3) c
          rw [List.length_take, show min 3 R.length = 3 by have := HS.out; omega] at this
          exact this
        have hor := or_more (numL (R.take 3)) c 3 (by decide) hc8 hlt
        rw [← hsn] at hor
        have e0 : IntKind.i64.wrap (c : Int) = (c : Int) := by rw [IntKind.wrap_i64]; omega
        have hw : IntKind.i64.wrap ((c : Int) * 16777216) = sgn (256 ^ 3 * c) := by
          rw [← sgn_wrap (by omega)]
          exact congrArg IntKind.i64.wrap (by omega)
        generalize sgn (256 ^ 3 * c) = yv at *
        obtain ⟨xn, hxn⟩ : ∃ xn, sgn (numL (R.take 4)) = xn := ⟨_, rfl⟩
        rw [hxn] at hor
        have HXN := Lib.hid hxn
        clear hxn
        generalize sgn (numL (R.take 3)) = xv at *
        obtain ⟨x0, x1, x2⟩ := HRW.out.h1.cells
        have z1 := HRW.out.h1.frozen 1
        have hjm : (3 : Int) < (R.length : Int) := by omega
        have hjn : 3 < R.length := by omega
        clear hz hc8 hlt hsn
        go_upto_region 16 with fail
        go_region
        all_goals
          go_wp2_with fail
          go_roundw
          case rel => exact ⟨4, by omega, by first | rfl | go_num, by
            rw [HXN.out]
            first
              | exact HRW.out.drew.set hbb hg3 hne xn
              | exact (HRW.out.set hbb hg3 hne xn).drew
              | exact HRW.out.set hbb hg3 hne xn⟩
          case measure => simp [intOf]
      · have hz : R[4]? = some (R[4]'(by have := HS.out; omega)) := List.getElem?_eq_getElem _
        generalize R[4]'(by have := HS.out; omega) = c at *
        have a0 := HRW.out.h4.c 4 c hz
        have hc8 := HRW.out.h4.lt c (List.mem_of_getElem? hz)
        have hlt := numL_lt (R.take 4) (fun x hx => HRW.out.h4.lt x (List.mem_of_mem_take hx))
        rw [List.length_take, show min 4 R.length = 4 by have := HS.out; omega] at hlt
        have hsn : numL (R.take 5) = numL (R.take 4) + 256 ^ 4 * c := by
          show numL (R.take (4 + 1)) = _
          rw [List.take_add_one, hz]
          have := numL_snoc (R.take 4) c
          rw [List.length_take, show min 4 R.length = 4 by have := HS.out; omega] at this
          exact this
        have hor := or_more (numL (R.take 4)) c 4 (by decide) hc8 hlt
        rw [← hsn] at hor
        have e0 : IntKind.i64.wrap (c : Int) = (c : Int) := by rw [IntKind.wrap_i64]; omega
        have hw : IntKind.i64.wrap ((c : Int) * 4294967296) = sgn (256 ^ 4 * c) := by
          rw [← sgn_wrap (by omega)]
          exact congrArg IntKind.i64.wrap (by omega)
        generalize sgn (256 ^ 4 * c) = yv at *
        obtain ⟨xn, hxn⟩ : ∃ xn, sgn (numL (R.take 5)) = xn := ⟨_, rfl⟩
        rw [hxn] at hor
        have HXN := Lib.hid hxn
        clear hxn
        generalize sgn (numL (R.take 4)) = xv at *
        obtain ⟨x0, x1, x2⟩ := HRW.out.h1.cells
        have z1 := HRW.out.h1.frozen 1
        have hjm : (4 : Int) < (R.length : Int) := by omega
        have hjn : 4 < R.length := by omega
        clear hz hc8 hlt hsn
        go_upto_region 16 with fail
        go_region
        all_goals
          go_wp2_with fail
          go_roundw
          case rel => exact ⟨5, by omega, by first | rfl | go_num, by
            rw [HXN.out]
            first
              | exact HRW.out.drew.set hbb hg3 hne xn
              | exact (HRW.out.set hbb hg3 hne xn).drew
              | exact HRW.out.set hbb hg3 hne xn⟩
          case measure => simp [intOf]
      · have hz : R[5]? = some (R[5]'(by have := HS.out; omega)) := List.getElem?_eq_getElem _
        generalize R[5]'(by have := HS.out; omega) = c at *
        have a0 := HRW.out.h4.c 5 c hz
        have hc8 := HRW.out.h4.lt c (List.mem_of_getElem? hz)
        have hlt := numL_lt (R.take 5) (fun x hx => HRW.out.h4.lt x (List.mem_of_mem_take hx))
        rw [List.length_take, show min 5 R.length = 5 by have := HS.out; omega] at hlt
        have hsn : numL (R.take 6) = numL (R.take 5) + 256 ^ 5 * c := by
          show numL (R.take (5 + 1)) = _
          rw [List.take_add_one, hz]
          have := numL_snoc (R.take 5) c
          rw [List.length_take, show min 5 R.length = 5 by have := HS.out; omega] at this
          exact this
        have hor := or_more (numL (R.take 5)) c 5 (by decide) hc8 hlt
        rw [← hsn] at hor
        have e0 : IntKind.i64.wrap (c : Int) = (c : Int) := by rw [IntKind.wrap_i64]; omega
        have hw : IntKind.i64.wrap ((c : Int) * 1099511627776) = sgn (256 ^ 5 * c) := by
          rw [← sgn_wrap (by omega)]
          exact congrArg IntKind.i64.wrap (by omega)
        generalize sgn (256 ^ 5 * c) = yv at *
        obtain ⟨xn, hxn⟩ : ∃ xn, sgn (numL (R.take 6)) = xn := ⟨_, rfl⟩
        rw [hxn] at hor
        have HXN := Lib.hid hxn
        clear hxn
        generalize sgn (numL (R.take 5)) = xv at *
        obtain ⟨x0, x1, x2⟩ := HRW.out.h1.cells
        have z1 := HRW.out.h1.frozen 1
        have hjm : (5 : Int) < (R.length : Int) := by omega
        have hjn : 5 < R.length := by omega
        clear hz hc8 hlt hsn
        go_upto_region 16 with fail
        go_region
        all_goals
          go_wp2_with fail
          go_roundw
          case rel => exact ⟨6, by omega, by first | rfl | go_num, by
            rw [HXN.out]
            first
              | exact HRW.out.drew.set hbb hg3 hne xn
              | exact (HRW.out.set hbb hg3 hne xn).drew
              | exact HRW.out.set hbb hg3 hne xn⟩
          case measure => simp [intOf]
      · have hz : R[6]? = some (R[6]'(by have := HS.out; omega)) := List.getElem?_eq_getElem _
        generalize R[6]'(by have := HS.out; omega) = c at *
        have a0 := HRW.out.h4.c 6 c hz
        have hc8 := HRW.out.h4.lt c (List.mem_of_getElem? hz)
        have hlt := numL_lt (R.take 6) (fun x hx => HRW.out.h4.lt x (List.mem_of_mem_take hx))
        rw [List.length_take, show min 6 R.length = 6 by have := HS.out; omega] at hlt
        have hsn : numL (R.take 7) = numL (R.take 6) + 256 ^ 6 * c := by
          show numL (R.take (6 + 1)) = _
          rw [List.take_add_one, hz]
          have := numL_snoc (R.take 6) c
          rw [List.length_take, show min 6 R.length = 6 by have := HS.out; omega] at this
          exact this
        have hor := or_more (numL (R.take 6)) c 6 (by decide) hc8 hlt
        rw [← hsn] at hor
        have e0 : IntKind.i64.wrap (c : Int) = (c : Int) := by rw [IntKind.wrap_i64]; omega
        have hw : IntKind.i64.wrap ((c : Int) * 281474976710656) = sgn (256 ^ 6 * c) := by
          rw [← sgn_wrap (by omega)]
          exact congrArg IntKind.i64.wrap (by omega)
        generalize sgn (256 ^ 6 * c) = yv at *
        obtain ⟨xn, hxn⟩ : ∃ xn, sgn (numL (R.take 7)) = xn := ⟨_, rfl⟩
        rw [hxn] at hor
        have HXN := Lib.hid hxn
        clear hxn
        generalize sgn (numL (R.take 6)) = xv at *
        obtain ⟨x0, x1, x2⟩ := HRW.out.h1.cells
        have z1 := HRW.out.h1.frozen 1
        have hjm : (6 : Int) < (R.length : Int) := by omega
        have hjn : 6 < R.length := by omega
        clear hz hc8 hlt hsn
        go_upto_region 16 with fail
        go_region
        all_goals
          go_wp2_with fail
          go_roundw
          case rel => exact ⟨7, by omega, by first | rfl | go_num, by
            rw [HXN.out]
            first
              | exact HRW.out.drew.set hbb hg3 hne xn
              | exact (HRW.out.set hbb hg3 hne xn).drew
              | exact HRW.out.set hbb hg3 hne xn⟩
          case measure => simp [intOf]
      · have hz : R[7]? = some (R[7]'(by have := HS.out; omega)) := List.getElem?_eq_getElem _
        generalize R[7]'(by have := HS.out; omega) = c at *
        have a0 := HRW.out.h4.c 7 c hz
        have hc8 := HRW.out.h4.lt c (List.mem_of_getElem? hz)
        have hlt := numL_lt (R.take 7) (fun x hx => HRW.out.h4.lt x (List.mem_of_mem_take hx))
        rw [List.length_take, show min 7 R.length = 7 by have := HS.out; omega] at hlt
        have hsn : numL (R.take 8) = numL (R.take 7) + 256 ^ 7 * c := by
          show numL (R.take (7 + 1)) = _
          rw [List.take_add_one, hz]
          have := numL_snoc (R.take 7) c
          rw [List.length_take, show min 7 R.length = 7 by have := HS.out; omega] at this
          exact this
        have hor := or_more (numL (R.take 7)) c 7 (by decide) hc8 hlt
        rw [← hsn] at hor
        have e0 : IntKind.i64.wrap (c : Int) = (c : Int) := by rw [IntKind.wrap_i64]; omega
        have hw : IntKind.i64.wrap ((c : Int) * 72057594037927936) = sgn (256 ^ 7 * c) := by
          rw [← sgn_wrap (by omega)]
          exact congrArg IntKind.i64.wrap (by omega)
        generalize sgn (256 ^ 7 * c) = yv at *
        obtain ⟨xn, hxn⟩ : ∃ xn, sgn (numL (R.take 8)) = xn := ⟨_, rfl⟩
        rw [hxn] at hor
        have HXN := Lib.hid hxn
        clear hxn
        generalize sgn (numL (R.take 7)) = xv at *
        obtain ⟨x0, x1, x2⟩ := HRW.out.h1.cells
        have z1 := HRW.out.h1.frozen 1
        have hjm : (7 : Int) < (R.length : Int) := by omega
        have hjn : 7 < R.length := by omega
        clear hz hc8 hlt hsn
        go_upto_region 16 with fail
        go_region
        all_goals
          go_wp2_with fail
          go_roundw
          case rel => exact ⟨8, by omega, by first | rfl | go_num, by
            rw [HXN.out]
            first
              | exact HRW.out.drew.set hbb hg3 hne xn
              | exact (HRW.out.set hbb hg3 hne xn).drew
              | exact HRW.out.set hbb hg3 hne xn⟩
          case measure => simp [intOf]
      · obtain ⟨x0, x1, x2⟩ := HRW.out.h1.cells
        obtain ⟨y0, y1, y2⟩ := HRW.out.h2.cells
        have f0 := HRW.out.h2.frozen 0
        have f1 := HRW.out.h2.frozen 1
        have f2 := HRW.out.h2.frozen 2
        obtain ⟨hr1, hr2⟩ := HRN.out
        generalize sgn (numL (R.take 8)) = u at *
        have hck := HCK.out u
        generalize VCheck 2 u Em = vc at *
        have HVC := Lib.hid hck
        have HR12 := Lib.hid (And.intro hr1 hr2)
        clear hck hr1 hr2 HRN HCK
        have hlx := HRW.out.h1.lt
        have hly := HRW.out.h2.lt
        go_wp2_with fail
        go_region_with (go_at_call 28; refine (HVC.out _).mono ?_; rintro e w3 ⟨rfl, b3⟩; have HRW3 := Lib.hid (HRW.out.drew.step b3); clear x0 x1 x2 y0 y1 y2 f0 f1 f2; obtain ⟨x0, x1, x2⟩ := HRW3.out.h1.cells; obtain ⟨y0, y1, y2⟩ := HRW3.out.h2.cells; have f0 := HRW3.out.h2.frozen 0; have f1 := HRW3.out.h2.frozen 1; have f2 := HRW3.out.h2.frozen 2; clear b3)
        all_goals
          have hfin : P (.returned (.tuple #[Vv 2 u Em, .int .i64 ((8 : Nat) : Int), .int .i64 vc])) (((w3.setCell ⟨w.heap.size + 1, 0, none⟩ (.int .i64 2)).setCell ⟨w.heap.size + 1, 1, none⟩ (.int .i64 u)).setCell ⟨w.heap.size + 1, 2, none⟩ (.string Em)) := by
            have hb := below_set3 (g := w.heap.size + 1) HRW3.out.h3 (Nat.le_succ _) (.int .i64 2) (.int .i64 u) (.string Em)
            obtain ⟨e1, e2⟩ := HR12.out
            by_cases cc : vc = 0
            · subst cc
              exact HGOOD.out _ _ _ _ (e2 e1) _ hb
            · exact HBAD.out _ cc e1 _ _ _ _ _ hb
          go_wp2_with fail
          exact bodyPost_ret (v := .tuple #[Vv 2 u Em, .int .i64 ((8 : Nat) : Int), .int .i64 vc]) (by simp [results, Try.results24, go_sem, y0, y1, y2, Vv]) rfl hfin

set_option maxRecDepth 100000 in
set_option maxHeartbeats 4000000 in
theorem read_3 (m : ByteArray) (q : Bool) (a : Option Addr) (b off cap : Nat) (R : List Nat) (hcap : R.length ≤ cap) (hcm : cap ≤ maxLen) (hm : R.length ≤ 4294967296) (w : World) (ha : R.length = 0 ∨ a = some ⟨b, off, none⟩) (hA : IsB w b off R) :
    Calls Try.prog 24 #[Cc m 3 q, .bool false, .slice a R.length cap] w fun e w' => OneOk w (rone 3 R 0) e w' := by
  generalize hP : (fun (e : Ending) (w' : World) => OneOk w (rone 3 R 0) e w') = P
  have hbad : ∀ (c : Int), c ≠ 0 → ((rone 3 R 0) : Int × Vt × Nat).1 = c → ∀ (k n : Int) (s : ByteArray) (qq : Nat) (w' : World), Below w.heap.size w w' → P (.returned (.tuple #[Vv k n s, .int .i64 (qq : Nat), .int .i64 c])) w' := by
    intro c hc hX k n s qq w' h; rw [← hP]; exact OneOk.bad c hc hX k n s qq h
  have hgood : ∀ (k n : Int) (s : ByteArray) (qq : Nat), (rone 3 R 0) = (0, (k, n, s), qq) → ∀ (w' : World), Below w.heap.size w w' → P (.returned (.tuple #[Vv k n s, .int .i64 (qq : Nat), .int .i64 0])) w' := by
    intro k n s qq hX w' h; rw [← hP]; exact OneOk.good k n s qq hX h
  have HBAD := Lib.hid hbad
  have HGOOD := Lib.hid hgood
  obtain ⟨b0, bc, bv⟩ := rd_boxes w m 3 q
  have HB0 := Lib.hid b0
  have HA := Lib.hid (hA.below b0)
  clear hP hbad hgood hA b0
  unfold Cc
  have HW := Lib.hid (width_any 3)
  rw [show wid 3 = 8 from rfl] at HW
  by_cases hs : R.length < 8
  · have HX := Lib.hid (rone_short 3 R 0 (by decide) (by rw [Nat.zero_add]; exact hs))
    have hs1 : (R.length : Int) < 8 := by omega
    go_enter Try.func24, Try.ntmps24
    go_upto_region 1 with fail
    generalize ((w.alloc (.cells #[.string m, .int .i64 3, .bool q] 47)).alloc (.cells #[.int .i64 0, .int .i64 0, .string Em] 43)) = wx at *
    obtain ⟨y0, y1, y2⟩ := bc.cells
    obtain ⟨x0, x1, x2⟩ := bv.cells
    have f0 := bv.frozen 0
    have f1 := bv.frozen 1
    have f2 := bv.frozen 2
    go_wp2_with (first | (go_at_call 27; refine (HW.out _).mono ?_; rintro e w1 ⟨rfl, rfl⟩))
    exact bodyPost_ret (v := .tuple #[Vv 0 0 Em, .int .i64 ((0 : Nat) : Int), .int .i64 3]) (by simp [results, Try.results24, go_sem, x0, x1, x2, Vv]) rfl (HBAD.out 3 (by decide) HX.out 0 0 Em 0 _ (below_set3 HB0.out (Nat.le_succ _) _ _ _))
  · obtain rfl : a = some ⟨b, off, none⟩ := by rcases ha with h | h; omega; exact h
    have hs1 : decide ((R.length : Int) < 8) = false := by simp; omega
    have hs2 : (8 : Int) ≤ (R.length : Int) := by omega
    have hlt : numL (R.take 8) < 256 ^ 8 := by
      have := numL_lt (R.take 8) (fun x hx => HA.out.lt x (List.mem_of_mem_take hx))
      rw [List.length_take, show min 8 R.length = 8 by omega] at this
      exact this
    have hrn := rone_num 3 (by decide) R _ (by show ¬ R.length < 8; exact hs) rfl (show numL (R.take (nby 3)) < 18446744073709551616 from Nat.lt_of_lt_of_le hlt (by decide)) (by intro h; first | exact absurd h (by decide) | exact hlt)
    have HRN := Lib.hid (show (rone 3 R 0).1 = VCheck 3 (sgn (numL (R.take 8))) Em ∧ ((rone 3 R 0).1 = 0 → rone 3 R 0 = (0, (3, sgn (numL (R.take 8)), Em), 8)) from hrn)
    have HS := Lib.hid hs
    have HCK := Lib.hid (fun n => check_any 3 n Em (by decide))
    unfold Vv at HCK
    clear hrn hlt ha hs
    go_enter Try.func24, Try.ntmps24
    go_upto_region 1 with fail
    generalize ((w.alloc (.cells #[.string m, .int .i64 3, .bool q] 47)).alloc (.cells #[.int .i64 0, .int .i64 0, .string Em] 43)) = wx at *
    obtain ⟨y0, y1, y2⟩ := bc.cells
    obtain ⟨x0, x1, x2⟩ := bv.cells
    have f0 := bv.frozen 0
    have f1 := bv.frozen 1
    have f2 := bv.frozen 2
    go_wp2_with (first | (go_at_call 27; refine (HW.out _).mono ?_; rintro e w1 ⟨rfl, rfl⟩))
    have bv3 := boxV_new wx 3 0 Em
    have bx := (bv.alloc (.cells #[.int .i64 3, .int .i64 0, .string Em] 43))
    have HB1 := Lib.hid (HB0.out.alloc HB0.out.size (.cells #[.int .i64 3, .int .i64 0, .string Em] 43))
    have hg3 : w.heap.size ≤ wx.heap.size := HB0.out.size
    have hne : w.heap.size + 1 ≠ wx.heap.size := by have := bv.lt; omega
    have HA1 := Lib.hid (HA.out.below ((Below.refl _ _).alloc (Nat.le_refl _) (.cells #[.int .i64 3, .int .i64 0, .string Em] 43)))
    have hbb : b < wx.heap.size := HA.out.hb (by omega)
    clear x0 x1 x2 f0 f1 f2 y0 y1 y2 bv bc
    generalize wx.alloc (.cells #[.int .i64 3, .int .i64 0, .string Em] 43) = wy at *
    generalize wx.heap.size = g3 at *
    go_loopw [48] (fun i wr => ∃ j : Nat, j ≤ 8 ∧ i = .int .i64 j ∧ Rw w wr 3 (sgn (numL (R.take j))) (w.heap.size + 1) g3 b off R) (fun i _ => 8 - (intOf i).toNat)
    case atStart => exact ⟨0, by omega, rfl, ⟨bv3, bx, HB1.out, HA1.out⟩⟩
    case round =>
      obtain ⟨j, hj, rfl, hrw⟩ := hrel
      have HRW := Lib.hid hrw
      clear hrw bv3 bx
      have hc : j = 0 ∨ j = 1 ∨ j = 2 ∨ j = 3 ∨ j = 4 ∨ j = 5 ∨ j = 6 ∨ j = 7 ∨ j = 8 := by omega
      rcases hc with rfl | rfl | rfl | rfl | rfl | rfl | rfl | rfl | rfl
      · have hz : R[0]? = some (R[0]'(by have := HS.out; omega)) := List.getElem?_eq_getElem _
        generalize R[0]'(by have := HS.out; omega) = c at *
        have a0 := HRW.out.h4.c 0 c hz
        have hc8 := HRW.out.h4.lt c (List.mem_of_getElem? hz)
        have hlt := numL_lt (R.take 0) (fun x hx => HRW.out.h4.lt x (List.mem_of_mem_take hx))
        rw [List.length_take, show min 0 R.length = 0 by have := HS.out; omega] at hlt
        have hsn : numL (R.take 1) = numL (R.take 0) + 256 ^ 0 * c := by
          show numL (R.take (0 + 1)) = _
          rw [List.take_add_one, hz]
          have := numL_snoc (R.take 0) c
          rw [List.length_take, show min 0 R.length = 0 by have := HS.out; omega] at this
          exact this
        have hor := or_more (numL (R.take 0)) c 0 (by decide) hc8 hlt
        rw [← hsn] at hor
        have e0 : IntKind.i64.wrap (c : Int) = (c : Int) := by rw [IntKind.wrap_i64]; omega
        have e1 : sgn (256 ^ 0 * c) = (c : Int) := by rw [show 256 ^ 0 * c = c by omega]; exact if_pos (by omega)
        rw [e1] at hor
        clear e1
        obtain ⟨xn, hxn⟩ : ∃ xn, sgn (numL (R.take 1)) = xn := ⟨_, rfl⟩
        rw [hxn] at hor
        have HXN := Lib.hid hxn
        clear hxn
        generalize sgn (numL (R.take 0)) = xv at *
        obtain ⟨x0, x1, x2⟩ := HRW.out.h1.cells
        have z1 := HRW.out.h1.frozen 1
        have hjm : (0 : Int) < (R.length : Int) := by omega
        have hjn : 0 < R.length := by omega
        rw [Nat.add_zero] at a0
        clear hz hc8 hlt hsn
        go_upto_region 16 with fail
        go_region
        all_goals
          go_wp2_with fail
          go_roundw
          case rel => exact ⟨1, by omega, by first | rfl | go_num, by
            rw [HXN.out]
            first
              | exact HRW.out.drew.set hbb hg3 hne xn
              | exact (HRW.out.set hbb hg3 hne xn).drew
              | exact HRW.out.set hbb hg3 hne xn⟩
          case measure => simp [intOf]
      · have hz : R[1]? = some (R[1]'(by have := HS.out; omega)) := List.getElem?_eq_getElem _
        generalize R[1]'(by have := HS.out; omega) = c at *
        have a0 := HRW.out.h4.c 1 c hz
        have hc8 := HRW.out.h4.lt c (List.mem_of_getElem? hz)
        have hlt := numL_lt (R.take 1) (fun x hx => HRW.out.h4.lt x (List.mem_of_mem_take hx))
        rw [List.length_take, show min 1 R.length = 1 by have := HS.out; omega] at hlt
        have hsn : numL (R.take 2) = numL (R.take 1) + 256 ^ 1 * c := by
          show numL (R.take (1 + 1)) = _
          rw [List.take_add_one, hz]
          have := numL_snoc (R.take 1) c
          rw [List.length_take, show min 1 R.length = 1 by have := HS.out; omega] at this
          exact this
        have hor := or_more (numL (R.take 1)) c 1 (by decide) hc8 hlt
        rw [← hsn] at hor
        have e0 : IntKind.i64.wrap (c : Int) = (c : Int) := by rw [IntKind.wrap_i64]; omega
        have hw : IntKind.i64.wrap ((c : Int) * 256) = sgn (256 ^ 1 * c) := by
          rw [← sgn_wrap (by omega)]
          exact congrArg IntKind.i64.wrap (by omega)
        generalize sgn (256 ^ 1 * c) = yv at *
        obtain ⟨xn, hxn⟩ : ∃ xn, sgn (numL (R.take 2)) = xn := ⟨_, rfl⟩
        rw [hxn] at hor
        have HXN := Lib.hid hxn
        clear hxn
        generalize sgn (numL (R.take 1)) = xv at *
        obtain ⟨x0, x1, x2⟩ := HRW.out.h1.cells
        have z1 := HRW.out.h1.frozen 1
        have hjm : (1 : Int) < (R.length : Int) := by omega
        have hjn : 1 < R.length := by omega
        clear hz hc8 hlt hsn
        go_upto_region 16 with fail
        go_region
        all_goals
          go_wp2_with fail
          go_roundw
          case rel => exact ⟨2, by omega, by first | rfl | go_num, by
            rw [HXN.out]
            first
              | exact HRW.out.drew.set hbb hg3 hne xn
              | exact (HRW.out.set hbb hg3 hne xn).drew
              | exact HRW.out.set hbb hg3 hne xn⟩
          case measure => simp [intOf]
      · have hz : R[2]? = some (R[2]'(by have := HS.out; omega)) := List.getElem?_eq_getElem _
        generalize R[2]'(by have := HS.out; omega) = c at *
        have a0 := HRW.out.h4.c 2 c hz
        have hc8 := HRW.out.h4.lt c (List.mem_of_getElem? hz)
        have hlt := numL_lt (R.take 2) (fun x hx => HRW.out.h4.lt x (List.mem_of_mem_take hx))
        rw [List.length_take, show min 2 R.length = 2 by have := HS.out; omega] at hlt
        have hsn : numL (R.take 3) = numL (R.take 2) + 256 ^ 2 * c := by
          show numL (R.take (2 + 1)) = _
          rw [List.take_add_one, hz]
          have := numL_snoc (R.take 2) c
          rw [List.length_take, show min 2 R.length = 2 by have := HS.out; omega] at this
          exact this
        have hor := or_more (numL (R.take 2)) c 2 (by decide) hc8 hlt
        rw [← hsn] at hor
        have e0 : IntKind.i64.wrap (c : Int) = (c : Int) := by rw [IntKind.wrap_i64]; omega
        have hw : IntKind.i64.wrap ((c : Int) * 65536) = sgn (256 ^ 2 * c) := by
          rw [← sgn_wrap (by omega)]
          exact congrArg IntKind.i64.wrap (by omega)
        generalize sgn (256 ^ 2 * c) = yv at *
        obtain ⟨xn, hxn⟩ : ∃ xn, sgn (numL (R.take 3)) = xn := ⟨_, rfl⟩
        rw [hxn] at hor
        have HXN := Lib.hid hxn
        clear hxn
        generalize sgn (numL (R.take 2)) = xv at *
        obtain ⟨x0, x1, x2⟩ := HRW.out.h1.cells
        have z1 := HRW.out.h1.frozen 1
        have hjm : (2 : Int) < (R.length : Int) := by omega
        have hjn : 2 < R.length := by omega
        clear hz hc8 hlt hsn
        go_upto_region 16 with fail
        go_region
        all_goals
          go_wp2_with fail
          go_roundw
          case rel => exact ⟨3, by omega, by first | rfl | go_num, by
            rw [HXN.out]
            first
              | exact HRW.out.drew.set hbb hg3 hne xn
              | exact (HRW.out.set hbb hg3 hne xn).drew
              | exact HRW.out.set hbb hg3 hne xn⟩
          case measure => simp [intOf]
      · have hz : R[3]? = some (R[3]'(by have := HS.out; omega)) := List.getElem?_eq_getElem _
        generalize R[3]'(by have := HS.out; omega) = c at *
        have a0 := HRW.out.h4.c 3 c hz
        have hc8 := HRW.out.h4.lt c (List.mem_of_getElem? hz)
        have hlt := numL_lt (R.take 3) (fun x hx => HRW.out.h4.lt x (List.mem_of_mem_take hx))
        rw [List.length_take, show min 3 R.length = 3 by have := HS.out; omega] at hlt
        have hsn : numL (R.take 4) = numL (R.take 3) + 256 ^ 3 * c := by
          show numL (R.take (3 + 1)) = _
          rw [List.take_add_one, hz]
          have := numL_snoc (R.take 3) c
          rw [List.length_take, show min 3 R.length = 3 by have := HS.out; omega] at this
          exact this
        have hor := or_more (numL (R.take 3)) c 3 (by decide) hc8 hlt
        rw [← hsn] at hor
        have e0 : IntKind.i64.wrap (c : Int) = (c : Int) := by rw [IntKind.wrap_i64]; omega
        have hw : IntKind.i64.wrap ((c : Int) * 16777216) = sgn (256 ^ 3 * c) := by
          rw [← sgn_wrap (by omega)]
          exact congrArg IntKind.i64.wrap (by omega)
        generalize sgn (256 ^ 3 * c) = yv at *
        obtain ⟨xn, hxn⟩ : ∃ xn, sgn (numL (R.take 4)) = xn := ⟨_, rfl⟩
        rw [hxn] at hor
        have HXN := Lib.hid hxn
        clear hxn
        generalize sgn (numL (R.take 3)) = xv at *
        obtain ⟨x0, x1, x2⟩ := HRW.out.h1.cells
        have z1 := HRW.out.h1.frozen 1
        have hjm : (3 : Int) < (R.length : Int) := by omega
        have hjn : 3 < R.length := by omega
        clear hz hc8 hlt hsn
        go_upto_region 16 with fail
        go_region
        all_goals
          go_wp2_with fail
          go_roundw
          case rel => exact ⟨4, by omega, by first | rfl | go_num, by
            rw [HXN.out]
            first
              | exact HRW.out.drew.set hbb hg3 hne xn
              | exact (HRW.out.set hbb hg3 hne xn).drew
              | exact HRW.out.set hbb hg3 hne xn⟩
          case measure => simp [intOf]
      · have hz : R[4]? = some (R[4]'(by have := HS.out; omega)) := List.getElem?_eq_getElem _
        generalize R[4]'(by have := HS.out; omega) = c at *
        have a0 := HRW.out.h4.c 4 c hz
        have hc8 := HRW.out.h4.lt c (List.mem_of_getElem? hz)
        have hlt := numL_lt (R.take 4) (fun x hx => HRW.out.h4.lt x (List.mem_of_mem_take hx))
        rw [List.length_take, show min 4 R.length = 4 by have := HS.out; omega] at hlt
        have hsn : numL (R.take 5) = numL (R.take 4) + 256 ^ 4 * c := by
          show numL (R.take (4 + 1)) = _
          rw [List.take_add_one, hz]
          have := numL_snoc (R.take 4) c
          rw [List.length_take, show min 4 R.length = 4 by have := HS.out; omega] at this
          exact this
        have hor := or_more (numL (R.take 4)) c 4 (by decide) hc8 hlt
        rw [← hsn] at hor
        have e0 : IntKind.i64.wrap (c : Int) = (c : Int) := by rw [IntKind.wrap_i64]; omega
        have hw : IntKind.i64.wrap ((c : Int) * 4294967296) = sgn (256 ^ 4 * c) := by
          rw [← sgn_wrap (by omega)]
          exact congrArg IntKind.i64.wrap (by omega)
        generalize sgn (256 ^ 4 * c) = yv at *
        obtain ⟨xn, hxn⟩ : ∃ xn, sgn (numL (R.take 5)) = xn := ⟨_, rfl⟩
        rw [hxn] at hor
        have HXN := Lib.hid hxn
        clear hxn
        generalize sgn (numL (R.take 4)) = xv at *
        obtain ⟨x0, x1, x2⟩ := HRW.out.h1.cells
        have z1 := HRW.out.h1.frozen 1
        have hjm : (4 : Int) < (R.length : Int) := by omega
        have hjn : 4 < R.length := by omega
        clear hz hc8 hlt hsn
        go_upto_region 16 with fail
        go_region
        all_goals
          go_wp2_with fail
          go_roundw
          case rel => exact ⟨5, by omega, by first | rfl | go_num, by
            rw [HXN.out]
            first
              | exact HRW.out.drew.set hbb hg3 hne xn
              | exact (HRW.out.set hbb hg3 hne xn).drew
              | exact HRW.out.set hbb hg3 hne xn⟩
          case measure => simp [intOf]
      · have hz : R[5]? = some (R[5]'(by have := HS.out; omega)) := List.getElem?_eq_getElem _
        generalize R[5]'(by have := HS.out; omega) = c at *
        have a0 := HRW.out.h4.c 5 c hz
        have hc8 := HRW.out.h4.lt c (List.mem_of_getElem? hz)
        have hlt := numL_lt (R.take 5) (fun x hx => HRW.out.h4.lt x (List.mem_of_mem_take hx))
        rw [List.length_take, show min 5 R.length = 5 by have := HS.out; omega] at hlt
        have hsn : numL (R.take 6) = numL (R.take 5) + 256 ^ 5 * c := by
          show numL (R.take (5 + 1)) = _
          rw [List.take_add_one, hz]
          have := numL_snoc (R.take 5) c
          rw [List.length_take, show min 5 R.length = 5 by have := HS.out; omega] at this
          exact this
        have hor := or_more (numL (R.take 5)) c 5 (by decide) hc8 hlt
        rw [← hsn] at hor
        have e0 : IntKind.i64.wrap (c : Int) = (c : Int) := by rw [IntKind.wrap_i64]; omega
        have hw : IntKind.i64.wrap ((c : Int) * 1099511627776) = sgn (256 ^ 5 * c) := by
          rw [← sgn_wrap (by omega)]
          exact congrArg IntKind.i64.wrap (by omega)
        generalize sgn (256 ^ 5 * c) = yv at *
        obtain ⟨xn, hxn⟩ : ∃ xn, sgn (numL (R.take 6)) = xn := ⟨_, rfl⟩
        rw [hxn] at hor
        have HXN := Lib.hid hxn
        clear hxn
        generalize sgn (numL (R.take 5)) = xv at *
        obtain ⟨x0, x1, x2⟩ := HRW.out.h1.cells
        have z1 := HRW.out.h1.frozen 1
        have hjm : (5 : Int) < (R.length : Int) := by omega
        have hjn : 5 < R.length := by omega
        clear hz hc8 hlt hsn
        go_upto_region 16 with fail
        go_region
        all_goals
          go_wp2_with fail
          go_roundw
          case rel => exact ⟨6, by omega, by first | rfl | go_num, by
            rw [HXN.out]
            first
              | exact HRW.out.drew.set hbb hg3 hne xn
              | exact (HRW.out.set hbb hg3 hne xn).drew
              | exact HRW.out.set hbb hg3 hne xn⟩
          case measure => simp [intOf]
      · have hz : R[6]? = some (R[6]'(by have := HS.out; omega)) := List.getElem?_eq_getElem _
        generalize R[6]'(by have := HS.out; omega) = c at *
        have a0 := HRW.out.h4.c 6 c hz
        have hc8 := HRW.out.h4.lt c (List.mem_of_getElem? hz)
        have hlt := numL_lt (R.take 6) (fun x hx => HRW.out.h4.lt x (List.mem_of_mem_take hx))
        rw [List.length_take, show min 6 R.length = 6 by have := HS.out; omega] at hlt
        have hsn : numL (R.take 7) = numL (R.take 6) + 256 ^ 6 * c := by
          show numL (R.take (6 + 1)) = _
          rw [List.take_add_one, hz]
          have := numL_snoc (R.take 6) c
          rw [List.length_take, show min 6 R.length = 6 by have := HS.out; omega] at this
          exact this
        have hor := or_more (numL (R.take 6)) c 6 (by decide) hc8 hlt
        rw [← hsn] at hor
        have e0 : IntKind.i64.wrap (c : Int) = (c : Int) := by rw [IntKind.wrap_i64]; omega
        have hw : IntKind.i64.wrap ((c : Int) * 281474976710656) = sgn (256 ^ 6 * c) := by
          rw [← sgn_wrap (by omega)]
          exact congrArg IntKind.i64.wrap (by omega)
        generalize sgn (256 ^ 6 * c) = yv at *
        obtain ⟨xn, hxn⟩ : ∃ xn, sgn (numL (R.take 7)) = xn := ⟨_, rfl⟩
        rw [hxn] at hor
        have HXN := Lib.hid hxn
        clear hxn
        generalize sgn (numL (R.take 6)) = xv at *
        obtain ⟨x0, x1, x2⟩ := HRW.out.h1.cells
        have z1 := HRW.out.h1.frozen 1
        have hjm : (6 : Int) < (R.length : Int) := by omega
        have hjn : 6 < R.length := by omega
        clear hz hc8 hlt hsn
        go_upto_region 16 with fail
        go_region
        all_goals
          go_wp2_with fail
          go_roundw
          case rel => exact ⟨7, by omega, by first | rfl | go_num, by
            rw [HXN.out]
            first
              | exact HRW.out.drew.set hbb hg3 hne xn
              | exact (HRW.out.set hbb hg3 hne xn).drew
              | exact HRW.out.set hbb hg3 hne xn⟩
          case measure => simp [intOf]
      · have hz : R[7]? = some (R[7]'(by have := HS.out; omega)) := List.getElem?_eq_getElem _
        generalize R[7]'(by have := HS.out; omega) = c at *
        have a0 := HRW.out.h4.c 7 c hz
        have hc8 := HRW.out.h4.lt c (List.mem_of_getElem? hz)
        have hlt := numL_lt (R.take 7) (fun x hx => HRW.out.h4.lt x (List.mem_of_mem_take hx))
        rw [List.length_take, show min 7 R.length = 7 by have := HS.out; omega] at hlt
        have hsn : numL (R.take 8) = numL (R.take 7) + 256 ^ 7 * c := by
          show numL (R.take (7 + 1)) = _
          rw [List.take_add_one, hz]
          have := numL_snoc (R.take 7) c
          rw [List.length_take, show min 7 R.length = 7 by have := HS.out; omega] at this
          exact this
        have hor := or_more (numL (R.take 7)) c 7 (by decide) hc8 hlt
        rw [← hsn] at hor
        have e0 : IntKind.i64.wrap (c : Int) = (c : Int) := by rw [IntKind.wrap_i64]; omega
        have hw : IntKind.i64.wrap ((c : Int) * 72057594037927936) = sgn (256 ^ 7 * c) := by
          rw [← sgn_wrap (by omega)]
          exact congrArg IntKind.i64.wrap (by omega)
        generalize sgn (256 ^ 7 * c) = yv at *
        obtain ⟨xn, hxn⟩ : ∃ xn, sgn (numL (R.take 8)) = xn := ⟨_, rfl⟩
        rw [hxn] at hor
        have HXN := Lib.hid hxn
        clear hxn
        generalize sgn (numL (R.take 7)) = xv at *
        obtain ⟨x0, x1, x2⟩ := HRW.out.h1.cells
        have z1 := HRW.out.h1.frozen 1
        have hjm : (7 : Int) < (R.length : Int) := by omega
        have hjn : 7 < R.length := by omega
        clear hz hc8 hlt hsn
        go_upto_region 16 with fail
        go_region
        all_goals
          go_wp2_with fail
          go_roundw
          case rel => exact ⟨8, by omega, by first | rfl | go_num, by
            rw [HXN.out]
            first
              | exact HRW.out.drew.set hbb hg3 hne xn
              | exact (HRW.out.set hbb hg3 hne xn).drew
              | exact HRW.out.set hbb hg3 hne xn⟩
          case measure => simp [intOf]
      · obtain ⟨x0, x1, x2⟩ := HRW.out.h1.cells
        obtain ⟨y0, y1, y2⟩ := HRW.out.h2.cells
        have f0 := HRW.out.h2.frozen 0
        have f1 := HRW.out.h2.frozen 1
        have f2 := HRW.out.h2.frozen 2
        obtain ⟨hr1, hr2⟩ := HRN.out
        generalize sgn (numL (R.take 8)) = u at *
        have hck := HCK.out u
        generalize VCheck 3 u Em = vc at *
        have HVC := Lib.hid hck
        have HR12 := Lib.hid (And.intro hr1 hr2)
        clear hck hr1 hr2 HRN HCK
        have hlx := HRW.out.h1.lt
        have hly := HRW.out.h2.lt
        go_wp2_with fail
        go_region_with (go_at_call 28; refine (HVC.out _).mono ?_; rintro e w3 ⟨rfl, b3⟩; have HRW3 := Lib.hid (HRW.out.drew.step b3); clear x0 x1 x2 y0 y1 y2 f0 f1 f2; obtain ⟨x0, x1, x2⟩ := HRW3.out.h1.cells; obtain ⟨y0, y1, y2⟩ := HRW3.out.h2.cells; have f0 := HRW3.out.h2.frozen 0; have f1 := HRW3.out.h2.frozen 1; have f2 := HRW3.out.h2.frozen 2; clear b3)
        all_goals
          have hfin : P (.returned (.tuple #[Vv 3 u Em, .int .i64 ((8 : Nat) : Int), .int .i64 vc])) (((w3.setCell ⟨w.heap.size + 1, 0, none⟩ (.int .i64 3)).setCell ⟨w.heap.size + 1, 1, none⟩ (.int .i64 u)).setCell ⟨w.heap.size + 1, 2, none⟩ (.string Em)) := by
            have hb := below_set3 (g := w.heap.size + 1) HRW3.out.h3 (Nat.le_succ _) (.int .i64 3) (.int .i64 u) (.string Em)
            obtain ⟨e1, e2⟩ := HR12.out
            by_cases cc : vc = 0
            · subst cc
              exact HGOOD.out _ _ _ _ (e2 e1) _ hb
            · exact HBAD.out _ cc e1 _ _ _ _ _ hb
          go_wp2_with fail
          exact bodyPost_ret (v := .tuple #[Vv 3 u Em, .int .i64 ((8 : Nat) : Int), .int .i64 vc]) (by simp [results, Try.results24, go_sem, y0, y1, y2, Vv]) rfl hfin

theorem read_any (m : ByteArray) (t : Int) (q nl : Bool) (a : Option Addr) (b off cap : Nat) (R : List Nat) (hcap : R.length ≤ cap) (hcm : cap ≤ maxLen) (hm : R.length ≤ 4294967296) (w : World) (ha : R.length = 0 ∨ a = some ⟨b, off, none⟩) (hA : IsB w b off R) :
    Calls Try.prog 24 #[Cc m t q, .bool nl, .slice a R.length cap] w fun e w' => OneOk w (rdX t q nl R) e w' := by
  unfold rdX
  cases nl with
  | true =>
    rw [if_pos rfl]
    exact read_null m t q a b off cap R hcap hcm hm w ha hA
  | false =>
    rw [if_neg (by decide)]
    by_cases ht : t < 1 ∨ 4 < t
    · exact read_wrong m t q ht a b off cap R hcap hcm hm w ha hA
    · have hc : t = 1 ∨ t = 2 ∨ t = 3 ∨ t = 4 := by omega
      rcases hc with rfl | rfl | rfl | rfl
      · exact read_1 m q a b off cap R hcap hcm hm w ha hA
      · exact read_2 m q a b off cap R hcap hcm hm w ha hA
      · exact read_3 m q a b off cap R hcap hcm hm w ha hA
      · exact read_text m q a b off cap R hcap hcm hm w ha hA

end Go.Proofs.Ytpknoclnmhomiab
