/-
  Package rows over the translation: small functions; Fit.
  Conditions: the lists lie in memory; the row's texts are not too long.
-/
import Derived.Test.YtpknoclnmhomiabRif
import Derived.Test.YtpknoclnmhomiabVal2
import Derived.StillTailTactics
namespace Go.Proofs.Ytpknoclnmhomiab
open Go.RowKit Go.Joins Go.ChangeShapes Go.WideShapes
set_option linter.unusedVariables false

theorem bitbytes_any (n : Nat) (h : n ≤ 4294967296) (w : World) :
    Calls Try.prog 19 #[.int .i64 (n : Nat)] w fun e w' => e = .returned (.int .i64 (((n + 7) / 8 : Nat) : Int)) ∧ w = w' := by
  obtain ⟨q, hq⟩ : ∃ q, (n + 7) / 8 = q := ⟨_, rfl⟩
  rw [hq]
  have e1 : IntKind.i64.wrap ((n : Int) + 7) = (n : Int) + 7 := by rw [IntKind.wrap_i64]; omega
  have e2 : Int.tdiv ((n : Int) + 7) 8 = (q : Int) := by rw [Int.tdiv_eq_ediv_of_nonneg (by omega)]; omega
  have e3 : IntKind.i64.wrap (q : Int) = (q : Int) := by rw [IntKind.wrap_i64]; omega
  clear hq h
  go_enter Try.func19, Try.ntmps19
  go_wp2
  go_ret
  exact ⟨ret_i (by first | rfl | assumption | omega | (simp [*]; done)), rfl⟩

/-- how many bytes a kind's number takes; 0 for the others -/
def wid (k : Int) : Nat := if k = 1 then 1 else if k = 2 ∨ k = 3 then 8 else 0
theorem width_any (k : Int) (w : World) :
    Calls Try.prog 27 #[.int .i64 k] w fun e w' => e = .returned (.int .i64 (wid k : Nat)) ∧ w = w' := by
  unfold wid
  by_cases k1 : k = 1
  · subst k1
    go_enter Try.func27, Try.ntmps27
    go_wp2
    go_ret
    exact ⟨rfl, rfl⟩
  by_cases k2 : k = 2
  · subst k2
    go_enter Try.func27, Try.ntmps27
    go_wp2
    go_ret
    exact ⟨rfl, rfl⟩
  by_cases k3 : k = 3
  · subst k3
    go_enter Try.func27, Try.ntmps27
    go_wp2
    go_ret
    exact ⟨rfl, rfl⟩
  rw [if_neg k1, if_neg (by omega)]
  have q1 : (k == 1) = false := by simpa using k1
  have q2 : (k == 2) = false := by simpa using k2
  have q3 : (k == 3) = false := by simpa using k3
  go_enter Try.func27, Try.ntmps27
  go_wp2
  go_ret
  exact ⟨rfl, rfl⟩

/-- what is wrong with one value for one column -/
def fit1 (t : Int) (q : Bool) (k n : Int) (s : ByteArray) : Int := if VCheck k n s = 0 then (if k = 0 then (if q = true then 60 else 0) else if k = t then 0 else 30) else VCheck k n s
theorem fit1_step (tf : Nat → Int) (qf : Nat → Bool) (kf nf : Nat → Int) (sf : Nat → ByteArray) (i : Nat) : fitStep tf qf kf nf sf i = fit1 (tf i) (qf i) (kf i) (nf i) (sf i) := rfl
/-- a box with a column -/
abbrev BoxC (w : World) (g : Nat) (m : ByteArray) (t : Int) (q : Bool) : Prop := w.heap[g]? = some (.cells #[.string m, .int .i64 t, .bool q] 47 (0, 0))
theorem boxC_new (w : World) (m : ByteArray) (t : Int) (q : Bool) : BoxC (w.alloc (.cells #[.string m, .int .i64 t, .bool q] 47)) w.heap.size m t q := heap_alloc_new w _
theorem BoxC.cells {w : World} {g : Nat} {m : ByteArray} {t : Int} {q : Bool} (h : BoxC w g m t q) : w.cell? ⟨g, 0, none⟩ = some (.string m) ∧ w.cell? ⟨g, 1, none⟩ = some (.int .i64 t) ∧ w.cell? ⟨g, 2, none⟩ = some (.bool q) := by
  refine ⟨?_, ?_, ?_⟩ <;> rw [cell_of_block h] <;> rfl
theorem BoxC.lt {w : World} {g : Nat} {m : ByteArray} {t : Int} {q : Bool} (h : BoxC w g m t q) : g < w.heap.size := (Array.getElem?_eq_some_iff.1 h).1
theorem BoxC.below {w w' : World} {g : Nat} {m : ByteArray} {t : Int} {q : Bool} (h : BoxC w g m t q) (hb : Below w.heap.size w w') : BoxC w' g m t q := (hb.block g h.lt).trans h
theorem BoxC.alloc {w : World} {g : Nat} {m : ByteArray} {t : Int} {q : Bool} (h : BoxC w g m t q) (o : Obj) : BoxC (w.alloc o) g m t q := h.below ((Below.refl _ _).alloc (Nat.le_refl _) _)
def Cc (m : ByteArray) (t : Int) (q : Bool) : Value := .agg #[.string m, .int .i64 t, .bool q]

set_option maxHeartbeats 2000000 in
theorem fitone_any (m : ByteArray) (t : Int) (q : Bool) (k n : Int) (s : ByteArray) (hs : s.size ≤ maxLen) (w : World) :
    Calls Try.prog 21 #[Cc m t q, Vv k n s] w fun e w' => e = .returned (.int .i64 (fit1 t q k n s)) ∧ Below w.heap.size w w' := by
  have HC := Lib.hid (check_any k n s hs)
  have B0 : Below w.heap.size w ((w.alloc (.cells #[.string m, .int .i64 t, .bool q] 47)).alloc (.cells #[.int .i64 k, .int .i64 n, .string s] 43)) := ((Below.refl _ _).alloc (Nat.le_refl _) _).alloc (by simp) _
  have X1 := Lib.hid ((boxC_new w m t q).alloc (.cells #[.int .i64 k, .int .i64 n, .string s] 43))
  have X2 := boxV_new (w.alloc (.cells #[.string m, .int .i64 t, .bool q] 47)) k n s
  rw [show (w.alloc (.cells #[.string m, .int .i64 t, .bool q] 47)).heap.size = w.heap.size + 1 by simp] at X2
  have X2 := Lib.hid X2
  unfold fit1
  generalize VCheck k n s = c at *
  obtain ⟨T, hT⟩ : ∃ T, (if c = 0 then (if k = 0 then (if q = true then 60 else 0) else if k = t then 0 else 30) else c) = T := ⟨_, rfl⟩
  rw [hT]
  have HT := Lib.hid hT
  clear hT
  unfold Cc Vv
  unfold Vv at HC
  clear hs
  go_enter Try.func21, Try.ntmps21
  go_upto_region 1 with fail
  generalize ((w.alloc (.cells #[.string m, .int .i64 t, .bool q] 47)).alloc (.cells #[.int .i64 k, .int .i64 n, .string s] 43)) = wx at *
  generalize hgs : w.heap.size = g1 at *
  obtain ⟨x0, x1, x2⟩ := X2.out.cells
  have HB0 := Lib.hid B0
  clear B0
  go_wp2_with fail
  refine (HC.out _).mono ?_
  rintro e w3 ⟨rfl, b3⟩
  have BB := Lib.hid (show Below w.heap.size w w3 by rw [hgs]; exact HB0.out.trans (b3.mono (by have := X2.out.lt; omega)))
  obtain ⟨x0, x1, x2⟩ := (X2.out.below b3).cells
  obtain ⟨y0, y1, y2⟩ := (X1.out.below b3).cells
  clear b3
  have hT := HT.out
  by_cases c0 : c = 0
  · subst c0
    rw [if_pos rfl] at hT
    by_cases k0 : k = 0
    · subst k0
      rw [if_pos rfl] at hT
      rcases q with _ | _
      · have HR := Lib.hid (show (0 : Int) = T by simpa using hT)
        clear hT
        go_wp2
        go_ret
        exact ⟨ret_i HR.out, BB.out⟩
      · have HR := Lib.hid (show (60 : Int) = T by simpa using hT)
        clear hT
        go_wp2
        go_ret
        exact ⟨ret_i HR.out, BB.out⟩
    · rw [if_neg k0] at hT
      have k0' : (k == 0) = false := by simpa using k0
      have k0'' : (k != 0) = true := by simpa using k0
      by_cases kt : k = t
      · subst kt
        rw [if_pos rfl] at hT
        have HR := Lib.hid hT
        clear hT
        go_wp2
        go_ret
        exact ⟨ret_i HR.out, BB.out⟩
      · rw [if_neg kt] at hT
        have kt' : (k == t) = false := by simpa using kt
        have kt'' : (k != t) = true := by simpa using kt
        have HR := Lib.hid hT
        clear hT
        go_wp2
        go_ret
        exact ⟨ret_i HR.out, BB.out⟩
  · rw [if_neg c0] at hT
    have c0' : (c == 0) = false := by simpa using c0
    have c0'' : (c != 0) = true := by simpa using c0
    have HR := Lib.hid hT
    clear hT
    go_wp2
    go_ret
    exact ⟨ret_i HR.out, BB.out⟩

set_option maxHeartbeats 2000000 in
theorem fit_r (a a' : Option Addr) (b off m cap b' off' n cap' : Nat) (mf : Nat → ByteArray) (tf : Nat → Int) (qf : Nat → Bool) (kf nf : Nat → Int) (sf : Nat → ByteArray) (hm : m ≤ 4194304) (hn : n ≤ 4194304) (w : World)
    (ha : m = 0 ∨ a = some ⟨b, off, none⟩) (ha' : n = 0 ∨ a' = some ⟨b', off', none⟩) (hA : IsC w b off m mf tf qf) (hB : IsV w b' off' n kf nf sf)
    (hr : ∀ i, i < n → InI (nf i) ∧ (sf i).size ≤ 1048576) :
    Calls Try.prog 13 #[.slice a m cap, .slice a' n cap'] w fun e w' => e = .returned (.int .i64 (fitV m n tf qf kf nf sf)) ∧ Below w.heap.size w w' := by
  generalize hT : fitV m n tf qf kf nf sf = T
  unfold fitV at hT
  have HX := Lib.hid hT
  clear hT
  by_cases hmn : m = n
  · subst hmn
    have hT := HX.out
    rw [if_pos rfl] at hT
    have hc : ∀ k, k < m → ∀ w, Calls Try.prog 21 #[Cc (mf k) (tf k) (qf k), Vv (kf k) (nf k) (sf k)] w fun e w' => e = .returned (.int .i64 (fitStep tf qf kf nf sf k)) ∧ Below w.heap.size w w' :=
      fun k hk w => fitone_any _ _ _ _ _ _ (by have := (hr k hk).2; unfold maxLen; omega) w
    generalize fitStep tf qf kf nf sf = f at *
    unfold Cc Vv at hc
    have HT := Lib.hid hT
    have HC := Lib.hid hc
    clear hT hc HX hr
    go_enter Try.func13, Try.ntmps13
    go_wp2
    go_loopw [15] (fun i wr => ∃ k : Nat, k ≤ m ∧ i = .int .i64 k ∧ Hid (firstNZ f 0 k (m - k) = T) ∧ Below w.heap.size w wr) (fun i _ => m - (intOf i).toNat)
    case atStart => exact ⟨0, Nat.zero_le _, rfl, HT, Below.refl _ _⟩
    case round =>
      obtain ⟨k, hk, rfl, HF, hb⟩ := hrel
      by_cases hlt : k < m
      · obtain rfl : a = some ⟨b, off, none⟩ := by rcases ha with h | h; omega; exact h
        obtain rfl : a' = some ⟨b', off', none⟩ := by rcases ha' with h | h; omega; exact h
        have hA' := hA.below hb
        have a0 := hA'.c0 k (by omega)
        have a1 := hA'.c1 k (by omega)
        have a2 := hA'.c2 k (by omega)
        have hkm : (k : Int) < (m : Int) := by omega
        have hsz := hb.size
        have bx := boxC_new wr (mf k) (tf k) (qf k)
        have hB' := hB.below (stepB hb ((Below.refl _ wr).alloc (Nat.le_refl _) (.cells #[.string (mf k), .int .i64 (tf k), .bool (qf k)] 47)))
        have HBX := Lib.hid (stepB hb ((Below.refl _ wr).alloc (Nat.le_refl _) (.cells #[.string (mf k), .int .i64 (tf k), .bool (qf k)] 47)))
        have b0 := hB'.c0 k (by omega)
        have b1 := hB'.c1 k (by omega)
        have b2 := hB'.c2 k (by omega)
        clear hA' hB'
        go_upto_region 6 with fail
        generalize (wr.alloc (.cells #[.string (mf k), .int .i64 (tf k), .bool (qf k)] 47)) = wx at *
        generalize wr.heap.size = g at *
        obtain ⟨x0, x1, x2⟩ := bx.cells
        clear a0 a1 a2
        go_still_tail 5, (by kernel_rfl)
        change wpList _ _ _ _ _ wx.drew
        have hb2 := Lib.hid HBX.out.drew
        generalize wx.drew = w2 at *
        clear b0 b1 b2 x0 x1 x2 bx
        go_wp2_with fail
        refine (HC.out k hlt _).mono ?_
        rintro e w3 ⟨rfl, hb3⟩
        have hb4 := Lib.hid (stepB hb2.out hb3)
        clear hb3
        obtain ⟨hs0, hs1⟩ := firstNZ_step HF.out hlt
        by_cases hz : f k = 0
        · have hz' : (f k != 0) = false := by simpa using hz
          have HR := Lib.hid (hs0 hz)
          clear hs0 hs1 hz HF
          go_wp2
          go_roundw
          case rel => exact ⟨k + 1, by omega, by go_num, HR, hb4.out⟩
          case measure => simp [intOf]; omega
        · have hz' : (f k != 0) = true := by simpa using hz
          have HR := Lib.hid (hs1 hz)
          clear hs0 hs1 hz HF
          go_wp2
          go_ret
          exact ⟨ret_i HR.out, hb4.out⟩
      · have HR := Lib.hid (firstNZ_end HF.out (by omega))
        have hk1 : ¬ (k : Int) < (m : Int) := by omega
        clear HF
        go_wp2
        go_ret
        exact ⟨ret_i HR.out, hb⟩
  · have hT := HX.out
    rw [if_neg hmn] at hT
    have HR := Lib.hid hT
    have hne : ((n : Int) != (m : Int)) = true := by
      have : (n : Int) ≠ m := by omega
      simpa using this
    go_enter Try.func13, Try.ntmps13
    go_wp2
    go_ret
    exact ⟨ret_i HR.out, Below.refl _ _⟩

end Go.Proofs.Ytpknoclnmhomiab
