/-
  Package rows over the translation: isSet, readText, read.
  Conditions: the bytes lie in memory.
-/
import Derived.Test.YtpknoclnmhomiabRs1
import Derived.Test.YtpknoclnmhomiabKs4
import Derived.Test.YtpknoclnmhomiabRow8
import Derived.Laws.BitsAllLaws
namespace Go.Proofs.Ytpknoclnmhomiab
open Go.RowKit Go.Joins Go.ChangeShapes Go.WideShapes
set_option linter.unusedVariables false

theorem and_one (y : Nat) (hy : y < 256) : bits .and .u8 (y : Int) 1 = ((y % 2 : Nat) : Int) := by
  have := u8_and_nat y 1 hy (by decide)
  rw [show ((1 : Nat) : Int) = 1 from rfl] at this
  rw [this, Nat.and_one_is_mod]

theorem isset_any (b off cap : Nat) (l : List Nat) (i : Nat) (hi : i / 8 < l.length) (hi2 : i ≤ 9223372036854775807) (hm : l.length ≤ maxLen) (w : World) (hA : IsB w b off l) :
    Calls Try.prog 23 #[.slice (some ⟨b, off, none⟩) l.length cap, .int .i64 (i : Nat)] w fun e w' => e = .returned (.bool (bitN l i)) ∧ w = w' := by
  have hz : l[i / 8]? = some (l[i / 8]'hi) := List.getElem?_eq_getElem hi
  have hg : l.getD (i / 8) 0 = l[i / 8]'hi := by rw [List.getD_eq_getElem?_getD, hz]; rfl
  unfold bitN
  rw [hg]
  generalize l[i / 8]'hi = z at *
  have a0 := hA.c (i / 8) z hz
  have hz8 := hA.lt z (List.mem_of_getElem? hz)
  obtain ⟨q, hq⟩ : ∃ q, i / 8 = q := ⟨_, rfl⟩
  obtain ⟨r, hr⟩ : ∃ r, i % 8 = r := ⟨_, rfl⟩
  have hq1 : Int.tdiv (i : Int) 8 = (q : Int) := by rw [Int.tdiv_eq_ediv_of_nonneg (by omega)]; omega
  have hr1 : Int.tmod (i : Int) 8 = (r : Int) := by rw [Int.tmod_eq_emod_of_nonneg (by omega)]; omega
  have hq2 : (i : Int) / 8 = (q : Int) := by omega
  have hr2 : (i : Int) % 8 = (r : Int) := by omega
  rw [hq] at a0 hi
  rw [hr]
  have hlm : (l.length : Int) ≤ 9223372036854775807 := by unfold maxLen at hm; omega
  have hqm : (q : Int) < (l.length : Int) := by omega
  obtain ⟨y, hy⟩ : ∃ y, z / 2 ^ r = y := ⟨_, rfl⟩
  have hyz : y < 256 := by rw [← hy]; exact Nat.lt_of_le_of_lt (Nat.div_le_self _ _) hz8
  have hand := and_one y hyz
  have hsh : (z : Int) / 2 ^ r = (y : Int) := by
    rw [← hy]
    simp [Int.natCast_ediv]
  rw [hy]
  have HE : Hid (decide (y % 2 = 1) = (((y % 2 : Nat) : Int) == 1)) := by
    show _ = _
    rw [Bool.eq_iff_iff]
    simp
    omega
  generalize hyy : ((y % 2 : Nat) : Int) = yy at *
  rw [HE.out]
  generalize l.length = m at *
  clear hz hg hA hm hy hyz
  have hrc : r = 0 ∨ r = 1 ∨ r = 2 ∨ r = 3 ∨ r = 4 ∨ r = 5 ∨ r = 6 ∨ r = 7 := by omega
  rcases hrc with rfl | rfl | rfl | rfl | rfl | rfl | rfl | rfl
  all_goals
    have hsh2 := hsh
    simp only [show (2 : Int) ^ 0 = 1 from rfl, show (2 : Int) ^ 1 = 2 from rfl, show (2 : Int) ^ 2 = 4 from rfl, show (2 : Int) ^ 3 = 8 from rfl, show (2 : Int) ^ 4 = 16 from rfl, show (2 : Int) ^ 5 = 32 from rfl, show (2 : Int) ^ 6 = 64 from rfl, show (2 : Int) ^ 7 = 128 from rfl, Int.ediv_one] at hsh2
    go_enter Try.func23, Try.ntmps23
    go_wp2
    go_ret
    first
      | exact ⟨rfl, rfl⟩
      | (refine ⟨congrArg (fun x => Ending.returned (Value.bool x)) ?_, rfl⟩; trace_state; simp [*]; done)

/-! a value at the head of bytes -/
theorem rone_0 (t : Int) (l : List Nat) (p : Nat) (hp : p ≤ l.length) : rone t l p = ((rone t (l.drop p) 0).1, (rone t (l.drop p) 0).2.1, p + (rone t (l.drop p) 0).2.2) := by
  have hl : (l.drop p).length = l.length - p := List.length_drop ..
  unfold rone
  simp only [List.drop_drop, Nat.zero_add, Nat.add_zero, hl]
  have c1 : (l.length - p < nby t) = (l.length < p + nby t) := propext ⟨fun _ => by omega, fun _ => by omega⟩
  have c2 : ∀ u, (l.length - p < nby t + u) = (l.length < p + nby t + u) := fun u => propext ⟨fun _ => by omega, fun _ => by omega⟩
  simp only [c1, c2]
  generalize numL ((l.drop p).take (nby t)) = u
  by_cases h1 : t < 1 ∨ 4 < t
  · rw [if_pos h1, if_pos h1]; rfl
  rw [if_neg h1, if_neg h1]
  by_cases h2 : l.length < p + nby t
  · rw [if_pos h2, if_pos h2]; rfl
  rw [if_neg h2, if_neg h2]
  by_cases h3 : t = 1 ∧ 1 < u
  · rw [if_pos h3, if_pos h3]; rfl
  rw [if_neg h3, if_neg h3]
  by_cases h4 : t = 3 ∧ PCanon (sgn u) ≠ sgn u
  · rw [if_pos h4, if_pos h4]; rfl
  rw [if_neg h4, if_neg h4]
  by_cases h5 : t < 4
  · rw [if_pos h5, if_pos h5]
  rw [if_neg h5, if_neg h5]
  by_cases h6 : 200 < u
  · rw [if_pos h6, if_pos h6]; rfl
  rw [if_neg h6, if_neg h6]
  by_cases h7 : l.length < p + nby t + u
  · rw [if_pos h7, if_pos h7]; rfl
  rw [if_neg h7, if_neg h7, Nat.add_assoc]

/-- .. of a column, null or not -/
def rdX (t : Int) (q : Bool) (nl : Bool) (R : List Nat) : Int × Vt × Nat := if nl = true then (if q = true then (60, (0, 0, Em), 0) else (0, (0, 0, Em), 0)) else rone t R 0

theorem boxV0 (w : World) : BoxV (w.alloc (.cells #[.int .i64 0, .int .i64 0, .string Em] 43)) w.heap.size 0 0 Em := boxV_new w 0 0 Em

set_option maxHeartbeats 2000000 in
theorem readtext_any (a : Option Addr) (b off cap : Nat) (R : List Nat) (hcap : R.length ≤ cap) (hm : R.length ≤ 4294967296) (w : World) (ha : R.length = 0 ∨ a = some ⟨b, off, none⟩) (hA : IsB w b off R) :
    Calls Try.prog 30 #[.slice a R.length cap] w fun e w' => OneOk w (rone 4 R 0) e w' := by
  generalize hP : (fun (e : Ending) (w' : World) => OneOk w (rone 4 R 0) e w') = P
  have hbad : ∀ (c : Int), c ≠ 0 → (rone 4 R 0).1 = c → ∀ (k n : Int) (s : ByteArray) (q : Nat) (w' : World), Below w.heap.size w w' → P (.returned (.tuple #[Vv k n s, .int .i64 (q : Nat), .int .i64 c])) w' := by
    intro c hc hX k n s q w' h; rw [← hP]; exact OneOk.bad c hc hX k n s q h
  have hgood : ∀ (k n : Int) (s : ByteArray) (q : Nat), rone 4 R 0 = (0, (k, n, s), q) → ∀ (w' : World), Below w.heap.size w w' → P (.returned (.tuple #[Vv k n s, .int .i64 (q : Nat), .int .i64 0])) w' := by
    intro k n s q hX w' h; rw [← hP]; exact OneOk.good k n s q hX h
  have HBAD := Lib.hid hbad
  have HGOOD := Lib.hid hgood
  have b0 := boxV0 w
  have HB0 := Lib.hid ((Below.refl w.heap.size w).alloc (Nat.le_refl _) (.cells #[.int .i64 0, .int .i64 0, .string Em] 43))
  have HA := Lib.hid (hA.below HB0.out)
  have hset : ∀ (wx : World), Below w.heap.size w wx → ∀ u0 u1 u2, Below w.heap.size w (((wx.setCell ⟨w.heap.size, 0, none⟩ u0).setCell ⟨w.heap.size, 1, none⟩ u1).setCell ⟨w.heap.size, 2, none⟩ u2) := fun wx h u0 u1 u2 =>
    ((h.setCell (p := ⟨w.heap.size, 0, none⟩) (Nat.le_refl _) u0).setCell (p := ⟨w.heap.size, 1, none⟩) (Nat.le_refl _) u1).setCell (p := ⟨w.heap.size, 2, none⟩) (Nat.le_refl _) u2
  have HSET := Lib.hid hset
  clear hP hbad hgood hA hset
  rcases R with _ | ⟨z, R⟩
  · have hX : (rone 4 [] 0).1 = 3 := rone_short 4 [] 0 (by decide) (by decide)
    have HX := Lib.hid hX
    clear hX
    go_enter Try.func30, Try.ntmps30
    go_upto_region 1 with fail
    generalize w.alloc (.cells #[.int .i64 0, .int .i64 0, .string Em] 43) = wx at *
    obtain ⟨x0, x1, x2⟩ := b0.cells
    have f0 := b0.frozen 0
    have f1 := b0.frozen 1
    have f2 := b0.frozen 2
    go_wp2_with fail
    exact bodyPost_ret (v := .tuple #[Vv 0 0 Em, .int .i64 ((0 : Nat) : Int), .int .i64 3]) (by simp [results, Try.results30, go_sem, x0, x1, x2, Vv]) rfl (HBAD.out 3 (by decide) HX.out 0 0 Em 0 _ (HSET.out _ HB0.out _ _ _))
  · obtain rfl : a = some ⟨b, off, none⟩ := by rcases ha with h | h; (simp at h); exact h
    have a0 := HA.out.c 0 z rfl
    have hz8 : z < 256 := HA.out.lt z (by simp)
    rw [Nat.add_zero] at a0
    have hs : ¬ (z :: R).length < 0 + 1 := by simp
    have hu : numL (((z :: R).drop 0).take 1) = z := by show z + 256 * 0 = z; omega
    rw [List.length_cons] at hcap hm ⊢
    have hlz : (0 : Int) < (R.length : Int) + 1 := by omega
    have hlz2 : ((R.length : Int) + 1 == 0) = false := by simp; omega
    have e1 : IntKind.i64.wrap (1 + (z : Int)) = 1 + (z : Int) := by rw [IntKind.wrap_i64]; omega
    by_cases c : 200 < z
    · have HX := Lib.hid (rone_4big (z :: R) 0 z hs hu c)
      have c1 : (201 : Int) < 1 + (z : Int) := by omega
      clear hu hs
      go_enter Try.func30, Try.ntmps30
      go_upto_region 1 with fail
      generalize w.alloc (.cells #[.int .i64 0, .int .i64 0, .string Em] 43) = wx at *
      obtain ⟨x0, x1, x2⟩ := b0.cells
      have f0 := b0.frozen 0
      have f1 := b0.frozen 1
      have f2 := b0.frozen 2
      go_wp2_with fail
      exact bodyPost_ret (v := .tuple #[Vv 0 0 Em, .int .i64 ((0 : Nat) : Int), .int .i64 1]) (by simp [results, Try.results30, go_sem, x0, x1, x2, Vv]) rfl (HBAD.out 1 (by decide) HX.out 0 0 Em 0 _ (HSET.out _ HB0.out _ _ _))
    · have c1 : decide ((201 : Int) < 1 + (z : Int)) = false := by simp; omega
      have c1' : ¬ (201 : Int) < 1 + (z : Int) := by omega
      by_cases c2 : R.length < z
      · have HX := Lib.hid (rone_4short (z :: R) 0 z hs hu c (by rw [List.length_cons]; omega))
        have c3 : (R.length : Int) + 1 < 1 + (z : Int) := by omega
        clear hu hs
        go_enter Try.func30, Try.ntmps30
        go_upto_region 1 with fail
        generalize w.alloc (.cells #[.int .i64 0, .int .i64 0, .string Em] 43) = wx at *
        obtain ⟨x0, x1, x2⟩ := b0.cells
        have f0 := b0.frozen 0
        have f1 := b0.frozen 1
        have f2 := b0.frozen 2
        go_wp2_with fail
        exact bodyPost_ret (v := .tuple #[Vv 0 0 Em, .int .i64 ((0 : Nat) : Int), .int .i64 3]) (by simp [results, Try.results30, go_sem, x0, x1, x2, Vv]) rfl (HBAD.out 3 (by decide) HX.out 0 0 Em 0 _ (HSET.out _ HB0.out _ _ _))
      · have hX := rone_4 (z :: R) 0 z hs hu c (by rw [List.length_cons]; omega)
        have c3 : decide ((R.length : Int) + 1 < 1 + (z : Int)) = false := by simp; omega
        have c3' : ¬ (R.length : Int) + 1 < 1 + (z : Int) := by omega
        have hX2 : rone 4 (z :: R) 0 = (0, (4, 0, strB (R.take z)), 1 + z) := by rw [hX]; simp
        have HX := Lib.hid hX2
        have hsl : ∀ w, (Instr.slice 27 (.slice (some ⟨b, off, none⟩) (R.length + 1) cap) (some (.int .i64 1)) (some (.int .i64 (1 + (z : Int)))) none).run Try.prog w = .ok (.slice (if cap = 1 then some ⟨b, off, none⟩ else some ⟨b, off + 1, none⟩) (R.take z).length (cap - 1)) w := by
          intro w
          have hs : (sizeOf (Try.prog.elem 27)).run Try.prog w = .ok 1 w := by first | rfl | kernel_rfl
          rw [run_slice_lh w 27 (some ⟨b, off, none⟩) (R.length + 1) cap (by kernel_rfl) .i64 .i64 1 (1 + (z : Int)) (by omega) (by omega) (by omega), hs]
          have ea : (⟨b, off, none⟩ : Addr).add 1 = ⟨b, off + 1, none⟩ := by unfold Addr.add; split <;> simp_all
          simp only [Result.andThen, sliced]
          rw [show (1 : Int).toNat = 1 from rfl, Nat.mul_one, Option.map_some, ea, show (1 + (z : Int)).toNat - 1 = (R.take z).length by rw [List.length_take]; omega]
        have hB := (HA.out.drop 1).take z
        rw [List.drop_succ_cons, List.drop_zero] at hB
        have hstr := str_arg (A := if cap = 1 then some ⟨b, off, none⟩ else some ⟨b, off + 1, none⟩) (c := cap - 1) (by
          by_cases e : cap = 1
          · left; rw [List.length_take]; omega
          · right; rw [if_neg e]) (by
          intro h
          split at h <;> cases h) hB
        generalize (if cap = 1 then some (⟨b, off, none⟩ : Addr) else some ⟨b, off + 1, none⟩) = ad at *
        generalize (R.take z).length = tl at *
        generalize strB (R.take z) = ss at *
        generalize cap - 1 = cp at *
        clear hu hs hX hX2 hB
        go_enter Try.func30, Try.ntmps30
        go_upto_region 1 with fail
        generalize w.alloc (.cells #[.int .i64 0, .int .i64 0, .string Em] 43) = wx at *
        obtain ⟨x0, x1, x2⟩ := b0.cells
        have f0 := b0.frozen 0
        have f1 := b0.frozen 1
        have f2 := b0.frozen 2
        go_wp2_with fail
        exact bodyPost_ret (v := .tuple #[Vv 4 0 ss, .int .i64 ((1 + z : Nat) : Int), .int .i64 0]) (by simp [results, Try.results30, go_sem, x0, x1, x2, Vv]) rfl (HGOOD.out 4 0 ss (1 + z) HX.out _ (HSET.out _ HB0.out _ _ _))

end Go.Proofs.Ytpknoclnmhomiab
