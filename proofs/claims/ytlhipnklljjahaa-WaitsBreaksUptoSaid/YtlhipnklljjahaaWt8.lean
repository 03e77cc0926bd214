/-
  The library's functions that package waits calls, laid here; the order of edges: contracts over the translation.
  Conditions: none.
-/
import Derived.Test.YtlhipnklljjahaaWt7
import Derived.Shelf.SlicesE.Clone
import Derived.Shelf.SlSortCmp.NoneTotal
import Derived.Shelf.Small.Wraps
import Derived.Shelf.Slices.SearchI
import Derived.Shelf.Slices.Empties
import Derived.Shelf.Slices.Turned
import Derived.Laws.StructEq
import Derived.StillTailTactics
namespace Go.Proofs.Ytlhipnklljjahaa
open Go.RowKit Go.Joins Go.ChangeShapes Go.WideShapes
set_option linter.unusedVariables false
set_option linter.unnecessarySimpa false
set_option linter.unusedSimpArgs false

/-- the numbers that the library's text has here -/
def clRen : Go.Shelf.Ren where
  f := fun x => match x with
    | 41 => 23
    | n => n
  t := fun x => match x with
    | 22 => 22
    | 23 => 27
    | 4 => 4
    | n => n
  g := fun x => x
theorem clLays : Go.Proofs.SlLaysE0.n41 Try.prog clRen :=
  { mixed := by kernel_rfl,
    f41 := ⟨_, by kernel_rfl, Eq.trans Try.func23 (congrArg some rfl)⟩,
    t4 := Try.underlying4,
    a4 := Try.isAgg4,
    z4 := Try.sizeOf4,
    v4 := Try.zeroValue4,
    t22 := Try.underlying22,
    a22 := Try.isAgg22,
    z22 := Try.sizeOf22,
    v22 := Try.zeroValue22 }
/-- the numbers that the library's text has here -/
def sfRen : Go.Shelf.Ren where
  f := fun x => match x with
    | 6 => 24
    | 15 => 33
    | 14 => 32
    | 28 => 44
    | 29 => 45
    | 20 => 36
    | 21 => 37
    | 22 => 38
    | 23 => 39
    | 24 => 40
    | 25 => 41
    | 26 => 42
    | 27 => 43
    | 46 => 48
    | 47 => 49
    | 48 => 50
    | 49 => 51
    | 50 => 52
    | 57 => 53
    | n => n
  t := fun x => match x with
    | 22 => 22
    | 24 => 27
    | 25 => 49
    | 3 => 3
    | 39 => 56
    | 0 => 0
    | 53 => 68
    | 55 => 70
    | 4 => 4
    | 46 => 62
    | 45 => 61
    | 50 => 42
    | 5 => 5
    | 9 => 9
    | 66 => 72
    | 70 => 76
    | 76 => 78
    | 77 => 79
    | n => n
  g := fun x => x
theorem sfLays : Go.Proofs.SlLaysF0.n6 Try.prog sfRen :=
  { mixed := by kernel_rfl,
    f6 := ⟨_, by kernel_rfl, Eq.trans Try.func24 (congrArg some rfl)⟩,
    f14 := ⟨_, by kernel_rfl, Eq.trans Try.func32 (congrArg some rfl)⟩,
    f15 := Eq.trans Try.func33 (congrArg some rfl),
    f20 := ⟨_, by kernel_rfl, Eq.trans Try.func36 (congrArg some rfl)⟩,
    f21 := ⟨_, by kernel_rfl, Eq.trans Try.func37 (congrArg some rfl)⟩,
    f22 := ⟨_, by kernel_rfl, Eq.trans Try.func38 (congrArg some rfl)⟩,
    f23 := ⟨_, by kernel_rfl, Eq.trans Try.func39 (congrArg some rfl)⟩,
    f24 := ⟨_, by kernel_rfl, Eq.trans Try.func40 (congrArg some rfl)⟩,
    f25 := ⟨_, by kernel_rfl, Eq.trans Try.func41 (congrArg some rfl)⟩,
    f26 := ⟨_, by kernel_rfl, Eq.trans Try.func42 (congrArg some rfl)⟩,
    f27 := ⟨_, by kernel_rfl, Eq.trans Try.func43 (congrArg some rfl)⟩,
    f28 := Eq.trans Try.func44 (congrArg some rfl),
    f29 := Eq.trans Try.func45 (congrArg some rfl),
    f46 := ⟨_, by kernel_rfl, Eq.trans Try.func48 (congrArg some rfl)⟩,
    f47 := Eq.trans Try.func49 (congrArg some rfl),
    f48 := Eq.trans Try.func50 (congrArg some rfl),
    f49 := ⟨_, by kernel_rfl, Eq.trans Try.func51 (congrArg some rfl)⟩,
    f50 := ⟨_, by kernel_rfl, Eq.trans Try.func52 (congrArg some rfl)⟩,
    f57 := ⟨_, by kernel_rfl, Eq.trans Try.func53 (congrArg some rfl)⟩,
    t0 := Try.underlying0,
    a0 := Try.isAgg0,
    z0 := Try.sizeOf0,
    v0 := Try.zeroValue0,
    t3 := Try.underlying3,
    a3 := Try.isAgg3,
    z3 := Try.sizeOf3,
    v3 := Try.zeroValue3,
    t4 := Try.underlying4,
    a4 := Try.isAgg4,
    z4 := Try.sizeOf4,
    v4 := Try.zeroValue4,
    t5 := Try.underlying5,
    a5 := Try.isAgg5,
    z5 := Try.sizeOf5,
    v5 := Try.zeroValue5,
    t9 := Try.underlying9,
    a9 := Try.isAgg9,
    z9 := Try.sizeOf9,
    v9 := Try.zeroValue9,
    t22 := Try.underlying22,
    a22 := Try.isAgg22,
    z22 := Try.sizeOf22,
    v22 := Try.zeroValue22,
    t25 := Try.underlying49,
    a25 := Try.isAgg49,
    z25 := Try.sizeOf49,
    v25 := Try.zeroValue49,
    t39 := Try.underlying56,
    a39 := Try.isAgg56,
    z39 := Try.sizeOf56,
    v39 := Try.zeroValue56,
    t45 := Try.underlying61,
    a45 := Try.isAgg61,
    z45 := Try.sizeOf61,
    v45 := Try.zeroValue61,
    t46 := Try.underlying62,
    a46 := Try.isAgg62,
    z46 := Try.sizeOf62,
    v46 := Try.zeroValue62,
    t50 := Try.underlying42,
    a50 := Try.isAgg42,
    z50 := Try.sizeOf42,
    v50 := Try.zeroValue42,
    t53 := Try.underlying68,
    a53 := Try.isAgg68,
    z53 := Try.sizeOf68,
    v53 := Try.zeroValue68,
    t55 := Try.underlying70,
    a55 := Try.isAgg70,
    z55 := Try.sizeOf70,
    v55 := Try.zeroValue70,
    t66 := Try.underlying72,
    a66 := Try.isAgg72,
    z66 := Try.sizeOf72,
    v66 := Try.zeroValue72,
    t70 := Try.underlying76,
    a70 := Try.isAgg76,
    z70 := Try.sizeOf76,
    v70 := Try.zeroValue76,
    t76 := Try.underlying78,
    a76 := Try.isAgg78,
    z76 := Try.sizeOf78,
    v76 := Try.zeroValue78,
    t77 := Try.underlying79,
    a77 := Try.isAgg79,
    z77 := Try.sizeOf79,
    v77 := Try.zeroValue79 }
/-- the numbers that the library's text has here -/
def ccRen : Go.Shelf.Ren where
  f := fun x => match x with
    | 122 => 27
    | 215 => 34
    | n => n
  t := fun x => match x with
    | 3 => 3
    | 4 => 4
    | n => n
  g := fun x => x
theorem ccLays : Go.Proofs.Lays.n122 Try.prog ccRen :=
  { mixed := by kernel_rfl,
    f122 := Eq.trans Try.func27 (congrArg some rfl),
    f215 := Eq.trans Try.func34 (congrArg some rfl),
    t3 := Try.underlying3,
    a3 := Try.isAgg3,
    z3 := Try.sizeOf3,
    v3 := Try.zeroValue3,
    t4 := Try.underlying4,
    a4 := Try.isAgg4,
    z4 := Try.sizeOf4,
    v4 := Try.zeroValue4 }
/-- the numbers that the library's text has here -/
def bsRen : Go.Shelf.Ren where
  f := fun x => match x with
    | 25 => 35
    | 31 => 46
    | 32 => 47
    | 37 => 34
    | n => n
  t := fun x => match x with
    | 22 => 24
    | 3 => 3
    | 4 => 4
    | 40 => 56
    | 0 => 0
    | n => n
  g := fun x => x
theorem bsLays : Go.Proofs.Lays2.n25 Try.prog bsRen :=
  { mixed := by kernel_rfl,
    f25 := Eq.trans Try.func35 (congrArg some rfl),
    f31 := Eq.trans Try.func46 (congrArg some rfl),
    f32 := Eq.trans Try.func47 (congrArg some rfl),
    f37 := Eq.trans Try.func34 (congrArg some rfl),
    t0 := Try.underlying0,
    a0 := Try.isAgg0,
    z0 := Try.sizeOf0,
    v0 := Try.zeroValue0,
    t3 := Try.underlying3,
    a3 := Try.isAgg3,
    z3 := Try.sizeOf3,
    v3 := Try.zeroValue3,
    t4 := Try.underlying4,
    a4 := Try.isAgg4,
    z4 := Try.sizeOf4,
    v4 := Try.zeroValue4,
    t22 := Try.underlying24,
    a22 := Try.isAgg24,
    z22 := Try.sizeOf24,
    v22 := Try.zeroValue24,
    t40 := Try.underlying56,
    a40 := Try.isAgg56,
    z40 := Try.sizeOf56,
    v40 := Try.zeroValue56 }
/-- the numbers that the library's text has here -/
def mxRen : Go.Shelf.Ren where
  f := fun x => match x with
    | 113 => 22
    | n => n
  t := fun x => match x with
    | 28 => 24
    | 3 => 3
    | 4 => 4
    | 9 => 9
    | 20 => 20
    | 0 => 0
    | n => n
  g := fun x => x
theorem mxLays : Go.Proofs.Lays.n113 Try.prog mxRen :=
  { mixed := by kernel_rfl,
    f113 := Eq.trans Try.func22 (congrArg some rfl),
    t0 := Try.underlying0,
    a0 := Try.isAgg0,
    z0 := Try.sizeOf0,
    v0 := Try.zeroValue0,
    t3 := Try.underlying3,
    a3 := Try.isAgg3,
    z3 := Try.sizeOf3,
    v3 := Try.zeroValue3,
    t4 := Try.underlying4,
    a4 := Try.isAgg4,
    z4 := Try.sizeOf4,
    v4 := Try.zeroValue4,
    t9 := Try.underlying9,
    a9 := Try.isAgg9,
    z9 := Try.sizeOf9,
    v9 := Try.zeroValue9,
    t20 := Try.underlying20,
    a20 := Try.isAgg20,
    z20 := Try.sizeOf20,
    v20 := Try.zeroValue20,
    t28 := Try.underlying24,
    a28 := Try.isAgg24,
    z28 := Try.sizeOf24,
    v28 := Try.zeroValue24 }

/-- an edge's two cells -/
def encE (x : Eg) : List Value := [.int .i64 x.1, .int .i64 x.2]
/-- two edges are one -/
def eeq (a b c d : Int) : Bool := a == c && b == d
theorem eeq_iff (a b c d : Int) : eeq a b c d = true ↔ (a, b) = (c, d) := by unfold eeq; simp
@[go_sem] theorem eqE (a b c d : Int) (w : World) : (Op.equalIn 10000 27 (.agg #[.int .i64 a, .int .i64 b]) (.agg #[.int .i64 c, .int .i64 d])).run Try.prog w = .ok (eeq a b c d) w := by
  have u3 := Try.underlying3
  have hS : Try.prog.underlying 27 = some (.struct (Try.prog.fieldsOf 27)) := by kernel_rfl
  have hp : Try.prog.stoodInHeld 27 = false := by kernel_rfl
  rw [show (10000 : Nat) = 9999 + 1 from rfl, run_equalIn_agg w 9999 27 _ _ hS hp]
  simp only [Program.fieldsOf, Try.underlying27]
  go_simp
  unfold eeq
  by_cases h1 : a = c <;> by_cases h2 : b = d <;> simp [h1, h2]

theorem compare_any (x y : Int) (w : World) : Calls Try.prog 27 #[.int .i64 x, .int .i64 y] w fun e w' => e = .returned (.int .i64 (Lib.compareInt x y)) ∧ w' = w :=
  Any.cmp_Compare_int ccLays x y w

/-- the first that is not 0 -/
def fnz : List Int → Int
  | [] => 0
  | x :: r => if x = 0 then fnz r else x
theorem fnz_skip : ∀ (l : List Int) (k : Nat), (∀ j y, j < k → l[j]? = some y → y = 0) → fnz l = fnz (l.drop k)
  | [], k, _ => by simp
  | x :: r, 0, _ => rfl
  | x :: r, k + 1, h => by
    have hx := h 0 x (by omega) rfl
    rw [List.drop_succ_cons, ← fnz_skip r k (fun j y hj hy => h (j + 1) y (by omega) hy)]
    simp [fnz, hx]
set_option maxHeartbeats 1000000 in
theorem or_any (a : Option Addr) (b off cap : Nat) (l : List Int) (hm : l.length ≤ maxLen) (ha : l.length = 0 ∨ a = some ⟨b, off, none⟩) (w : World) (hA : IsN w b off l) :
    Calls Try.prog 26 #[.slice a l.length cap] w fun e w' => e = .returned (.int .i64 (fnz l)) ∧ w' = w := by
  have HF := Lib.hid (fnz_skip l)
  obtain ⟨T, hT⟩ : ∃ T, fnz l = T := ⟨_, rfl⟩
  rw [hT] at HF ⊢
  have HA := Lib.hid ha
  have HB := Lib.hid hA
  have hm9 : (l.length : Int) ≤ 9223372036854775807 := by unfold maxLen at hm; omega
  obtain ⟨m, em⟩ : ∃ m, l.length = m := ⟨_, rfl⟩
  have EM := Lib.hid em
  rw [em] at hm9 ⊢
  clear hT ha hA hm em
  go_enter Try.func26, Try.ntmps26
  go_wp2_with fail
  go_loopw [8] (fun i wr => ∃ k : Nat, k ≤ m ∧ i = .int .i64 k ∧ Hid (∀ j y, j < k → l[j]? = some y → y = 0) ∧ w = wr) (fun i _ => m - (intOf i).toNat)
  case atStart => exact ⟨0, Nat.zero_le _, rfl, fun j y hj => absurd hj (by omega), rfl⟩
  case round =>
    obtain ⟨k, hk, rfl, HK, rfl⟩ := hrel
    by_cases c : k < m
    · have c1 : (k : Int) < (m : Int) := by omega
      obtain rfl : a = some ⟨b, off, none⟩ := by rcases HA.out with h | h; (have := EM.out; omega); exact h
      obtain ⟨y, hx⟩ : ∃ y, l[k]? = some y := ⟨_, List.getElem?_eq_getElem (by rw [EM.out]; exact c)⟩
      have a0 := HB.out.c k y hx
      have HX := Lib.hid hx
      clear hx
      by_cases q : y = 0
      · subst q
        have HK2 : Hid (∀ j z, j < k + 1 → l[j]? = some z → z = 0) := fun j z hj hz => by
          by_cases e : j = k
          · rw [e, HX.out] at hz; injection hz with hz; exact hz.symm
          · exact HK.out j z (by omega) hz
        go_wp2
        go_roundw
        case rel => exact ⟨k + 1, by omega, by go_num, HK2, by trivial⟩
        case measure => simp [intOf]; omega
      · have q1 : (y != 0) = true := by simpa using q
        have hTy : T = y := by
          rw [HF.out k (fun j z hj hz => HK.out j z hj hz), List.drop_eq_getElem_cons (by rw [EM.out]; exact c)]
          have e : l[k]'(by rw [EM.out]; exact c) = y := by
            have := HX.out
            rw [List.getElem?_eq_getElem (by rw [EM.out]; exact c)] at this
            injection this
          rw [e]
          simp [fnz, q]
        subst hTy
        clear q
        go_wp2
        go_ret
        exact ⟨rfl, rfl⟩
    · obtain rfl : k = m := by omega
      have hT0 : T = 0 := by
        rw [HF.out k (fun j z hj hz => HK.out j z hj hz), List.drop_eq_nil_of_le (by rw [EM.out]; exact Nat.le_refl _)]
        rfl
      subst hT0
      go_wp2
      go_ret
      exact ⟨rfl, rfl⟩

/-- the order of edges: by the first number, then by the second -/
def cfE (x y : Eg) : Int := fnz [Lib.compareInt x.1 y.1, Lib.compareInt x.2 y.2]
def ltE (x y : Eg) : Prop := x.1 < y.1 ∨ (x.1 = y.1 ∧ x.2 < y.2)
theorem cfE_neg (x y : Eg) : cfE x y < 0 ↔ ltE x y := by
  unfold cfE ltE fnz fnz fnz Lib.compareInt
  by_cases h1 : x.1 < y.1
  · simp [h1]
  · by_cases h2 : y.1 < x.1
    · simp [h1, h2]; omega
    · have e : x.1 = y.1 := by omega
      by_cases h3 : x.2 < y.2
      · simp [e, h3]
      · by_cases h4 : y.2 < x.2 <;> simp [e, h3, h4]
set_option maxHeartbeats 2000000 in
theorem order_any (x y : Eg) (W : World) : Calls Try.prog 25 #[.agg #[.int .i64 x.1, .int .i64 x.2], .agg #[.int .i64 y.1, .int .i64 y.2]] W fun e w' => e = .returned (.int .i64 (cfE x y)) ∧ ∃ q os', w' = Go.Sort.grow (W.drewN q) os' := by
  obtain ⟨p, hp⟩ : ∃ p, Lib.compareInt x.1 y.1 = p := ⟨_, rfl⟩
  obtain ⟨r, hr⟩ : ∃ r, Lib.compareInt x.2 y.2 = r := ⟨_, rfl⟩
  have hc1 := fun W' => compare_any x.1 y.1 W'
  have hc2 := fun W' => compare_any x.2 y.2 W'
  have HOR := Lib.hid (fun g (W' : World) (hA : IsN W' g 0 [p, r]) => or_any (some ⟨g, 0, none⟩) g 0 2 [p, r] (by simp [maxLen]) (.inr rfl) W' hA)
  have hcf : cfE x y = fnz [p, r] := by unfold cfE; rw [hp, hr]
  rw [hcf]
  rw [hp] at hc1
  rw [hr] at hc2
  generalize fnz [p, r] = R at HOR ⊢
  generalize x.1 = x1 at *
  generalize x.2 = x2 at *
  generalize y.1 = y1 at *
  generalize y.2 = y2 at *
  have H1 := Lib.hid hc1
  have H2 := Lib.hid hc2
  clear hc1 hc2 hcf hp hr
  obtain ⟨W2, hW2⟩ : ∃ W2, (W.alloc (.cells #[.int .i64 x1, .int .i64 x2] 27)).alloc (.cells #[.int .i64 y1, .int .i64 y2] 27) = W2 := ⟨_, rfl⟩
  have hb1 : W2.heap[W.heap.size]? = some (.cells #[.int .i64 x1, .int .i64 x2] 27 (0, 0)) := by
    rw [← hW2, heap_alloc_old _ _ (by simp)]; exact heap_alloc_new W _
  have hb2 : W2.heap[W.heap.size + 1]? = some (.cells #[.int .i64 y1, .int .i64 y2] 27 (0, 0)) := by
    rw [← hW2]
    have := heap_alloc_new (W.alloc (.cells #[.int .i64 x1, .int .i64 x2] 27)) (.cells #[.int .i64 y1, .int .i64 y2] 27)
    simpa using this
  have c0 : W2.cell? ⟨W.heap.size, 0, none⟩ = some (.int .i64 x1) := by rw [cell_of_block hb1]; rfl
  have c1 : W2.cell? ⟨W.heap.size, 1, none⟩ = some (.int .i64 x2) := by rw [cell_of_block hb1]; rfl
  have d0 : W2.cell? ⟨W.heap.size + 1, 0, none⟩ = some (.int .i64 y1) := by rw [cell_of_block hb2]; rfl
  have d1 : W2.cell? ⟨W.heap.size + 1, 1, none⟩ = some (.int .i64 y2) := by rw [cell_of_block hb2]; rfl
  have HG := Lib.hid (show W2 = Go.Sort.grow W #[.cells #[.int .i64 x1, .int .i64 x2] 27, .cells #[.int .i64 y1, .int .i64 y2] 27] by
    rw [← hW2, Go.Sort.alloc_eq_grow, Go.Sort.alloc_eq_grow, Go.Sort.grow_grow]; rfl)
  go_enter Try.func25, Try.ntmps25
  go_upto_region 1 with fail
  try rw [hW2]
  clear hW2 hb1 hb2
  refine wp_region_still_tail 10 (by kernel_rfl) (by kernel_rfl) ?_
  simp only [List.take_succ_cons, List.take_zero, List.drop_succ_cons, List.drop_zero]
  still_step
  still_step
  still_step
  still_step
  still_call (H1.out _)
  still_step
  still_step
  still_step
  still_step
  still_call (H2.out _)
  refine wpStill_nil ?_
  change wpList _ _ _ _ _ W2.drew
  have HOR2 := Lib.hid (HOR.out W2.drew.heap.size (W2.drew.alloc (.cells #[.int .i64 p, .int .i64 r] 3)) ⟨fun _ => by simp, fun i x hx => by
    rw [cell_of_block (heap_alloc_new W2.drew _), Nat.zero_add]
    rw [List.getElem?_toArray.symm] at hx
    match i, hx with
    | 0, hx => simp at hx; simp [hx]
    | 1, hx => simp at hx; simp [hx]
    | i + 2, hx => simp at hx⟩)
  clear HOR c0 c1 d0 d1
  go_wp2_with fail
  refine HOR2.out.mono ?_
  rintro e w' ⟨rfl, rfl⟩
  go_wp2_with fail
  go_ret
  exact ⟨rfl, 1, _, by rw [HG.out, Go.Sort.alloc_eq_grow]; exact Go.Sort.grow_grow (W.drewN 1) _ _⟩

end Go.Proofs.Ytlhipnklljjahaa
