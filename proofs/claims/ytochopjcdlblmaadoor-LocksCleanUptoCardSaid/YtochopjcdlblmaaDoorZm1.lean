/-
  Texts of mine put together, in build order.
  Conditions: as each declaration says.
-/
import Derived.Deep.RegionHeld3
import Derived.Test.YtochopjcdlblmaaDoorZl8
namespace Go.Proofs.YtochopjcdlblmaaDoor
open Go.RowKit Go.Joins Go.ChangeShapes Go.WideShapes
set_option linter.unusedVariables false
set_option linter.unusedSimpArgs false

theorem seven {n : Nat} (h : n < 7) : n = 0 ∨ n = 1 ∨ n = 2 ∨ n = 3 ∨ n = 4 ∨ n = 5 ∨ n = 6 := by omega
theorem kn_no {a : Int} (h : kn a = false) : a < 0 ∨ 6 < a := by
  simp only [kn, Bool.and_eq_false_iff, decide_eq_false_iff_not] at h
  omega
theorem join_eq : ∀ a, a < 7 → ∀ b, b < 7 → (decide (jnI (a : Nat) (b : Nat) = (a : Nat)) = cvI (a : Nat) (b : Nat) ∧ kn (jnI (a : Nat) (b : Nat)) = true) := by decide +kernel
set_option maxHeartbeats 4000000 in
theorem rtog_no (a b : Int) (w : World) (h : kn a = false ∨ kn b = false) : Calls Tryd.prog 33 #[.int .i64 a, .int .i64 b] w fun e w' => e = .returned (.bool false) ∧ Below w.heap.size w w' := by
  by_cases c1 : a < 0
  · go_enter Tryd.func33, Tryd.ntmps33
    go_wp2
    go_ret
    exact ⟨rfl, (Below.refl _ _).alloc (Nat.le_refl _) _⟩
  · by_cases c2 : 6 < a
    · go_enter Tryd.func33, Tryd.ntmps33
      go_wp2
      go_ret
      exact ⟨rfl, (Below.refl _ _).alloc (Nat.le_refl _) _⟩
    · by_cases c3 : b < 0
      · go_enter Tryd.func33, Tryd.ntmps33
        go_wp2
        go_ret
        exact ⟨rfl, (Below.refl _ _).alloc (Nat.le_refl _) _⟩
      · have c4 : 6 < b := by
          rcases h with h | h
          · have := kn_no h; omega
          · have := kn_no h; omega
        go_enter Tryd.func33, Tryd.ntmps33
        go_wp2
        go_ret
        exact ⟨rfl, (Below.refl _ _).alloc (Nat.le_refl _) _⟩
set_option maxHeartbeats 40000000 in
theorem rtog_yes (a b : Nat) (w : World) (ha : a < 7) (hb : b < 7) : Calls Tryd.prog 33 #[.int .i64 a, .int .i64 b] w fun e w' => e = .returned (.bool (tgI a b)) ∧ Below w.heap.size w w' := by
  rcases seven ha with rfl | rfl | rfl | rfl | rfl | rfl | rfl <;> rcases seven hb with rfl | rfl | rfl | rfl | rfl | rfl | rfl
  all_goals
    go_enter Tryd.func33, Tryd.ntmps33
    go_wp2
    go_ret
    exact ⟨rfl, (Below.refl _ _).alloc (Nat.le_refl _) _⟩

end Go.Proofs.YtochopjcdlblmaaDoor

namespace Go.Proofs.YtochopjcdlblmaaDoor
open Go.RowKit Go.Joins Go.ChangeShapes Go.WideShapes
set_option linter.unusedVariables false
set_option linter.unusedSimpArgs false

set_option maxHeartbeats 4000000 in
theorem rjoin_no (a b : Int) (w : World) (h : kn a = false ∨ kn b = false) : Calls Tryd.prog 40 #[.int .i64 a, .int .i64 b] w fun e w' => e = .returned (.int .i64 0) ∧ Below w.heap.size w w' := by
  by_cases c1 : a < 0
  · go_enter Tryd.func40, Tryd.ntmps40
    go_wp2
    go_ret
    exact ⟨rfl, (Below.refl _ _).alloc (Nat.le_refl _) _⟩
  · by_cases c2 : 6 < a
    · go_enter Tryd.func40, Tryd.ntmps40
      go_wp2
      go_ret
      exact ⟨rfl, (Below.refl _ _).alloc (Nat.le_refl _) _⟩
    · by_cases c3 : b < 0
      · go_enter Tryd.func40, Tryd.ntmps40
        go_wp2
        go_ret
        exact ⟨rfl, (Below.refl _ _).alloc (Nat.le_refl _) _⟩
      · have c4 : 6 < b := by
          rcases h with h | h
          · have := kn_no h; omega
          · have := kn_no h; omega
        go_enter Tryd.func40, Tryd.ntmps40
        go_wp2
        go_ret
        exact ⟨rfl, (Below.refl _ _).alloc (Nat.le_refl _) _⟩
set_option maxHeartbeats 40000000 in
theorem rjoin_yes (a b : Nat) (w : World) (ha : a < 7) (hb : b < 7) : Calls Tryd.prog 40 #[.int .i64 a, .int .i64 b] w fun e w' => e = .returned (.int .i64 (jnI a b)) ∧ Below w.heap.size w w' := by
  rcases seven ha with rfl | rfl | rfl | rfl | rfl | rfl | rfl <;> rcases seven hb with rfl | rfl | rfl | rfl | rfl | rfl | rfl
  all_goals
    go_enter Tryd.func40, Tryd.ntmps40
    go_wp2
    go_ret
    exact ⟨rfl, (Below.refl _ _).alloc (Nat.le_refl _) _⟩

theorem cv_le : ∀ m, m < 7 → ∀ b : Int, kn b = false → cvI m b = false := fun m _ b h => by unfold cvI; rw [h]; simp
theorem jn_no {a b : Int} (h : kn a = false ∨ kn b = false) : jnI a b = 0 := by
  have hc : ∀ m : Int, (cvI m a && cvI m b) = false := by
    intro m
    rcases h with h | h
    · simp [cvI, h]
    · simp [cvI, h]
  have hn : ∀ n m, jnN a b m n = 0 := by
    intro n
    induction n with
    | zero => intro m; rfl
    | succ n ih =>
      intro m
      unfold jnN
      rw [hc m]
      exact ih (m + 1)
  exact hn 7 0
theorem rjoin_any (a b : Int) (w : World) : Calls Tryd.prog 40 #[.int .i64 a, .int .i64 b] w fun e w' => e = .returned (.int .i64 (jnI a b)) ∧ Below w.heap.size w w' := by
  by_cases h : kn a = false ∨ kn b = false
  · rw [jn_no h]
    exact rjoin_no a b w h
  · obtain ⟨na, rfl, la⟩ := kn_cases (a := a) (by cases e : kn a with | true => rfl | false => exact absurd (.inl e) h)
    obtain ⟨nb, rfl, lb⟩ := kn_cases (a := b) (by cases e : kn b with | true => rfl | false => exact absurd (.inr e) h)
    exact rjoin_yes na nb w la lb
theorem rtog_any (a b : Int) (w : World) : Calls Tryd.prog 33 #[.int .i64 a, .int .i64 b] w fun e w' => e = .returned (.bool (tgI a b)) ∧ Below w.heap.size w w' := by
  by_cases h : kn a = false ∨ kn b = false
  · have e : tgI a b = false := by
      unfold tgI
      rcases h with h | h
      · simp [h]
      · simp [h]
    rw [e]
    exact rtog_no a b w h
  · obtain ⟨na, rfl, la⟩ := kn_cases (a := a) (by cases e : kn a with | true => rfl | false => exact absurd (.inl e) h)
    obtain ⟨nb, rfl, lb⟩ := kn_cases (a := b) (by cases e : kn b with | true => rfl | false => exact absurd (.inr e) h)
    exact rtog_yes na nb w la lb
set_option maxHeartbeats 1000000 in
theorem rcov_any (a b : Int) (w : World) : Calls Tryd.prog 15 #[.int .i64 a, .int .i64 b] w fun e w' => e = .returned (.bool (cvI a b)) ∧ Below w.heap.size w w' := by
  have HJ := Lib.hid (rjoin_any a b w)
  obtain ⟨r, hr⟩ : ∃ r, cvI a b = r := ⟨_, rfl⟩
  rw [hr]
  by_cases h : kn a = false ∨ kn b = false
  · obtain rfl : r = false := by
      rw [← hr]
      unfold cvI
      rcases h with h | h
      · simp [h]
      · simp [h]
    clear hr
    by_cases c1 : a < 0
    · go_enter Tryd.func15, Tryd.ntmps15
      go_wp2
      go_ret
      exact ⟨rfl, Below.refl _ _⟩
    · by_cases c2 : 6 < a
      · go_enter Tryd.func15, Tryd.ntmps15
        go_wp2
        go_ret
        exact ⟨rfl, Below.refl _ _⟩
      · by_cases c3 : b < 0
        · go_enter Tryd.func15, Tryd.ntmps15
          go_wp2
          go_ret
          exact ⟨rfl, Below.refl _ _⟩
        · have c4 : 6 < b := by
            rcases h with h | h
            · have := kn_no h; omega
            · have := kn_no h; omega
          go_enter Tryd.func15, Tryd.ntmps15
          go_wp2
          go_ret
          exact ⟨rfl, Below.refl _ _⟩
  · obtain ⟨na, rfl, la⟩ := kn_cases (a := a) (by cases e : kn a with | true => rfl | false => exact absurd (.inl e) h)
    obtain ⟨nb, rfl, lb⟩ := kn_cases (a := b) (by cases e : kn b with | true => rfl | false => exact absurd (.inr e) h)
    have hj := (join_eq na la nb lb).1
    rw [hr] at hj
    have c1 : ¬ (na : Int) < 0 := by omega
    have c2 : ¬ (6 : Int) < na := by omega
    have c3 : ¬ (nb : Int) < 0 := by omega
    have c4 : ¬ (6 : Int) < nb := by omega
    generalize jnI na nb = z at *
    have t1 : (z == (na : Int)) = r := by rw [← hj]; rfl
    clear hr hj h
    go_enter Tryd.func15, Tryd.ntmps15
    go_wp2_with fail
    refine HJ.out.mono ?_
    rintro e w' ⟨rfl, b1⟩
    have HB := Lib.hid b1
    clear b1
    go_wp2
    go_ret
    exact ⟨rfl, HB.out⟩

end Go.Proofs.YtochopjcdlblmaaDoor

namespace Go.Proofs.YtochopjcdlblmaaDoor
set_option maxRecDepth 100000
open Go.RowKit Go.Joins Go.ChangeShapes Go.WideShapes
open Go.MapKept
set_option linter.unusedVariables false
set_option linter.unusedSimpArgs false

/-- locks of one thing go together, and are of two -/
def CleanR (l : List Lv) : Prop := ∀ (i k : Nat) (x y : Lv), k < i → l[i]? = some x → l[k]? = some y → x.res = y.res → x.txn ≠ y.txn ∧ tgI x.mode y.mode = true
theorem clean_of {T : TbL RS} (h : InvL ordT mds T) : CleanR T.hv := by
  intro i k x y hki hx hy hr
  obtain ⟨h1, h2⟩ := List.getElem?_eq_some_iff.1 hx
  obtain ⟨h3, h4⟩ := List.getElem?_eq_some_iff.1 hy
  have hp := List.pairwise_iff_getElem.1 h.srt k i h3 h1 hki
  rw [h2, h4] at hp
  have hne : x.txn ≠ y.txn := fun e => ahd_key ordT hp ⟨e.symm, hr.symm⟩
  exact ⟨hne, h.cl x (List.mem_of_getElem? hx) y (List.mem_of_getElem? hy) hr hne⟩
theorem clb {w w0 w1 : World} {Q : Prop} (h : Below w.heap.size w w0 ∧ Q) (hb : Below w0.heap.size w0 w1) : Below w.heap.size w w1 := h.1.trans (hb.mono h.1.size)
set_option maxHeartbeats 8000000 in
theorem rclean_any (w : World) (B : Nat) (v : Value) (l : List Lv) (h : OwL w B v l) (hc : CleanR l) : Calls Tryd.prog 12 #[v] w fun e w' => e = .returned (.bool true) ∧ Below w.heap.size w w' := by
  obtain ⟨n, hn⟩ : ∃ n, l.length = n := ⟨_, rfl⟩
  obtain ⟨a, cp, hve, hc1, hc2⟩ := h.sl
  rw [hn] at hve hc1
  subst hve
  have hn9 : n ≤ maxLen := Nat.le_trans hc1 hc2
  unfold maxLen at hn9
  have HO := Lib.hid h
  have HC := Lib.hid hc
  have HN := Lib.hid hn
  clear h hc hn hc1 hc2
  go_enter Tryd.func12, Tryd.ntmps12
  go_wp2_with fail
  go_loopw [3] (fun i wx => ∃ j : Nat, j ≤ n ∧ i = .int .i64 j ∧ Hid (Below w.heap.size w wx)) (fun i _ => n - (intOf i).toNat)
  case atStart => exact ⟨0, Nat.zero_le _, rfl, Lib.hid (Below.refl _ _)⟩
  case round =>
    obtain ⟨j, hj, rfl, HB⟩ := hrel
    by_cases cj : j < n
    · have cj1 : (j : Int) < (n : Int) := by omega
      obtain ⟨x, hx⟩ : ∃ x, l[j]? = some x := ⟨_, List.getElem?_eq_getElem (by rw [HN.out]; exact cj)⟩
      have HX := Lib.hid hx
      have hjw : IntKind.i64.wrap ((j : Int) + 1) = (j : Int) + 1 := by rw [IntWalk.i64_in _ (by omega)]
      clear hx
      go_wp2_with fail
      go_loopw [4] (fun i wx => ∃ k : Nat, k ≤ j ∧ i = .int .i64 k ∧ Hid (Below w.heap.size w wx)) (fun i _ => j - (intOf i).toNat)
      case atStart => exact ⟨0, Nat.zero_le _, rfl, HB⟩
      case round =>
        clear HB
        obtain ⟨k, hk, rfl, HB⟩ := hrel
        by_cases ck : k < j
        · have ck1 : (k : Int) < (j : Int) := by omega
          have ck2 : (k : Int) < (n : Int) := by omega
          obtain ⟨y, hy⟩ : ∃ y, l[k]? = some y := ⟨_, List.getElem?_eq_getElem (by rw [HN.out]; omega)⟩
          have hO := (Frm.of_below (F := fun _ => False) HB.out).owL HO.out (fun _ _ e => e)
          obtain ⟨g, cap, e1, -, -, x0, x1, x2, -⟩ := OwL.at hO HX.out
          obtain ⟨g', cap', e2, -, -, y0, y1, y2, -⟩ := OwL.at hO hy
          injection e1 with e1 f1 f2
          subst e1
          injection e2 with e2 f3 f4
          injection e2 with e2
          injection e2 with e2 f5 f6
          subst e2
          clear f1 f2 f3 f4
          have HR := Lib.hid (HC.out j k x y ck HX.out hy)
          have hkw : IntKind.i64.wrap ((k : Int) + 1) = (k : Int) + 1 := by rw [IntWalk.i64_in _ (by omega)]
          have HBD := Lib.hid (fun (q : Nat) => show Below w.heap.size w (wr.drewN q) from HB.out.trans ⟨rfl, rfl, rfl, Nat.le_refl _, fun _ _ => rfl⟩)
          have HK := Lib.hid (fun (w0 : World) (hb : Below w.heap.size w w0) => show Below w.heap.size w w0 ∧ w0.cell? ⟨g, j * 3, none⟩ = some (.int .i64 x.txn) ∧ w0.cell? ⟨g, j * 3 + 1, none⟩ = some (.string ⟨x.res.toArray⟩) ∧ w0.cell? ⟨g, j * 3 + 2, none⟩ = some (.int .i64 x.mode) ∧ w0.cell? ⟨g, k * 3, none⟩ = some (.int .i64 y.txn) ∧ w0.cell? ⟨g, k * 3 + 1, none⟩ = some (.string ⟨y.res.toArray⟩) ∧ w0.cell? ⟨g, k * 3 + 2, none⟩ = some (.int .i64 y.mode) by
            have hO := (Frm.of_below (F := fun _ => False) hb).owL HO.out (fun _ _ e => e)
            obtain ⟨g1, _, e1, -, -, x0, x1, x2, -⟩ := OwL.at hO HX.out
            obtain ⟨g2, _, e2, -, -, y0, y1, y2, -⟩ := OwL.at hO hy
            injection e1 with e1 _ _
            injection e1 with e1
            injection e1 with e1 _ _
            injection e2 with e2 _ _
            injection e2 with e2
            injection e2 with e2 _ _
            subst e1 e2
            exact ⟨hb, x0, x1, x2, y0, y1, y2⟩)
          clear hO
          by_cases cr : x.res = y.res
          · have hs : (⟨x.res.toArray⟩ : ByteArray) = ⟨y.res.toArray⟩ := by rw [cr]
            obtain ⟨hne, htg⟩ := HR.out cr
            have hT := rtog_any x.mode y.mode
            rw [htg] at hT
            have HT := Lib.hid hT
            have hnd : decide (x.txn = y.txn) = false := by simp [hne]
            clear hT htg
            have hbe : (x.res == y.res) = true := by simp [cr]
            have hte : (x.txn == y.txn) = false := by simp [hne]
            clear HR hs cr
            go_upto_region 7 with fail
            go_region_held3 (fun w0 => Below w.heap.size w w0 ∧ w0.cell? ⟨g, j * 3, none⟩ = some (.int .i64 x.txn) ∧ w0.cell? ⟨g, j * 3 + 1, none⟩ = some (.string ⟨x.res.toArray⟩) ∧ w0.cell? ⟨g, j * 3 + 2, none⟩ = some (.int .i64 x.mode) ∧ w0.cell? ⟨g, k * 3, none⟩ = some (.int .i64 y.txn) ∧ w0.cell? ⟨g, k * 3 + 1, none⟩ = some (.string ⟨y.res.toArray⟩) ∧ w0.cell? ⟨g, k * 3 + 2, none⟩ = some (.int .i64 y.mode))
              (first | exact HK.out _ HB.out | exact HK.out _ HB.out.drew | exact HK.out _ hbx)
              (first | (go_at_call 33; refine (HT.out _).mono ?_; rintro e w1 ⟨rfl, hbx0⟩; have hbx : Below w.heap.size w w1 := clb (by assumption) hbx0))
            all_goals
              go_wp2_with fail
              go_roundw
              case rel => exact ⟨k + 1, by omega, by first | rfl | go_num, Lib.hid hbx⟩
              case measure => simp [intOf]; omega
          · have hs : ¬ (⟨x.res.toArray⟩ : ByteArray) = ⟨y.res.toArray⟩ := fun e => cr (by
              have h1 := congrArg ByteArray.data e
              have h2 := congrArg Array.toList h1
              simpa using h2)
            have hsd : decide ((⟨x.res.toArray⟩ : ByteArray) = ⟨y.res.toArray⟩) = false := by simp [hs]
            go_upto_region 7 with fail
            have hbe : (x.res == y.res) = false := by simp [cr]
            clear HR hs hsd
            go_quiet (fail)
            go_wp2_with fail
            go_roundw
            case rel => exact ⟨k + 1, by omega, by first | rfl | go_num, Lib.hid (HBD.out _)⟩
            case measure => simp [intOf]; omega
        · obtain rfl : k = j := by omega
          have cf : decide ((k : Int) < (k : Int)) = false := by simp
          go_wp2_with fail
          go_roundw
          case rel => exact ⟨k + 1, by omega, by first | rfl | go_num, HB⟩
          case measure => simp [intOf]; omega
    · obtain rfl : j = n := by omega
      have cf : decide ((j : Int) < (j : Int)) = false := by simp
      go_wp2_with fail
      go_ret
      exact ⟨rfl, HB.out⟩

end Go.Proofs.YtochopjcdlblmaaDoor
