/-
  The document's changing that is covered (haspref22), walked: a contract over the translation.
  Conditions: the row lies in memory.
-/
import Derived.Test.YtgndbhgpdcelpaaDoorCr4
namespace Go.Proofs.YtgndbhgpdcelpaaDoor
set_option maxRecDepth 100000
open Go.RowKit Go.Joins Go.ChangeShapes Go.WideShapes
set_option linter.unusedVariables false
set_option linter.unusedSimpArgs false

set_option maxHeartbeats 32000000 in
set_option maxRecDepth 100000 in
theorem changes22 (w : World) (tb : ByteArray) (a : Option Addr) (cap : Nat) (q : List Ins) (h : RowA w a q) (hm : q.length ≤ 1048576) :
    Calls Tryd.prog 14 #[.agg #[.string tb, .slice a q.length cap]] w fun e w' => e = .returned (.bool (chB tb q)) ∧ Below w.heap.size w w' := by
  obtain ⟨R, hR⟩ : ∃ R, chB tb q = R := ⟨_, rfl⟩
  rw [hR]
  obtain ⟨te, hte⟩ : ∃ te, tb.toList.isEmpty = te := ⟨_, rfl⟩
  unfold chB at hR
  rw [hte] at hR
  have ce2 : (tb.toList == []) = te := by
    rw [← hte]
    cases tb.toList <;> rfl
  have HTE := Lib.hid hte
  obtain ⟨n, hn⟩ : ∃ n, q.length = n := ⟨_, rfl⟩
  have HN := Lib.hid hn
  obtain ⟨W1, hW1⟩ : ∃ W1, w.alloc (.cells #[.string tb, .slice a q.length cap] 25) = W1 := ⟨_, rfl⟩
  obtain ⟨HB1, z0, z1, hz, hbx⟩ := ck_box hW1
  have HH := Lib.hid (h.below HB1.out)
  have HRO := Lib.hid (fun (V : World) (hV : Below w.heap.size w V) => h.below hV)
  have HPX := Lib.hid (fun (V : World) (hV : Below W1.heap.size W1 V) => hbx.below hV)
  have HMO := Lib.hid (mode22 W1 tb a cap q (h.below HB1.out) hm tb)
  have HOP := Lib.hid (fun (V : World) (hV : Below w.heap.size w V) => opened22 V tb a cap q (h.below hV) hm 0)
  have HNO := Lib.hid (show ∀ (k : Nat) (x : Ins), q[k]? = some x → okC te (q.take k) k x = false → R = false from fun k x hx hk => by rw [← hR, ok_no hx hk]; rfl)
  have HR := Lib.hid hR
  rw [hn] at hm HMO HOP HPX hW1 z1 ⊢
  clear hR hn h hz hbx hte
  go_enter Tryd.func14, Tryd.ntmps14
  go_wp2_with fail
  try rw [hW1]
  clear hW1
  go_loopw [3, 4, 5, 6, 7] (fun g a5 t p i wr => ∃ k : Nat, k ≤ n ∧ i = .int .i64 k ∧ g = .int .i64 (cnL [9] (q.take k)) ∧ a5 = .int .i64 (cnL [10] (q.take k)) ∧ t = .int .i64 (lastG (q.take k)) ∧ p = .int .i64 (cnL [6] (q.take k)) ∧ W1 = wr ∧ Hid (∀ (j : Nat) (x : Ins), j < k → q[j]? = some x → okC te (q.take j) j x = true)) (fun _ _ _ _ i _ => n - (intOf i).toNat)
  case atStart => exact ⟨0, Nat.zero_le _, rfl, rfl, rfl, rfl, rfl, rfl, fun j x hj => absurd hj (by omega)⟩
  case round =>
    obtain ⟨k, hk, rfl, rfl, rfl, rfl, rfl, rfl, HK⟩ := hrel
    have hle9 := Nat.le_trans (cnL_le [9] (q.take k)) (List.length_take_le k q)
    have hle10 := Nat.le_trans (cnL_le [10] (q.take k)) (List.length_take_le k q)
    have hle6 := Nat.le_trans (cnL_le [6] (q.take k)) (List.length_take_le k q)
    obtain ⟨G, hG⟩ : ∃ M, cnL [9] (q.take k) = M := ⟨_, rfl⟩
    obtain ⟨A, hA⟩ : ∃ M, cnL [10] (q.take k) = M := ⟨_, rfl⟩
    obtain ⟨P, hP⟩ : ∃ M, cnL [6] (q.take k) = M := ⟨_, rfl⟩
    obtain ⟨B, hB⟩ : ∃ M, lastG (q.take k) = M := ⟨_, rfl⟩
    rw [hG] at hle9 ⊢
    rw [hA] at hle10 ⊢
    rw [hP] at hle6 ⊢
    rw [hB]
    have HG := Lib.hid hG
    have HA := Lib.hid hA
    have HP := Lib.hid hP
    have HB := Lib.hid hB
    have u9 : (G : Int) ≤ 1048576 := by omega
    have u10 : (A : Int) ≤ 1048576 := by omega
    have u6 : (P : Int) ≤ 1048576 := by omega
    clear hG hA hP hB
    by_cases c : k < n
    · have c1 : (k : Int) < (n : Int) := by omega
      have k0 : (0 : Int) ≤ k := by omega
      have k1 : (k : Int) ≤ 1048576 := by omega
      obtain ⟨x, hl⟩ : ∃ l, q[k]? = some l := ⟨_, List.getElem?_eq_getElem (by rw [HN.out]; exact c)⟩
      obtain ⟨gb, off, rfl, -, hra⟩ := RowA.at HH.out hl
      obtain ⟨f0, -, -, -, -, -, -⟩ := rng_cells hra
      have HTK := Lib.hid (take_snoc' hl)
      have HTL := Lib.hid (show (q.take k).length = k by rw [List.length_take, HN.out]; omega)
      have HNO2 := Lib.hid (fun hk => HNO.out k x hl hk)
      have HKN := Lib.hid (show okC te (q.take k) k x = true → ∀ (j : Nat) (y : Ins), j < k + 1 → q[j]? = some y → okC te (q.take j) j y = true from fun ho j y hj hy => by
        by_cases e : j = k
        · subst e
          rw [hl] at hy
          injection hy with hy
          rw [← hy]; exact ho
        · exact HK.out j y (by omega) hy)
      clear hl hra HNO HMO HOP
      by_cases hop : x.op = 9
      case pos =>
        have z6 : (x.op == 6) = false := by rw [hop]; rfl
        have z7 : (x.op == 7) = false := by rw [hop]; rfl
        have z9 : (x.op == 9) = true := by rw [hop]; rfl
        have z10 : (x.op == 10) = false := by rw [hop]; rfl
        rw [hop] at f0
        cases te with
        | true =>
          have HOK := Lib.hid (show okC true (q.take k) k x = false by unfold okC; rw [HB.out, HG.out, z6, z7, z9, z10]; simp)
          obtain rfl : R = false := HNO2.out HOK.out
          go_wp2_with fail
          go_ret
          exact ⟨rfl, HB1.out⟩
        | false =>
          have HOK := Lib.hid (show okC false (q.take k) k x = true by unfold okC; rw [HB.out, HG.out, z6, z7, z9, z10]; simp)
          have HK2 : Hid (∀ (j : Nat) (y : Ins), j < k + 1 → q[j]? = some y → okC false (q.take j) j y = true) := HKN.out HOK.out
          have E9 := Lib.hid (show cnL [9] (q.take (k + 1)) = G + 1 by rw [HTK.out, cn_snoc1, HG.out, z9]; rfl)
          have E10 := Lib.hid (show cnL [10] (q.take (k + 1)) = A by rw [HTK.out, cn_snoc1, HA.out, z10]; rfl)
          have E6 := Lib.hid (show cnL [6] (q.take (k + 1)) = P by rw [HTK.out, cn_snoc1, HP.out, z6]; rfl)
          have EL := Lib.hid (show lastG (q.take (k + 1)) = (k : Int) by rw [HTK.out, lastG_snoc, HB.out, z9]; rw [HTL.out]; rfl)
          go_wp2_with fail
          go_roundw
          case rel => exact ⟨k + 1, by omega, by go_num, by rw [E9.out]; go_num, by rw [E10.out], by rw [EL.out], by rw [E6.out], (by first | rfl | trivial), HK2⟩
          case measure => simp [intOf]; omega
      case neg =>
        by_cases hop : x.op = 10
        case pos =>
          have z6 : (x.op == 6) = false := by rw [hop]; rfl
          have z7 : (x.op == 7) = false := by rw [hop]; rfl
          have z9 : (x.op == 9) = false := by rw [hop]; rfl
          have z10 : (x.op == 10) = true := by rw [hop]; rfl
          rw [hop] at f0
          cases te with
          | true =>
            have HOK := Lib.hid (show okC true (q.take k) k x = false by unfold okC; rw [HB.out, HG.out, z6, z7, z9, z10]; simp)
            obtain rfl : R = false := HNO2.out HOK.out
            go_wp2_with fail
            go_ret
            exact ⟨rfl, HB1.out⟩
          | false =>
            by_cases b1 : B < 0
            case pos =>
              have HOK := Lib.hid (show okC false (q.take k) k x = false by unfold okC; rw [HB.out, HG.out, z6, z7, z9, z10]; simp [b1])
              obtain rfl : R = false := HNO2.out HOK.out
              go_wp2_with fail
              go_ret
              exact ⟨rfl, HB1.out⟩
            case neg =>
              have b4 : decide (B < 0) = false := by simp; omega
              cases b3 : B != (k : Int) - 1 with
              | false =>
                have HOK := Lib.hid (show okC false (q.take k) k x = true by unfold okC; rw [HB.out, HG.out, z6, z7, z9, z10]; simp [b4, b3])
                have HK2 : Hid (∀ (j : Nat) (y : Ins), j < k + 1 → q[j]? = some y → okC false (q.take j) j y = true) := HKN.out HOK.out
                have E9 := Lib.hid (show cnL [9] (q.take (k + 1)) = G by rw [HTK.out, cn_snoc1, HG.out, z9]; rfl)
                have E10 := Lib.hid (show cnL [10] (q.take (k + 1)) = A + 1 by rw [HTK.out, cn_snoc1, HA.out, z10]; rfl)
                have E6 := Lib.hid (show cnL [6] (q.take (k + 1)) = P by rw [HTK.out, cn_snoc1, HP.out, z6]; rfl)
                have EL := Lib.hid (show lastG (q.take (k + 1)) = B by rw [HTK.out, lastG_snoc, HB.out, z9]; rfl)
                go_wp2_with fail
                go_roundw
                case rel => exact ⟨k + 1, by omega, by go_num, by rw [E9.out], by rw [E10.out]; go_num, by rw [EL.out], by rw [E6.out], (by first | rfl | trivial), HK2⟩
                case measure => simp [intOf]; omega
              | true =>
                have HOK := Lib.hid (show okC false (q.take k) k x = false by unfold okC; rw [HB.out, HG.out, z6, z7, z9, z10]; simp [b4, b3])
                obtain rfl : R = false := HNO2.out HOK.out
                go_wp2_with fail
                go_ret
                exact ⟨rfl, HB1.out⟩
        case neg =>
          by_cases hop : x.op = 6
          case pos =>
            have z6 : (x.op == 6) = true := by rw [hop]; rfl
            have z7 : (x.op == 7) = false := by rw [hop]; rfl
            have z9 : (x.op == 9) = false := by rw [hop]; rfl
            have z10 : (x.op == 10) = false := by rw [hop]; rfl
            rw [hop] at f0
            cases te with
            | true =>
              have HOK := Lib.hid (show okC true (q.take k) k x = false by unfold okC; rw [HB.out, HG.out, z6, z7, z9, z10]; simp)
              obtain rfl : R = false := HNO2.out HOK.out
              go_wp2_with fail
              go_ret
              exact ⟨rfl, HB1.out⟩
            | false =>
              by_cases b1 : 0 < G
              case pos =>
                have b5 : (0 : Int) < (G : Int) := by omega
                have HOK := Lib.hid (show okC false (q.take k) k x = false by unfold okC; rw [HB.out, HG.out, z6, z7, z9, z10]; simp [b1])
                obtain rfl : R = false := HNO2.out HOK.out
                go_wp2_with fail
                go_ret
                exact ⟨rfl, HB1.out⟩
              case neg =>
                have b5 : ¬ (0 : Int) < (G : Int) := by omega
                have b6 : decide (0 < G) = false := by simp; omega
                have HOK := Lib.hid (show okC false (q.take k) k x = true by unfold okC; rw [HB.out, HG.out, z6, z7, z9, z10]; simp [b6])
                have HK2 : Hid (∀ (j : Nat) (y : Ins), j < k + 1 → q[j]? = some y → okC false (q.take j) j y = true) := HKN.out HOK.out
                have E9 := Lib.hid (show cnL [9] (q.take (k + 1)) = G by rw [HTK.out, cn_snoc1, HG.out, z9]; rfl)
                have E10 := Lib.hid (show cnL [10] (q.take (k + 1)) = A by rw [HTK.out, cn_snoc1, HA.out, z10]; rfl)
                have E6 := Lib.hid (show cnL [6] (q.take (k + 1)) = P + 1 by rw [HTK.out, cn_snoc1, HP.out, z6]; rfl)
                have EL := Lib.hid (show lastG (q.take (k + 1)) = B by rw [HTK.out, lastG_snoc, HB.out, z9]; rfl)
                go_wp2_with fail
                go_roundw
                case rel => exact ⟨k + 1, by omega, by go_num, by rw [E9.out], by rw [E10.out], by rw [EL.out], by rw [E6.out]; go_num, (by first | rfl | trivial), HK2⟩
                case measure => simp [intOf]; omega
          case neg =>
            by_cases hop : x.op = 7
            case pos =>
              have z6 : (x.op == 6) = false := by rw [hop]; rfl
              have z7 : (x.op == 7) = true := by rw [hop]; rfl
              have z9 : (x.op == 9) = false := by rw [hop]; rfl
              have z10 : (x.op == 10) = false := by rw [hop]; rfl
              rw [hop] at f0
              cases te with
              | true =>
                have HOK := Lib.hid (show okC true (q.take k) k x = false by unfold okC; rw [HB.out, HG.out, z6, z7, z9, z10]; simp)
                obtain rfl : R = false := HNO2.out HOK.out
                go_wp2_with fail
                go_ret
                exact ⟨rfl, HB1.out⟩
              | false =>
                by_cases b1 : 0 < G
                case pos =>
                  have b5 : (0 : Int) < (G : Int) := by omega
                  have HOK := Lib.hid (show okC false (q.take k) k x = false by unfold okC; rw [HB.out, HG.out, z6, z7, z9, z10]; simp [b1])
                  obtain rfl : R = false := HNO2.out HOK.out
                  go_wp2_with fail
                  go_ret
                  exact ⟨rfl, HB1.out⟩
                case neg =>
                  have b5 : ¬ (0 : Int) < (G : Int) := by omega
                  have b6 : decide (0 < G) = false := by simp; omega
                  have HOK := Lib.hid (show okC false (q.take k) k x = true by unfold okC; rw [HB.out, HG.out, z6, z7, z9, z10]; simp [b6])
                  have HK2 : Hid (∀ (j : Nat) (y : Ins), j < k + 1 → q[j]? = some y → okC false (q.take j) j y = true) := HKN.out HOK.out
                  have E9 := Lib.hid (show cnL [9] (q.take (k + 1)) = G by rw [HTK.out, cn_snoc1, HG.out, z9]; rfl)
                  have E10 := Lib.hid (show cnL [10] (q.take (k + 1)) = A by rw [HTK.out, cn_snoc1, HA.out, z10]; rfl)
                  have E6 := Lib.hid (show cnL [6] (q.take (k + 1)) = P by rw [HTK.out, cn_snoc1, HP.out, z6]; rfl)
                  have EL := Lib.hid (show lastG (q.take (k + 1)) = B by rw [HTK.out, lastG_snoc, HB.out, z9]; rfl)
                  go_wp2_with fail
                  go_roundw
                  case rel => exact ⟨k + 1, by omega, by go_num, by rw [E9.out], by rw [E10.out], by rw [EL.out], by rw [E6.out], (by first | rfl | trivial), HK2⟩
                  case measure => simp [intOf]; omega
            case neg =>
              have z6 : (x.op == 6) = false := by simp; omega
              have z7 : (x.op == 7) = false := by simp; omega
              have z9 : (x.op == 9) = false := by simp; omega
              have z10 : (x.op == 10) = false := by simp; omega
              cases te with
              | true =>
                have HOK := Lib.hid (show okC true (q.take k) k x = true by unfold okC; rw [HB.out, HG.out, z6, z7, z9, z10]; rfl)
                have HK2 : Hid (∀ (j : Nat) (y : Ins), j < k + 1 → q[j]? = some y → okC true (q.take j) j y = true) := HKN.out HOK.out
                have E9 := Lib.hid (show cnL [9] (q.take (k + 1)) = G by rw [HTK.out, cn_snoc1, HG.out, z9]; rfl)
                have E10 := Lib.hid (show cnL [10] (q.take (k + 1)) = A by rw [HTK.out, cn_snoc1, HA.out, z10]; rfl)
                have E6 := Lib.hid (show cnL [6] (q.take (k + 1)) = P by rw [HTK.out, cn_snoc1, HP.out, z6]; rfl)
                have EL := Lib.hid (show lastG (q.take (k + 1)) = B by rw [HTK.out, lastG_snoc, HB.out, z9]; rfl)
                go_wp2_with fail
                go_roundw
                case rel => exact ⟨k + 1, by omega, by go_num, by rw [E9.out], by rw [E10.out], by rw [EL.out], by rw [E6.out], (by first | rfl | trivial), HK2⟩
                case measure => simp [intOf]; omega
              | false =>
                have HOK := Lib.hid (show okC false (q.take k) k x = true by unfold okC; rw [HB.out, HG.out, z6, z7, z9, z10]; rfl)
                have HK2 : Hid (∀ (j : Nat) (y : Ins), j < k + 1 → q[j]? = some y → okC false (q.take j) j y = true) := HKN.out HOK.out
                have E9 := Lib.hid (show cnL [9] (q.take (k + 1)) = G by rw [HTK.out, cn_snoc1, HG.out, z9]; rfl)
                have E10 := Lib.hid (show cnL [10] (q.take (k + 1)) = A by rw [HTK.out, cn_snoc1, HA.out, z10]; rfl)
                have E6 := Lib.hid (show cnL [6] (q.take (k + 1)) = P by rw [HTK.out, cn_snoc1, HP.out, z6]; rfl)
                have EL := Lib.hid (show lastG (q.take (k + 1)) = B by rw [HTK.out, lastG_snoc, HB.out, z9]; rfl)
                go_wp2_with fail
                go_roundw
                case rel => exact ⟨k + 1, by omega, by go_num, by rw [E9.out], by rw [E10.out], by rw [EL.out], by rw [E6.out], (by first | rfl | trivial), HK2⟩
                case measure => simp [intOf]; omega
    · obtain rfl : k = n := by omega
      have cf : decide ((k : Int) < (k : Int)) = false := by simp
      have HOA := Lib.hid (show okAll te q = true from ok_yes fun j x hj hx => HK.out j x (by rw [← HN.out]; exact hj) hx)
      have HGQ := Lib.hid (show cnL [9] q = G by rw [← HG.out, ← HN.out, List.take_length])
      have HAQ := Lib.hid (show cnL [10] q = A by rw [← HA.out, ← HN.out, List.take_length])
      have HPQ := Lib.hid (show cnL [6] q = P by rw [← HP.out, ← HN.out, List.take_length])
      cases te with
      | true =>
        obtain rfl : R = true := by rw [← HR.out, HOA.out]; rfl
        go_wp2_with fail
        go_ret
        exact ⟨rfl, HB1.out⟩
      | false =>
        obtain ⟨M, hM⟩ : ∃ M, mdL tb q 0 = M := ⟨_, rfl⟩
        rw [hM] at HMO
        have HR1 := Lib.hid (show (G == 1 && A == 1 && cvI M 2 && pkB tb q) = R by rw [← HR.out, HOA.out, HGQ.out, HAQ.out, hM]; rfl)
        clear HR HOA hM HG HA HP HB HNO
        by_cases g1 : G = 1
        case neg =>
          obtain rfl : R = false := by rw [← HR1.out]; simp [g1]
          have q1 : ((G : Int) == 1) = false := by simp; omega
          have q2 : ((G : Int) != 1) = true := by simp [bne, q1]
          go_wp2_with fail
          go_ret
          exact ⟨rfl, HB1.out⟩
        case pos =>
          subst g1
          have q1 : (((1 : Nat) : Int) == 1) = true := rfl
          have q2 : (((1 : Nat) : Int) != 1) = false := rfl
          by_cases g2 : A = 1
          case neg =>
            obtain rfl : R = false := by rw [← HR1.out]; simp [g2]
            have q3 : ((A : Int) == 1) = false := by simp; omega
            have q4 : ((A : Int) != 1) = true := by simp [bne, q3]
            go_wp2_with fail
            go_ret
            exact ⟨rfl, HB1.out⟩
          case pos =>
            subst g2
            have HR2 := Lib.hid (show (cvI M 2 && pkB tb q) = R by rw [← HR1.out]; rfl)
            clear HR1
            go_wp2_with fail
            refine HMO.out.mono ?_
            rintro e w5 ⟨rfl, hb5⟩
            have HB5 := Lib.hid hb5
            have HW5 := Lib.hid (btr HB1.out hb5 HB1.out.size)
            have y0 : w5.cell? ⟨w.heap.size, 0, none⟩ = some (.string tb) := (HPX.out w5 hb5).cell rfl
            have y1 : w5.cell? ⟨w.heap.size, 1, none⟩ = some (.slice a k cap) := (HPX.out w5 hb5).cell rfl
            have HC := Lib.hid (rcov_any M 2 w5)
            obtain ⟨V, hV⟩ : ∃ V, cvI M 2 = V := ⟨_, rfl⟩
            rw [hV] at HC
            have HR3 := HR2.out
            rw [hV] at HR3
            clear hb5 hV HMO HR2
            go_wp2_with fail
            refine HC.out.mono ?_
            rintro e w6 ⟨rfl, hb6⟩
            have HB6 := Lib.hid (btr HB5.out hb6 HB5.out.size)
            have HW6 := Lib.hid (btr HW5.out hb6 HW5.out.size)
            have v0 : w6.cell? ⟨w.heap.size, 0, none⟩ = some (.string tb) := (HPX.out w6 HB6.out).cell rfl
            have v1 : w6.cell? ⟨w.heap.size, 1, none⟩ = some (.slice a k cap) := (HPX.out w6 HB6.out).cell rfl
            clear hb6 HC
            cases V with
            | false =>
              obtain rfl : R = false := by rw [← HR3]; rfl
              clear HR3
              go_wp2_with fail
              go_ret
              exact ⟨rfl, HW6.out⟩
            | true =>
              have HR4 := Lib.hid (show pkB tb q = R by rw [← HR3]; rfl)
              clear HR3
              by_cases g3 : P = 0
              case pos =>
                obtain rfl : R = true := by
                  rw [← HR4.out]
                  unfold pkB
                  rw [HPQ.out, g3]; rfl
                have q5 : ((P : Int) == 0) = true := by rw [g3]; rfl
                go_wp2_with fail
                go_ret
                exact ⟨rfl, HW6.out⟩
              case neg =>
                have q5 : ((P : Int) == 0) = false := by simp; omega
                have hr5 := HR4.out
                unfold pkB at hr5
                rw [HPQ.out, show (P == 0) = false by simp [g3]] at hr5
                simp only [Bool.false_or] at hr5
                have HO := Lib.hid (HOP.out w6 HW6.out)
                rcases fidx_filter (ocB 2 0) q with ⟨e1, e2⟩ | ⟨k0, o, r, e1, e2, e3⟩
                · rw [e1] at hr5
                  simp only at hr5
                  subst hr5
                  rw [e2] at HO
                  clear e1 e2
                  go_wp2_with fail
                  refine HO.out.mono ?_
                  rintro e w7 ⟨rfl, hb7⟩
                  have HW7 := Lib.hid (btr HW6.out hb7 HW6.out.size)
                  clear hb7
                  go_wp2_with fail
                  go_ret
                  exact ⟨rfl, HW7.out⟩
                · rw [e1] at hr5
                  simp only at hr5
                  rw [e2] at HO
                  have hkn : k0 < k := by rw [← HN.out]; exact (List.getElem?_eq_some_iff.1 e3).1
                  have hkn2 : (k0 : Int) < (k : Int) := by omega
                  have hkn3 : ¬ (k0 : Int) < 0 := by omega
                  have HE3 := Lib.hid e3
                  have HR5 := Lib.hid hr5
                  clear e1 e2 e3 hr5 HR4 HOP
                  go_wp2_with fail
                  refine HO.out.mono ?_
                  rintro e w7 ⟨rfl, hb7⟩
                  have HB7 := Lib.hid (btr HB6.out hb7 HB6.out.size)
                  clear hb7 HO
                  go_wp2_with fail
                  go_loopw [10] (fun i wr => ∃ j : Nat, j ≤ k ∧ i = .int .i64 j ∧ Hid (Below W1.heap.size W1 wr) ∧ Hid (∀ (m : Nat) (x : Ins), m < j → q[m]? = some x → ocB 3 0 x = true → cvI x.part 5 = true)) (fun i _ => k - (intOf i).toNat)
                  case atStart => exact ⟨0, Nat.zero_le _, rfl, HB7, fun m x hm => absurd hm (by omega)⟩
                  case round =>
                    obtain ⟨j, hj, rfl, HBR, HKJ⟩ := hrel
                    have HWR := Lib.hid (btr HB1.out HBR.out HB1.out.size)
                    have t0 : wr.cell? ⟨w.heap.size, 0, none⟩ = some (.string tb) := (HPX.out wr HBR.out).cell rfl
                    have t1 : wr.cell? ⟨w.heap.size, 1, none⟩ = some (.slice a k cap) := (HPX.out wr HBR.out).cell rfl
                    by_cases cj : j < k
                    · have cj1 : (j : Int) < (k : Int) := by omega
                      obtain ⟨x, hl⟩ : ∃ l, q[j]? = some l := ⟨_, List.getElem?_eq_getElem (by rw [HN.out]; exact cj)⟩
                      obtain ⟨gb, off, rfl, -, hra⟩ := RowA.at (HRO.out wr HWR.out) hl
                      obtain ⟨f0, f1, -, -, f4, -, -⟩ := rng_cells hra
                      have HL := Lib.hid hl
                      have HNX := Lib.hid (show (ocB 3 0 x = true → cvI x.part 5 = true) → ∀ (m : Nat) (y : Ins), m < j + 1 → q[m]? = some y → ocB 3 0 y = true → cvI y.part 5 = true from fun ho m y hm hy => by
                        by_cases e : m = j
                        · subst e
                          rw [hl] at hy
                          injection hy with hy
                          rw [← hy]; exact ho
                        · exact HKJ.out m y (by omega) hy)
                      have HCV := Lib.hid (rcov_any x.part 5 wr)
                      clear hl hra
                      cases c3 : x.op == 3 with
                      | false =>
                        have HK2 := Lib.hid (HNX.out (fun h => by unfold ocB at h; rw [c3] at h; cases h))
                        go_wp2_with fail
                        go_roundw
                        case rel => exact ⟨j + 1, by omega, by go_num, HBR, HK2⟩
                        case measure => simp [intOf]; omega
                      | true =>
                        cases c0 : x.c == 0 with
                        | false =>
                          have HK2 := Lib.hid (HNX.out (fun h => by unfold ocB at h; rw [c3, c0] at h; cases h))
                          go_wp2_with fail
                          go_roundw
                          case rel => exact ⟨j + 1, by omega, by go_num, HBR, HK2⟩
                          case measure => simp [intOf]; omega
                        | true =>
                          cases cv : cvI x.part 5 with
                          | true =>
                            rw [cv] at HCV
                            have HK2 := Lib.hid (HNX.out (fun _ => cv))
                            clear cv
                            go_wp2_with fail
                            refine HCV.out.mono ?_
                            rintro e w8 ⟨rfl, hb8⟩
                            have HB8 := Lib.hid (btr HBR.out hb8 HBR.out.size)
                            clear hb8
                            go_wp2_with fail
                            go_roundw
                            case rel => exact ⟨j + 1, by omega, by go_num, HB8, HK2⟩
                            case measure => simp [intOf]; omega
                          | false =>
                            rw [cv] at HCV
                            obtain rfl : R = false := by
                              rw [← HR5.out, Bool.and_eq_false_iff]
                              right
                              rw [List.all_eq_false]
                              exact ⟨x, List.mem_filter.2 ⟨List.mem_of_getElem? HL.out, by unfold ocB; rw [c3, c0]; rfl⟩, by rw [cv]; decide⟩
                            clear cv
                            go_wp2_with fail
                            refine HCV.out.mono ?_
                            rintro e w8 ⟨rfl, hb8⟩
                            have HW8 := Lib.hid (btr HWR.out hb8 HWR.out.size)
                            clear hb8
                            go_wp2_with fail
                            go_ret
                            exact ⟨rfl, HW8.out⟩
                    · obtain rfl : j = k := by omega
                      have cf2 : decide ((j : Int) < (j : Int)) = false := by simp
                      have HAL := Lib.hid (show ((q.filter (ocB 3 0)).all fun x => cvI x.part 5) = true by
                        rw [List.all_eq_true]
                        intro x hx
                        obtain ⟨h1, h2⟩ := List.mem_filter.1 hx
                        obtain ⟨m, hm⟩ := List.getElem?_of_mem h1
                        exact HKJ.out m x (by rw [← HN.out]; exact (List.getElem?_eq_some_iff.1 hm).1) hm h2)
                      have HR6 := Lib.hid (show (o.tab.toList == tb.toList) = R by rw [← HR5.out, HAL.out, Bool.and_true])
                      obtain ⟨gb, off, rfl, -, hra⟩ := RowA.at (HRO.out wr HWR.out) HE3.out
                      obtain ⟨-, -, -, -, -, f5, -⟩ := rng_cells hra
                      clear hra HR5 HAL
                      cases R with
                      | true =>
                        have s1 : (o.tab.toList == tb.toList) = true := HR6.out
                        go_wp2_with fail
                        go_quiet (fail)
                        all_goals go_wp2_with fail
                        go_ret
                        exact ⟨rfl, btr HWR.out (bdrew _ _) HWR.out.size⟩
                      | false =>
                        have s1 : (o.tab.toList == tb.toList) = false := HR6.out
                        go_wp2_with fail
                        go_quiet (fail)
                        all_goals go_wp2_with fail
                        go_ret
                        exact ⟨rfl, btr HWR.out (bdrew _ _) HWR.out.size⟩

end Go.Proofs.YtgndbhgpdcelpaaDoor
