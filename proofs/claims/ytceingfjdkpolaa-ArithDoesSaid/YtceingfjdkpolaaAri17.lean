/-
  The document's operator on values for any list of operands gives what the program's gives; a right outcome.
  Conditions: the operands' numbers are of 64 bits, their texts have at most 200 bytes.
-/
import Derived.Test.YtceingfjdkpolaaAri16
namespace Go.Proofs.Ytceingfjdkpolaa
open Go.RowKit Go.Joins Go.ChangeShapes Go.WideShapes
set_option linter.unusedVariables false

theorem cnt2 {op : Int} (hc : cntV op = 2) : 7 ≤ op ∧ op ≤ 12 := by rcases cnt_le op with h | h | h <;> omega
theorem cnt1 {op : Int} (hc : cntV op = 1) : 13 ≤ op ∧ op ≤ 15 := by rcases cnt_le op with h | h | h <;> omega

/-- the number by cases -/
theorem nmc_of {op ka : Int} (na nb : Int) {T : Int} (hT : oneV op ka = T) (h0 : T ≠ 0) (h12 : op ≠ 12) : NmC op ka na nb T (numV op ka na nb).1 (numV op ka na nb).2 := by
  have hv := one_vals op ka (by rw [hT]; exact h0)
  unfold NmC numV
  by_cases a : op = 14
  · rw [if_pos a]
    unfold tiV
    by_cases b : ka = 3
    · rw [if_pos b]; exact .inl ⟨a, b, rfl, rfl⟩
    · rw [if_neg b]; exact .inr (.inl ⟨a, by simpa using b, rfl, rfl⟩)
  · rw [if_neg a]
    by_cases b : op = 15
    · rw [if_pos b]
      unfold trV
      by_cases c : ka = 2
      · rw [if_pos c]; exact .inr (.inr (.inl ⟨b, c, rfl, rfl⟩))
      · rw [if_neg c]; exact .inr (.inr (.inr (.inl ⟨b, by simpa using c, rfl, rfl⟩)))
    · rw [if_neg b]
      have a' : (op == 14) = false := by simpa using a
      have b' : (op == 15) = false := by simpa using b
      have hk : (ka = 3 ∧ OpsR op) ∨ (ka = 2 ∧ OpsI op) := by
        rcases hv with ⟨g, _⟩ | ⟨_, g | g | g | g⟩
        · exact absurd g h12
        · exact absurd g a
        · exact absurd g b
        · exact .inl g
        · exact .inr g
      rcases hk with ⟨rfl, ho⟩ | ⟨rfl, ho⟩
      · rw [if_pos rfl]
        have t3 : T = 3 := by
          unfold OpsR at ho
          rw [← hT]; unfold oneV; rw [if_pos (by omega), if_pos (by omega)]
        exact .inr (.inr (.inr (.inr (.inr ⟨a', b', by rw [t3]; rfl, ho, rfl, rfl⟩))))
      · rw [if_neg (by decide)]
        have t2 : T = 2 := by
          unfold OpsI at ho
          rw [← hT]; unfold oneV
          by_cases q : op = 7 ∨ op = 8 ∨ op = 9 ∨ op = 10 ∨ op = 13
          · rw [if_pos q, if_pos (by omega)]
          · rw [if_neg q, if_pos (by omega), if_pos rfl]
        exact .inr (.inr (.inr (.inr (.inl ⟨a', b', t2, ho, rfl, rfl⟩))))

theorem rd_of {op : Int} {m : Nat} {ka na : Int} {sa : ByteArray} {kb nb : Int} {sb : ByteArray} {R : Int × Int × ByteArray × Int} (hc : cntV op = m) (h0 : m ≠ 0) (hR : doV op m ka na sa kb nb sb = R) : RdO op ka na sa kb nb sb (oneV op ka) R := by
  unfold RdO
  unfold doV at hR
  rw [if_neg (by omega)] at hR
  by_cases za : ka = 0
  · rw [if_pos (.inl za)] at hR
    exact .inl ⟨za, hR.symm⟩
  · have za' : (ka == 0) = false := by simpa using za
    right
    by_cases zb : kb = 0
    · rw [if_pos (.inr zb)] at hR
      exact .inl ⟨za', zb, hR.symm⟩
    · have zb' : (kb == 0) = false := by simpa using zb
      right
      rw [if_neg (by omega)] at hR
      have hty := ty_non hc h0 za zb
      by_cases e : kb = ka
      · right
        rw [if_neg (show ¬ (kb ≠ ka) from fun h => h e)] at hty
        rw [hty] at hR
        clear hty
        obtain ⟨T, hT⟩ : ∃ T, oneV op ka = T := ⟨_, rfl⟩
        rw [hT] at hR ⊢
        by_cases z : T = 0
        · rw [if_pos z] at hR
          exact .inl ⟨za', e, z, hR.symm⟩
        · right
          have z' : (T == 0) = false := by simpa using z
          rw [if_neg z] at hR
          have hv := one_vals op ka (by rw [hT]; exact z)
          rw [hT] at hv
          rcases hv with ⟨g, _, t4⟩ | ⟨t4, g⟩
          · rw [if_pos t4] at hR
            by_cases l : 200 < sa.size + sb.size
            · rw [if_pos l] at hR
              exact .inl ⟨za', e, z', g, l, hR.symm⟩
            · rw [if_neg l] at hR
              exact .inr (.inl ⟨za', e, z', g, by omega, hR.symm⟩)
          · rw [if_neg t4] at hR
            have n12 : op ≠ 12 := by
              intro h
              subst h
              have : T = 0 ∨ T = 4 := by
                rw [← hT]; unfold oneV
                rw [if_neg (by decide), if_neg (by decide), if_pos rfl]
                split
                · exact .inr rfl
                · exact .inl rfl
              omega
            refine .inr (.inr ⟨za', e, z', by simpa using n12, _, _, nmc_of na nb hT z n12, ?_⟩)
            by_cases q : (numV op ka na nb).2 = 0
            · rw [if_neg (by simp [q])] at hR
              exact .inr ⟨q, hR.symm⟩
            · rw [if_pos q] at hR
              exact .inl ⟨by simpa using q, hR.symm⟩
      · left
        rw [if_pos e] at hty
        rw [if_pos hty] at hR
        exact ⟨za', zb', by simpa using fun h => e h.symm, hR.symm⟩

theorem refdo_all (op : Int) (A : Option Addr) (b off m cap : Nat) (kf nf : Nat → Int) (sf : Nat → ByteArray) (hm : m ≤ maxLen) (ha : m = 0 ∨ A = some ⟨b, off, none⟩) (hr : ∀ i, i < m → InI (nf i) ∧ (sf i).size ≤ 200) (w : World) (hA : IsV w b off m kf nf sf) (R : Int × Int × ByteArray × Int)
    (hR : doV op m (kf 0) (nf 0) (sf 0) (kf (m - 1)) (nf (m - 1)) (sf (m - 1)) = R) :
    Calls Try.prog 13 #[.int .i64 op, .slice A m cap] w fun e w' => e = .returned (Out R.1 R.2.1 R.2.2.1 R.2.2.2) ∧ Below w.heap.size w w' := by
  by_cases h : m = 0 ∨ cntV op ≠ m
  · have e : R = (0, 0, E0, 30) := by rw [← hR]; unfold doV; rw [if_pos h]
    rw [e]
    exact refdo_bad op A m cap hm (by omega) w
  · have hc : cntV op = m := by omega
    have h12 : m = 1 ∨ m = 2 := by rcases cnt_le op with g | g | g <;> omega
    obtain rfl : A = some ⟨b, off, none⟩ := by rcases ha with g | g; omega; exact g
    have hb := hA.hb (by omega)
    have hro := rd_of hc (by omega) hR
    rcases h12 with rfl | rfl
    · have o0 := opd_of hA (i := 0) (by decide)
      rw [Nat.zero_mul, Nat.add_zero] at o0
      obtain ⟨i0, s0⟩ := hr 0 (by decide)
      exact refdo_1 op b off cap _ _ _ w hb o0 hc i0 i0 s0 s0 _ rfl R hro
    · have o0 := opd_of hA (i := 0) (by decide)
      have o1 := opd_of hA (i := 1) (by decide)
      rw [Nat.zero_mul, Nat.add_zero] at o0
      rw [Nat.one_mul] at o1
      obtain ⟨i0, s0⟩ := hr 0 (by decide)
      obtain ⟨i1, s1⟩ := hr 1 (by decide)
      exact refdo_2 op b off cap _ _ _ _ _ _ w hb o0 o1 hc i0 i1 s0 s1 _ rfl R hro

/-! a right outcome -/

theorem cn_right {n : Int} (h : Cn n) : RightNum 3 n = true := by
  unfold RightNum
  rw [if_neg (by decide), if_neg (by decide), if_pos rfl]
  have e : RCanon n = n := by
    rw [canon_eq h.1]
    unfold PCanon
    by_cases c : rnan (ub n) = true
    · rw [if_pos c]; exact (h.2 c).symm
    · rw [if_neg c]
  rw [e]
  simp
theorem right_cn {n : Int} (hi : InI n) (h : RightNum 3 n = true) : Cn n := by
  unfold RightNum at h
  rw [if_neg (by decide), if_neg (by decide), if_pos rfl] at h
  have e : n = RCanon n := by simpa using h
  rw [e]
  exact cn_canon hi

theorem ub_w64 (b : Nat) : ub (wrap64 (b : Int)) = b % 18446744073709551616 := by
  unfold ub
  rw [IntKind.wrap_u64]
  unfold wrap64
  omega
theorem rbits_cn (b : Nat) : Cn (RBits b) := by
  unfold RBits
  by_cases c : rnan b = true
  · rw [if_pos c]
    exact ⟨by unfold InI; omega, fun _ => rfl⟩
  · rw [if_neg c]
    refine ⟨wrap_in _, fun h => absurd ?_ c⟩
    rw [rnan_iff, ub_w64] at h
    rw [rnan_iff, ← h]
    unfold rg
    rw [Nat.mod_mod_of_dvd _ (by decide)]
theorem rof_cn (o : Option Nat) : Cn (ROf o) := by
  cases o with
  | none => exact ⟨by unfold InI ROf; decide, fun _ => rfl⟩
  | some r => exact rbits_cn r
theorem rneg_cn (a : Int) : Cn (RNeg a) := rbits_cn _
theorem rofint_cn (n : Int) : Cn (ROfInt n) := rbits_cn _
theorem point_cn (op a b : Int) : Cn (pointV op a b) := by
  unfold pointV
  by_cases h1 : op = 7
  · rw [if_pos h1]; exact rof_cn _
  · rw [if_neg h1]
    by_cases h2 : op = 8
    · rw [if_pos h2]; exact rof_cn _
    · rw [if_neg h2]
      by_cases h3 : op = 9
      · rw [if_pos h3]; exact rof_cn _
      · rw [if_neg h3]
        by_cases h4 : op = 10
        · rw [if_pos h4]; exact rof_cn _
        · rw [if_neg h4]; exact rneg_cn _

theorem tw_in (b : Nat) (h : tbad b = false) : InI (TW b) := by
  have hq : ¬ (INF < rg b ∨ (sg b = false ∧ KW ≤ rg b) ∨ (sg b = true ∧ KW < rg b)) := by
    rw [← tbad_iff, h]; decide
  unfold KW INF at hq
  unfold InI TW
  rcases hs : sg b with _ | _
  · rw [hs] at hq
    have := TI_lt (r := rg b) (by simp at hq; omega)
    simp only [Bool.false_eq_true, if_false]
    omega
  · rw [hs] at hq
    simp only [if_true]
    rcases Nat.lt_or_ge (rg b) 4890909195324358656 with c | c
    · have := TI_lt c; omega
    · have : rg b = 4890909195324358656 := by simp at hq; omega
      rw [this, TI_edge]; omega

theorem in0 : InI 0 := by unfold InI; decide
theorem chk_inI (n : Int) : InI (chk n).1 := by
  by_cases h : InI n
  · rw [chk_in h]; exact h
  · rw [chk_out h]; exact in0
theorem whole_in (op : Int) {a b : Int} (ha : InI a) : InI (wholeV op a b).1 := by
  unfold wholeV divV modV
  by_cases h0 : b = 0
  · simp only [if_pos h0]
    repeat' split
    all_goals first | exact chk_inI _ | exact in0
  · simp only [if_neg h0]
    repeat' split
    all_goals first | exact chk_inI _ | exact (tmod_in ha h0).1
theorem num_in (op k : Int) {a b : Int} (ha : InI a) : InI (numV op k a b).1 := by
  unfold numV
  by_cases h1 : op = 14
  · rw [if_pos h1]; unfold tiV
    by_cases h : k = 3
    · rw [if_pos h]
      show InI (if tbad (ub a) = true then 0 else TW (ub a))
      by_cases c : tbad (ub a) = true
      · rw [if_pos c]; exact in0
      · rw [if_neg c]; exact tw_in _ (by simpa using c)
    · rw [if_neg h]; exact ha
  · rw [if_neg h1]
    by_cases h2 : op = 15
    · rw [if_pos h2]
      show InI (trV k a)
      unfold trV
      by_cases h : k = 2
      · rw [if_pos h]; exact (rofint_cn a).1
      · rw [if_neg h]; exact ha
    · rw [if_neg h2]
      by_cases h3 : k = 3
      · rw [if_pos h3]; exact (point_cn op a b).1
      · rw [if_neg h3]; exact whole_in op ha

theorem one_23 {op t : Int} (h0 : oneV op t ≠ 0) (h4 : oneV op t ≠ 4) : oneV op t = 2 ∨ (oneV op t = 3 ∧ op ≠ 14 ∧ ((t = 3 ∧ op ≠ 15) ∨ (op = 15 ∧ (t = 2 ∨ t = 3)))) := by
  unfold oneV at *
  by_cases h1 : op = 7 ∨ op = 8 ∨ op = 9 ∨ op = 10 ∨ op = 13
  · rw [if_pos h1] at *
    by_cases h2 : t = 2 ∨ t = 3
    · rw [if_pos h2] at *; omega
    · rw [if_neg h2] at h0; exact absurd rfl h0
  · rw [if_neg h1] at *
    by_cases h2 : op = 11
    · rw [if_pos h2] at *
      by_cases h3 : t = 2
      · rw [if_pos h3]; exact .inl rfl
      · rw [if_neg h3] at h0; exact absurd rfl h0
    · rw [if_neg h2] at *
      by_cases h3 : op = 12
      · rw [if_pos h3] at *
        by_cases q : t = 4
        · rw [if_pos q] at h4; exact absurd rfl h4
        · rw [if_neg q] at h0; exact absurd rfl h0
      · rw [if_neg h3] at *
        by_cases q : op = 14
        · rw [if_pos q] at *
          by_cases z : 1 ≤ t ∧ t ≤ 3
          · rw [if_pos z]; exact .inl rfl
          · rw [if_neg z] at h0; exact absurd rfl h0
        · rw [if_neg q] at *
          by_cases h5 : op = 15
          · rw [if_pos h5] at *
            by_cases z : t = 2 ∨ t = 3
            · rw [if_pos z]; exact .inr ⟨rfl, q, .inr ⟨h5, z⟩⟩
            · rw [if_neg z] at h0; exact absurd rfl h0
          · rw [if_neg h5] at h0; exact absurd rfl h0

theorem e0s : E0.size ≤ 200 := by decide
theorem vc_none : VCheck 0 0 E0 = 0 := by
  unfold VCheck
  rw [if_neg (by decide), if_neg (by simp [RightNum]), if_neg (by simp), if_neg (by decide)]
theorem vc_text {s : ByteArray} (h : s.size ≤ 200) : VCheck 4 0 s = 0 := by
  unfold VCheck
  rw [if_neg (by decide), if_neg (by simp [RightNum]), if_neg (by simp), if_neg (by omega)]
theorem vc_int (n : Int) : VCheck 2 n E0 = 0 := by
  unfold VCheck
  rw [if_neg (by decide), if_neg (by simp [RightNum]), if_neg (by simp), if_neg (by decide)]
theorem vc_real {n : Int} (h : Cn n) : VCheck 3 n E0 = 0 := by
  unfold VCheck
  rw [if_neg (by decide), if_neg (by rw [cn_right h]; decide), if_neg (by simp), if_neg (by decide)]

/-- what an operator on right values answers is right -/
theorem do_right {op : Int} {m : Nat} {ka na : Int} {sa : ByteArray} {kb nb : Int} {sb : ByteArray} {R : Int × Int × ByteArray × Int} (hR : doV op m ka na sa kb nb sb = R) (ha : m ≠ 0 → InI na ∧ RightNum ka na = true) :
    VCheck R.1 R.2.1 R.2.2.1 = 0 ∧ InI R.2.1 ∧ R.2.2.1.size ≤ 200 := by
  have nul : ∀ e : Int, (0, 0, E0, e) = R → VCheck R.1 R.2.1 R.2.2.1 = 0 ∧ InI R.2.1 ∧ R.2.2.1.size ≤ 200 := by
    rintro e rfl
    exact ⟨vc_none, in0, e0s⟩
  unfold doV at hR
  by_cases h : m = 0 ∨ cntV op ≠ m
  · rw [if_pos h] at hR; exact nul _ hR
  · rw [if_neg h] at hR
    obtain ⟨ia, ra⟩ := ha (by omega)
    by_cases z : ka = 0 ∨ kb = 0
    · rw [if_pos z] at hR; exact nul _ hR
    · rw [if_neg z] at hR
      by_cases t0 : tyV op m ka kb = 0
      · rw [if_pos t0] at hR; exact nul _ hR
      · rw [if_neg t0] at hR
        by_cases t4 : tyV op m ka kb = 4
        · rw [if_pos t4] at hR
          by_cases l : 200 < sa.size + sb.size
          · rw [if_pos l] at hR; exact nul _ hR
          · rw [if_neg l] at hR
            rw [← hR]
            have hs : (sa ++ sb).size ≤ 200 := by rw [ByteArray.size_append]; omega
            exact ⟨vc_text hs, in0, hs⟩
        · rw [if_neg t4] at hR
          by_cases q : (numV op ka na nb).2 = 0
          · rw [if_neg (by simp [q])] at hR
            rw [← hR]
            refine ⟨?_, num_in op ka ia, e0s⟩
            have hty := ty_non (op := op) (m := m) (by omega) (by omega) (show ka ≠ 0 by omega) (show kb ≠ 0 by omega)
            have e : kb = ka := by
              rcases Decidable.em (kb = ka) with e | e
              · exact e
              · rw [if_pos e] at hty; exact absurd hty t0
            rw [if_neg (show ¬ (kb ≠ ka) from fun h => h e)] at hty
            rw [hty] at t0 t4 ⊢
            rcases one_23 t0 t4 with g | ⟨g, n14, g2⟩
            · rw [g]; exact vc_int _
            · rw [g]
              refine vc_real ?_
              show Cn (numV op ka na nb).1
              unfold numV
              rw [if_neg n14]
              rcases g2 with ⟨rfl, n15⟩ | ⟨h15, g2⟩
              · rw [if_neg n15, if_pos rfl]
                exact point_cn _ _ _
              · rw [if_pos h15]
                show Cn (trV ka na)
                unfold trV
                by_cases k2 : ka = 2
                · rw [if_pos k2]; exact rofint_cn _
                · rw [if_neg k2]
                  obtain rfl : ka = 3 := by omega
                  exact right_cn ia ra
          · rw [if_pos q] at hR; exact nul _ hR

end Go.Proofs.Ytceingfjdkpolaa
