/-
  Package arith's Do for any list of operands; operands that are right; what Type says holds of Do.
  Conditions: the operands' numbers are of 64 bits, their texts have at most 200 bytes.
-/
import Derived.Test.YtceingfjdkpolaaAri13
import Derived.Test.YtceingfjdkpolaaAri9
import Derived.Test.YtceingfjdkpolaaVal3
namespace Go.Proofs.Ytceingfjdkpolaa
open Go.RowKit Go.Joins Go.ChangeShapes Go.WideShapes
set_option linter.unusedVariables false

def doV (op : Int) (m : Nat) (ka na : Int) (sa : ByteArray) (kb nb : Int) (sb : ByteArray) : Int × Int × ByteArray × Int :=
  if m = 0 ∨ cntV op ≠ m then (0, 0, E0, 30) else if ka = 0 ∨ kb = 0 then (0, 0, E0, 0) else if tyV op m ka kb = 0 then (0, 0, E0, 30) else
  if tyV op m ka kb = 4 then (if 200 < sa.size + sb.size then (0, 0, E0, 1) else (4, 0, sa ++ sb, 0)) else
  if (numV op ka na nb).2 ≠ 0 then (0, 0, E0, (numV op ka na nb).2) else (tyV op m ka kb, (numV op ka na nb).1, E0, 0)

theorem ty_non {op : Int} {m : Nat} {ka kb : Int} (hc : cntV op = m) (h0 : m ≠ 0) (ha : ka ≠ 0) (hb : kb ≠ 0) : tyV op m ka kb = if kb ≠ ka then 0 else oneV op ka := by
  unfold tyV
  rw [if_neg (by omega)]
  by_cases e : kb = ka
  · subst e
    rw [if_neg (by simp), if_neg (by simp [hb]), if_pos hb, if_neg (by simp)]
  · rw [if_pos ⟨ha, hb, e⟩, if_pos e]

theorem one_vals (op t : Int) (h : oneV op t ≠ 0) : (op = 12 ∧ t = 4 ∧ oneV op t = 4) ∨ (oneV op t ≠ 4 ∧ (op = 14 ∨ op = 15 ∨ (t = 3 ∧ OpsR op) ∨ (t = 2 ∧ OpsI op))) := by
  unfold oneV at *
  unfold OpsR OpsI
  by_cases h1 : op = 7 ∨ op = 8 ∨ op = 9 ∨ op = 10 ∨ op = 13
  · rw [if_pos h1] at h ⊢
    by_cases h2 : t = 2 ∨ t = 3
    · rw [if_pos h2] at h ⊢; right; omega
    · rw [if_neg h2] at h; exact absurd rfl h
  · rw [if_neg h1] at h ⊢
    by_cases h2 : op = 11
    · rw [if_pos h2] at h ⊢
      by_cases h3 : t = 2
      · rw [if_pos h3] at h ⊢; right; omega
      · rw [if_neg h3] at h; exact absurd rfl h
    · rw [if_neg h2] at h ⊢
      by_cases h3 : op = 12
      · rw [if_pos h3] at h ⊢
        by_cases h4 : t = 4
        · rw [if_pos h4] at h ⊢; left; exact ⟨h3, h4, rfl⟩
        · rw [if_neg h4] at h; exact absurd rfl h
      · rw [if_neg h3] at h ⊢
        by_cases h4 : op = 14
        · rw [if_pos h4] at h ⊢
          right
          refine ⟨?_, .inl h4⟩
          split <;> decide
        · rw [if_neg h4] at h ⊢
          by_cases h5 : op = 15
          · rw [if_pos h5] at h ⊢
            right
            refine ⟨?_, .inr (.inl h5)⟩
            split <;> decide
          · rw [if_neg h5] at h; exact absurd rfl h

theorem ops_of {op : Int} {m : Nat} {ka kb : Int} (hc : cntV op = m) (h0 : m ≠ 0) (ha : ka ≠ 0) (hb : kb ≠ 0) (hT : tyV op m ka kb ≠ 0) (h4 : tyV op m ka kb ≠ 4) :
    op = 14 ∨ op = 15 ∨ (ka = 3 ∧ OpsR op) ∨ (ka ≠ 3 ∧ OpsI op) := by
  rw [ty_non hc h0 ha hb] at hT h4
  by_cases e : kb = ka
  · rw [if_neg (by simp [e])] at hT h4
    rcases one_vals op ka hT with ⟨_, _, g⟩ | ⟨_, g⟩
    · exact absurd g h4
    · rcases g with g | g | ⟨g, q⟩ | ⟨g, q⟩
      · exact .inl g
      · exact .inr (.inl g)
      · exact .inr (.inr (.inl ⟨g, q⟩))
      · exact .inr (.inr (.inr ⟨by omega, q⟩))
  · rw [if_pos e] at hT
    exact absurd rfl hT

theorem ty1_not4 {op : Int} (hc : cntV op = 1) {ka : Int} (ha : ka ≠ 0) : tyV op 1 ka ka ≠ 4 := by
  rw [ty_non hc (by decide) ha ha, if_neg (by simp)]
  intro h
  rcases one_vals op ka (by rw [h]; decide) with ⟨g, _, _⟩ | ⟨g, _⟩
  · subst g; exact absurd hc (by decide)
  · exact g h

theorem opd_of {w : World} {b off m : Nat} {kf nf : Nat → Int} {sf : Nat → ByteArray} (h : IsV w b off m kf nf sf) {i : Nat} (hi : i < m) : Opd w b (off + i * 3) (kf i) (nf i) (sf i) := ⟨h.c0 i hi, h.c1 i hi, h.c2 i hi⟩

theorem do_all (op : Int) (A : Option Addr) (b off m cap : Nat) (kf nf : Nat → Int) (sf : Nat → ByteArray) (hm : m ≤ maxLen) (ha : m = 0 ∨ A = some ⟨b, off, none⟩) (hr : ∀ i, i < m → InI (nf i) ∧ (sf i).size ≤ 200) (w : World) (hA : IsV w b off m kf nf sf) (R : Int × Int × ByteArray × Int)
    (hR : doV op m (kf 0) (nf 0) (sf 0) (kf (m - 1)) (nf (m - 1)) (sf (m - 1)) = R) :
    Calls Try.prog 12 #[.int .i64 op, .slice A m cap] w fun e w' => e = .returned (Out R.1 R.2.1 R.2.2.1 R.2.2.2) ∧ Below w.heap.size w w' := by
  by_cases h : m = 0 ∨ cntV op ≠ m
  · have e : R = (0, 0, E0, 30) := by rw [← hR]; unfold doV; rw [if_pos h]
    rw [e]
    exact do_bad op A m cap hm h w
  · have hc : cntV op = m := by omega
    have h12 : m = 1 ∨ m = 2 := by rcases cnt_le op with g | g | g <;> omega
    obtain rfl : A = some ⟨b, off, none⟩ := by rcases ha with g | g; omega; exact g
    have hb := hA.hb (by omega)
    rcases h12 with rfl | rfl
    · have o0 := opd_of hA (i := 0) (by decide)
      rw [Nat.zero_mul, Nat.add_zero] at o0
      obtain ⟨i0, s0⟩ := hr 0 (by decide)
      simp only [Nat.sub_self] at hR
      by_cases z : kf 0 = 0
      · have e : R = (0, 0, E0, 0) := by rw [← hR]; unfold doV; rw [if_neg h, if_pos (.inl z)]
        rw [e]
        exact do1_null0 op b off cap _ _ _ w hb o0 hc z
      · refine do1_full op b off cap _ _ _ w hb o0 hc z i0 i0 _ rfl _ rfl R ?_
        have n4 := ty1_not4 hc z
        rw [← hR]
        unfold doV
        rw [if_neg h, if_neg (by simp [z])]
        by_cases t0 : tyV op 1 (kf 0) (kf 0) = 0
        · left; rw [if_pos t0]; exact ⟨t0, rfl⟩
        · right
          rw [if_neg t0, if_neg n4]
          refine ⟨by simpa using t0, by simpa using n4, ops_of hc (by decide) z z t0 n4, ?_⟩
          by_cases q : (numV op (kf 0) (nf 0) (nf 0)).2 = 0
          · right; rw [if_neg (by simp [q])]; exact ⟨q, rfl⟩
          · left; rw [if_pos q]; exact ⟨by simpa using q, rfl⟩
    · have o0 := opd_of hA (i := 0) (by decide)
      have o1 := opd_of hA (i := 1) (by decide)
      rw [Nat.zero_mul, Nat.add_zero] at o0
      rw [Nat.one_mul] at o1
      obtain ⟨i0, s0⟩ := hr 0 (by decide)
      obtain ⟨i1, s1⟩ := hr 1 (by decide)
      rw [show (2 : Nat) - 1 = 1 from rfl] at hR
      by_cases z : kf 0 = 0
      · have e : R = (0, 0, E0, 0) := by rw [← hR]; unfold doV; rw [if_neg h, if_pos (.inl z)]
        rw [e]
        exact do2_null0 op b off cap _ _ _ _ _ _ w hb o0 o1 hc z
      · by_cases z1 : kf 1 = 0
        · have e : R = (0, 0, E0, 0) := by rw [← hR]; unfold doV; rw [if_neg h, if_pos (.inr z1)]
          rw [e]
          exact do2_null1 op b off cap _ _ _ _ _ _ w hb o0 o1 hc z z1
        · refine do2_full op b off cap _ _ _ _ _ _ w hb o0 o1 hc z z1 i0 i1 s0 s1 _ rfl _ rfl R ?_
          rw [← hR]
          unfold doV
          rw [if_neg h, if_neg (by simp [z, z1])]
          by_cases t0 : tyV op 2 (kf 0) (kf 1) = 0
          · left; rw [if_pos t0]; exact ⟨t0, rfl⟩
          · right
            rw [if_neg t0]
            by_cases t4 : tyV op 2 (kf 0) (kf 1) = 4
            · rw [if_pos t4]
              by_cases l : 200 < (sf 0).size + (sf 1).size
              · left; rw [if_pos l]; exact ⟨t4, l, rfl⟩
              · right; left; rw [if_neg l]; exact ⟨t4, by omega, rfl⟩
            · right; right
              rw [if_neg t4]
              refine ⟨by simpa using t0, by simpa using t4, ops_of hc (by decide) z z1 t0 t4, ?_⟩
              by_cases q : (numV op (kf 0) (nf 0) (nf 1)).2 = 0
              · right; rw [if_neg (by simp [q])]; exact ⟨q, rfl⟩
              · left; rw [if_pos q]; exact ⟨by simpa using q, rfl⟩

theorem chk_e (n : Int) : (chk n).2 ≠ 30 := by
  unfold chk
  split
  · show (0 : Int) ≠ 30; decide
  · show (31 : Int) ≠ 30; decide
theorem whole_e (op a b : Int) : (wholeV op a b).2 ≠ 30 := by
  unfold wholeV divV modV
  repeat' split
  all_goals first | exact chk_e _ | (show (0 : Int) ≠ 30; decide) | (show (32 : Int) ≠ 30; decide)
theorem num_e (op k a b : Int) : (numV op k a b).2 ≠ 30 := by
  unfold numV
  by_cases h1 : op = 14
  · rw [if_pos h1]; unfold tiV; split
    · show (if tbad (ub a) then (10 : Int) else 0) ≠ 30
      split <;> decide
    · show (0 : Int) ≠ 30; decide
  · rw [if_neg h1]
    by_cases h2 : op = 15
    · rw [if_pos h2]; show (0 : Int) ≠ 30; decide
    · rw [if_neg h2]
      by_cases h3 : k = 3
      · rw [if_pos h3]; show (0 : Int) ≠ 30; decide
      · rw [if_neg h3]; exact whole_e op a b

theorem do_sound (op : Int) (m : Nat) (ka na : Int) (sa : ByteArray) (kb nb : Int) (sb : ByteArray) (hT : tyV op m ka kb ≠ 0) (R : Int × Int × ByteArray × Int) (hR : doV op m ka na sa kb nb sb = R) :
    R.2.2.2 ≠ 30 ∧ (R.2.2.2 ≠ 0 ∨ R.1 = 0 ∨ R.1 = tyV op m ka kb) := by
  have hc : ¬ (m = 0 ∨ cntV op ≠ m) := by
    intro h
    exact hT (ty_bad ka kb h)
  rw [← hR]
  unfold doV
  rw [if_neg hc]
  by_cases z : ka = 0 ∨ kb = 0
  · rw [if_pos z]; exact ⟨by decide, .inr (.inl rfl)⟩
  · rw [if_neg z, if_neg hT]
    by_cases t4 : tyV op m ka kb = 4
    · rw [if_pos t4, t4]
      by_cases l : 200 < sa.size + sb.size
      · rw [if_pos l]; exact ⟨by decide, .inr (.inl rfl)⟩
      · rw [if_neg l]; exact ⟨by show (0 : Int) ≠ 30; decide, .inr (.inr rfl)⟩
    · rw [if_neg t4]
      have hn := num_e op ka na nb
      by_cases q : (numV op ka na nb).2 = 0
      · rw [if_neg (by simp [q])]; exact ⟨by show (0 : Int) ≠ 30; decide, .inr (.inr rfl)⟩
      · rw [if_pos q]; exact ⟨hn, .inl q⟩

/-- a list of values that came in, with its bounds -/
theorem open_vals2 {H : Type} {enc : TypeId × Value → H} {W : World} {base b0 : Nat} {r : Reach} {v : Value} {d : DataW H} {p : List MemPlace}
    (o : Value.okWide Try.prog W r b0 23 v) (h : DataW.Trod enc Try.prog W base (fun _ => true) true 23 v d p) :
    ∃ (a : Option Addr) (len cap b off : Nat) (kf nf : Nat → Int) (sf : Nat → ByteArray), v = .slice a len cap ∧ len ≤ cap ∧ cap ≤ maxLen ∧ (len = 0 ∨ a = some ⟨b, off, none⟩) ∧ IsV W b off len kf nf sf ∧
      (∀ i, i < len → InI (nf i) ∧ (sf i).size ≤ maxLen) ∧
      ((d = .nil ∧ len = 0) ∨ ∃ es sp, d = .slice es sp ∧ es.length + sp.length = cap) := by
  obtain ⟨a, len, cap, b, off, kf, nf, sf, rfl, h1, h2, h3, h4, h5⟩ := open_vals o h
  refine ⟨a, len, cap, b, off, kf, nf, sf, rfl, h1, h2, h3, h4, ?_, h5⟩
  obtain ⟨fuel, hf⟩ := h
  rcases Go.Deep.open_slice Try.underlying23 hf with ⟨hcs, hx⟩ | ⟨a', len', cap', m, n, D, Pl, hcs, hb, hl, hm, hmm, hx, hi⟩
  · simp [Value.cells] at hcs
    obtain ⟨rfl, rfl, rfl⟩ := hcs
    intro i hi
    exact absurd hi (by omega)
  · simp [Value.cells] at hcs
    obtain ⟨rfl, rfl, rfl⟩ := hcs
    simp only [if_true] at hmm
    subst hmm
    rw [cellsV] at hi
    intro i hil
    obtain rfl : a' = ⟨b, off, none⟩ := by
      rcases h3 with g | g
      · omega
      · injection g
    have ea : ∀ j, (⟨b, off, none⟩ : Addr).add j = ⟨b, off + j, none⟩ := by intro j; unfold Addr.add; split <;> simp_all
    obtain ⟨cs', hc, ht⟩ := hi i (by omega)
    obtain ⟨y0, y1, y2, n', -, hlen, g0, g1, g2⟩ := Go.Deep.trod_struct3 Try.underlying25 ht
    rw [cellsV] at hlen
    obtain ⟨_, hcl, hat⟩ := World.cells?_some hc
    match cs', hlen with
    | [c0, c1, c2], _ =>
      obtain ⟨k, e0, -, -⟩ := DataW.trod_int Try.underlying3 g0
      obtain ⟨q, e1, -, wq⟩ := DataW.trod_int Try.underlying2 g1
      obtain ⟨s, e2, -, ws⟩ := DataW.trod_string Try.underlying9 g2
      simp [cells_int, cells_int64, cells_string] at e0 e1 e2
      subst e0 e1 e2
      have u1 := hat 1 (by decide)
      have u2 := hat 2 (by decide)
      rw [Go.Deep.add_add, ea, ← Nat.add_assoc] at u1 u2
      have v1 := h4.c1 i hil
      have v2 := h4.c2 i hil
      rw [u1] at v1
      rw [u2] at v2
      simp at v1 v2
      rw [← v1, ← v2]
      exact ⟨bounds_i64 wq, ws⟩

theorem vcheck_0 {k n : Int} {s : ByteArray} (h : VCheck k n s = 0) : 0 ≤ k ∧ k ≤ 4 ∧ RightNum k n = true ∧ (k ≠ 4 → s.toList = []) ∧ s.size ≤ 200 := by
  unfold VCheck at h
  by_cases h1 : k < 0 ∨ 4 < k
  · rw [if_pos h1] at h; exact absurd h (by decide)
  · rw [if_neg h1] at h
    by_cases h2 : RightNum k n = false
    · rw [if_pos h2] at h; exact absurd h (by decide)
    · rw [if_neg h2] at h
      by_cases h3 : k ≠ 4 ∧ s.toList ≠ []
      · rw [if_pos h3] at h; exact absurd h (by decide)
      · rw [if_neg h3] at h
        by_cases h4 : 200 < s.size
        · rw [if_pos h4] at h; exact absurd h (by decide)
        · exact ⟨by omega, by omega, by simpa using h2, fun g => by simpa [g] using h3, by omega⟩

end Go.Proofs.Ytceingfjdkpolaa
