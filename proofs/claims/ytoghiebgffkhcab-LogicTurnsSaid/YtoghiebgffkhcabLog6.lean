/-
  Contracts over the translation: lists of verdicts let a row through or not, by package logic and by the document's answer.
  Conditions: the lists lie in memory.
-/
import Derived.Test.YtoghiebgffkhcabLog5
import Derived.OwnWalk
import Derived.Laws.AppendOwn
import Derived.Laws.AppendOwnNone
import Derived.Laws.OwnMore
import Derived.Deep.AppendLies
import Derived.Deep.DeepMust
namespace Go.Proofs.Ytoghiebgffkhcab
open Go.RowKit Go.Joins Go.ChangeShapes Go.WideShapes
set_option linter.unusedVariables false

/-- a list of verdicts in memory, by its truths and errors -/
structure IsD (w : World) (b off len : Nat) (tf ef : Nat → Int) : Prop where
  hb : 0 < len → b < w.heap.size
  c0 : ∀ i, i < len → w.cell? ⟨b, off + i * 2, none⟩ = some (.int .i64 (tf i))
  c1 : ∀ i, i < len → w.cell? ⟨b, off + i * 2 + 1, none⟩ = some (.int .i64 (ef i))

theorem IsD.below {w w' : World} {b off len : Nat} {tf ef : Nat → Int} (h : IsD w b off len tf ef) (hw : Below w.heap.size w w') : IsD w' b off len tf ef := by
  obtain ⟨hc, _⟩ := bcell hw
  refine ⟨fun hl => Nat.lt_of_lt_of_le (h.hb hl) hw.size, fun i hi => ?_, fun i hi => ?_⟩
  · rw [hc _ _ (h.hb (by omega))]; exact h.c0 i hi
  · rw [hc _ _ (h.hb (by omega))]; exact h.c1 i hi

theorem ret_b2 {a b : Bool} {c d : Int} (h : a = b) (g : c = d) : Ending.returned (.tuple #[.bool a, .int .i64 c]) = .returned (.tuple #[.bool b, .int .i64 d]) := by rw [h, g]

theorem vs_unk {n : Nat} {tf ef : Nat → Int} (h : ∀ i, i < n → unk (tf i, ef i) = false) : AllIs (vs n tf ef) := all2_vs n tf ef h

theorem kp_all (w : World) : Rg w.heap.size w (w.alloc (Bx 1 0)) [Cl w.heap.size 0 1, Cl w.heap.size 1 0] := by
  refine ⟨(Below.refl _ _).alloc (Nat.le_refl _) _, by simp, ?_⟩
  unfold Kp
  simp only [List.forall_mem_cons, List.not_mem_nil, false_implies, implies_true, and_true]
  go_simp

theorem all_set {B h : Nat} {w w1 : World} {A E : Int} (A' E' : Int) (r : Rg B w w1 [Cl h 0 A, Cl h 1 E]) (hB : B ≤ h) :
    Rg B w ((w1.setCell ⟨h, 0, none⟩ (.int .i64 A')).setCell ⟨h, 1, none⟩ (.int .i64 E')) [Cl h 0 A', Cl h 1 E'] := by
  have r1 := r.set (u := .int .i64 A') hB (by simp)
  have r2 := (r1.turn).set (u := .int .i64 E') hB (by simp)
  exact r2.sub fun x hx => by
    simp only [List.mem_cons, List.not_mem_nil, or_false] at hx
    rcases hx with h | h <;> simp [h]

theorem all_form {l : List (Int × Int)} {A E : Int} (h : AllIs l) (he : (A, E) = all2 l) : A = 0 ∨ (A = 1 ∧ E = 0) := by
  rcases h with ⟨_, y⟩ | ⟨_, _, y⟩ | ⟨_, _, y⟩ <;> rw [y] at he <;> simp at he <;> omega
theorem unk_u {t : Int} (h1 : (t == 0) = false) (h2 : (t == 1) = false) : unk (t, 0) = true := by
  have a : ¬ t = 0 := by simpa using h1
  have b : ¬ t = 1 := by simpa using h2
  simp [unk, a, b]
theorem unk_e {t e : Int} (h1 : (e == 0) = false) : unk (t, e) = false := by
  have a : ¬ e = 0 := by simpa using h1
  simp [unk, a]

theorem sieve_step {n : Nat} {tf ef : Nat → Int} {t e A E : Int} (ht : tf n = t) (he : ef n = e) (h : (A, E) = all2 (vs n tf ef)) : (aT A E t e, aE A E t e) = all2 (vs (n + 1) tf ef) := by
  rw [vs_succ, all2_snoc, ← h, ht, he]
theorem unk_step {n : Nat} {tf ef : Nat → Int} (h : ∀ i, i < n → unk (tf i, ef i) = false) (hn : unk (tf n, ef n) = false) : ∀ i, i < n + 1 → unk (tf i, ef i) = false := by
  intro i hi
  by_cases c : i < n
  · exact h i c
  · obtain rfl : i = n := by omega
    exact hn

set_option maxHeartbeats 2000000 in
theorem sieve_any (a : Option Addr) (m cap b off : Nat) (tf ef : Nat → Int) (hm : m ≤ maxLen) (w : World)
    (ha : m = 0 ∨ a = some ⟨b, off, none⟩) (hA : IsD w b off m tf ef) :
    Calls Try.prog 16 #[.slice a m cap] w fun x w' => x = .returned (.tuple #[.bool (sB (vs m tf ef)), .int .i64 (sE (vs m tf ef))]) ∧ Below w.heap.size w w' := by
  have hm' : m ≤ 9223372036854775807 := by unfold maxLen at hm; omega
  have hp := fun t e w => plain_any t e w
  have hn := fun t e t' e' w => and_any t e t' e' w
  unfold Dv at hp hn
  have HP := Lib.hid hp
  have HN := Lib.hid hn
  have HA := Lib.hid ha
  clear hm hp hn ha
  go_enter Try.func16, Try.ntmps16
  go_wp2_with fail
  have k0 := kp_all w
  generalize w.alloc (Bx 1 0) = wb at *
  go_loopw [10] (fun i wr => ∃ (k : Nat) (A E : Int), k ≤ m ∧ i = .int .i64 k ∧ Hid ((A, E) = all2 (vs k tf ef)) ∧ Hid (∀ i, i < k → unk (tf i, ef i) = false) ∧ Rg w.heap.size w wr [Cl w.heap.size 0 A, Cl w.heap.size 1 E]) (fun i _ => m - (intOf i).toNat)
  case atStart => exact ⟨0, 1, 0, Nat.zero_le _, rfl, rfl, fun i hi => absurd hi (by omega), k0⟩
  case round =>
    obtain ⟨k, A, E, hk, rfl, HE, HU, hr⟩ := hrel
    by_cases hlt : k < m
    · obtain rfl : a = some ⟨b, off, none⟩ := by rcases HA.out with h | h; omega; exact h
      have hA' := hA.below hr.bel
      have a0 := hA'.c0 k hlt
      have a1 := hA'.c1 k hlt
      have hkm : (k : Int) < (m : Int) := by omega
      obtain ⟨t, ht⟩ : ∃ t, tf k = t := ⟨_, rfl⟩
      obtain ⟨e, he⟩ : ∃ e, ef k = e := ⟨_, rfl⟩
      rw [ht] at a0
      rw [he] at a1
      have HT := Lib.hid ht
      have HS := Lib.hid he
      have HR := Lib.hid hr
      clear ht he hA' hr
      rcases kinds t e with ⟨rfl, rfl⟩ | ⟨rfl, rfl⟩ | ⟨⟨h1, h2, h3, h4⟩, rfl⟩ | ⟨h1, h2⟩
      · have HV := Lib.hid (unk_step HU.out (by rw [HT.out, HS.out]; exact by decide))
        go_wp2_with fail
        refine (HP.out _ _ _).mono ?_
        rintro x w1 ⟨rfl, hb1⟩
        rw [show pT 0 0 = 0 from rfl]
        obtain ⟨hc, hf⟩ := bcell hb1
        have r1 := Lib.hid ((HR.out.alloc _).step hb1)
        obtain ⟨⟨c0, f0⟩, c1, f1⟩ := r1.out.kp.two
        have hz := hb1.size
        clear a0 a1
        go_wp2_with fail
        refine (HN.out _ _ _ _ _).mono ?_
        rintro x w2 ⟨rfl, hb2⟩
        have r2 := Lib.hid (r1.out.step hb2)
        clear hc hf c0 f0 c1 f1
        obtain ⟨⟨c0, f0⟩, c1, f1⟩ := r2.out.kp.two
        go_wp2
        go_roundw
        case rel => exact ⟨k + 1, _, _, by omega, by go_num, Lib.hid (sieve_step HT.out HS.out HE.out), HV, all_set _ _ r2.out (Nat.le_refl _)⟩
        case measure => simp [intOf]; omega
      · have HV := Lib.hid (unk_step HU.out (by rw [HT.out, HS.out]; exact by decide))
        go_wp2_with fail
        refine (HP.out _ _ _).mono ?_
        rintro x w1 ⟨rfl, hb1⟩
        rw [show pT 1 0 = 1 from rfl]
        obtain ⟨hc, hf⟩ := bcell hb1
        have r1 := Lib.hid ((HR.out.alloc _).step hb1)
        obtain ⟨⟨c0, f0⟩, c1, f1⟩ := r1.out.kp.two
        have hz := hb1.size
        clear a0 a1
        go_wp2_with fail
        refine (HN.out _ _ _ _ _).mono ?_
        rintro x w2 ⟨rfl, hb2⟩
        have r2 := Lib.hid (r1.out.step hb2)
        clear hc hf c0 f0 c1 f1
        obtain ⟨⟨c0, f0⟩, c1, f1⟩ := r2.out.kp.two
        go_wp2
        go_roundw
        case rel => exact ⟨k + 1, _, _, by omega, by go_num, Lib.hid (sieve_step HT.out HS.out HE.out), HV, all_set _ _ r2.out (Nat.le_refl _)⟩
        case measure => simp [intOf]; omega
      · obtain ⟨v1, v2⟩ := sieve_unk (vs m tf ef) (vs_any (f := unk) hlt (by rw [HT.out, HS.out]; exact unk_u h1 h2))
        have V1 := Lib.hid v1.symm
        have V2 := Lib.hid v2.symm
        clear v1 v2
        go_wp2_with fail
        refine (HP.out _ _ _).mono ?_
        rintro x w1 ⟨rfl, hb1⟩
        rw [pT_u h1 h2]
        have r1 := Lib.hid ((HR.out.alloc _).step hb1)
        clear a0 a1
        go_wp2
        go_ret2
        exact ⟨ret_b2 V1.out V2.out, r1.out.bel⟩
      · have HV := Lib.hid (unk_step HU.out (by rw [HT.out, HS.out]; exact unk_e h1))
        go_wp2_with fail
        refine (HP.out _ _ _).mono ?_
        rintro x w1 ⟨rfl, hb1⟩
        rw [pT_e h1]
        obtain ⟨hc, hf⟩ := bcell hb1
        have r1 := Lib.hid ((HR.out.alloc _).step hb1)
        obtain ⟨⟨c0, f0⟩, c1, f1⟩ := r1.out.kp.two
        have hz := hb1.size
        clear a0 a1
        go_wp2_with fail
        refine (HN.out _ _ _ _ _).mono ?_
        rintro x w2 ⟨rfl, hb2⟩
        have r2 := Lib.hid (r1.out.step hb2)
        clear hc hf c0 f0 c1 f1
        obtain ⟨⟨c0, f0⟩, c1, f1⟩ := r2.out.kp.two
        go_wp2
        go_roundw
        case rel => exact ⟨k + 1, _, _, by omega, by go_num, Lib.hid (sieve_step HT.out HS.out HE.out), HV, all_set _ _ r2.out (Nat.le_refl _)⟩
        case measure => simp [intOf]; omega
    · obtain rfl : k = m := by omega
      obtain ⟨v1, v2⟩ := sieve_all (vs k tf ef) (vs_unk HU.out)
      have hAE := all_form (vs_unk HU.out) HE.out
      rw [← HE.out] at v1 v2
      have V1 := Lib.hid v1.symm
      have V2 := Lib.hid v2.symm
      have bl := hr.bel
      obtain ⟨⟨c0, f0⟩, c1, f1⟩ := hr.kp.two
      clear v1 v2 hr
      rcases hAE with rfl | ⟨rfl, rfl⟩
      all_goals
        go_wp2
        go_quiet (fail)
        go_wp2
        go_ret2
        exact ⟨ret_b2 V1.out V2.out, bl.trans ⟨rfl, rfl, rfl, Nat.le_refl _, fun _ _ => rfl⟩⟩

theorem refmark_out {t e : Int} (h : mk t e = 0 ∨ mk t e = 2) : out (t, e) = true := by
  rcases kinds t e with ⟨rfl, rfl⟩ | ⟨rfl, rfl⟩ | ⟨⟨h1, h2, h3, h4⟩, rfl⟩ | ⟨h1, h2⟩
  · decide
  · exact absurd h (by decide)
  · have a : ¬ t = 1 := by simpa using h2
    simp [out, a]
  · rw [mk_e h1] at h; exact absurd h (by decide)
theorem out_f {t e : Int} (h : ¬ (mk t e = 0 ∨ mk t e = 2)) : out (t, e) = false := by
  rcases kinds t e with ⟨rfl, rfl⟩ | ⟨rfl, rfl⟩ | ⟨⟨h1, h2, h3, h4⟩, rfl⟩ | ⟨h1, h2⟩
  · exact absurd (.inl rfl) h
  · decide
  · rw [mk_u h1 h2] at h; exact absurd (.inr rfl) h
  · have a : ¬ e = 0 := by simpa using h1
    simp [out, a]
theorem vs_out {n : Nat} {tf ef : Nat → Int} (h : ∀ i, i < n → out (tf i, ef i) = false) : (vs n tf ef).any out = false := by
  rw [Bool.eq_false_iff]
  intro hc
  obtain ⟨x, hx, hf⟩ := List.any_eq_true.1 hc
  obtain ⟨i, hi, rfl⟩ := List.mem_map.1 hx
  rw [h i (List.mem_range.1 hi)] at hf
  exact absurd hf (by decide)
theorem out_step {n : Nat} {tf ef : Nat → Int} (h : ∀ i, i < n → out (tf i, ef i) = false) (hn : out (tf n, ef n) = false) : ∀ i, i < n + 1 → out (tf i, ef i) = false := by
  intro i hi
  by_cases c : i < n
  · exact h i c
  · obtain rfl : i = n := by omega
    exact hn
theorem sieve_out {l : List (Int × Int)} (h : l.any out = true) : sB l = false ∧ sE l = 0 := by unfold sB sE; rw [h]; exact ⟨rfl, rfl⟩
theorem sieve_in {l : List (Int × Int)} (h : l.any out = false) : sB l = (errs l == 0) ∧ sE l = errs l := by unfold sB sE; rw [h]; exact ⟨rfl, rfl⟩

set_option maxHeartbeats 2000000 in
theorem refsieve_any (a : Option Addr) (m cap b off : Nat) (tf ef : Nat → Int) (hm : m ≤ maxLen) (w : World)
    (ha : m = 0 ∨ a = some ⟨b, off, none⟩) (hA : IsD w b off m tf ef) :
    Calls Try.prog 17 #[.slice a m cap] w fun x w' => x = .returned (.tuple #[.bool (sB (vs m tf ef)), .int .i64 (sE (vs m tf ef))]) ∧ Below w.heap.size w w' := by
  have hm' : m ≤ 9223372036854775807 := by unfold maxLen at hm; omega
  have hp := fun t e w => mark_any t e w
  unfold Dv at hp
  have HP := Lib.hid hp
  have HN := Lib.hid (fun x y w => refworse_any x y w)
  have HA := Lib.hid ha
  clear hm hp ha
  go_enter Try.func17, Try.ntmps17
  go_wp2_with fail
  go_loopw [5] (fun i wr => ∃ (k : Nat), k ≤ m ∧ i = .int .i64 k ∧ Hid (∀ i, i < k → out (tf i, ef i) = false) ∧ Below w.heap.size w wr) (fun i _ => m - (intOf i).toNat)
  case atStart => exact ⟨0, Nat.zero_le _, rfl, fun i hi => absurd hi (by omega), Below.refl _ _⟩
  case round =>
    obtain ⟨k, hk, rfl, HU, hr⟩ := hrel
    by_cases hlt : k < m
    · obtain rfl : a = some ⟨b, off, none⟩ := by rcases HA.out with h | h; omega; exact h
      have hA' := hA.below hr
      have a0 := hA'.c0 k hlt
      have a1 := hA'.c1 k hlt
      have hkm : (k : Int) < (m : Int) := by omega
      obtain ⟨t, ht⟩ : ∃ t, tf k = t := ⟨_, rfl⟩
      obtain ⟨e, he⟩ : ∃ e, ef k = e := ⟨_, rfl⟩
      rw [ht] at a0
      rw [he] at a1
      have HT := Lib.hid ht
      have HS := Lib.hid he
      clear ht he hA'
      have h4 := mk_lt t e
      by_cases hmk : mk t e = 0 ∨ mk t e = 2
      · obtain ⟨v1, v2⟩ := sieve_out (l := vs m tf ef) (vs_any (f := out) hlt (by rw [HT.out, HS.out]; exact refmark_out hmk))
        have V1 := Lib.hid v1.symm
        have V2 := Lib.hid v2.symm
        clear v1 v2
        go_wp2_with fail
        refine (HP.out _ _ _).mono ?_
        rintro x w1 ⟨rfl, hb1⟩
        have bl := hr.trans (hb1.mono hr.size)
        clear a0 a1 hb1
        rcases hmk with h | h
        all_goals
          rw [h]
          clear h h4
          go_wp2
          go_ret2
          exact ⟨ret_b2 V1.out V2.out, bl⟩
      · have HV := Lib.hid (out_step HU.out (by rw [HT.out, HS.out]; exact out_f hmk))
        have hmk2 : mk t e = 1 ∨ mk t e = 3 := by omega
        go_wp2_with fail
        refine (HP.out _ _ _).mono ?_
        rintro x w1 ⟨rfl, hb1⟩
        have bl := hr.trans (hb1.mono hr.size)
        clear a0 a1 hb1 hmk
        rcases hmk2 with h | h
        all_goals
          rw [h]
          clear h h4
          go_wp2
          go_roundw
          case rel => exact ⟨k + 1, by omega, by go_num, HV, bl⟩
          case measure => simp [intOf]; omega
    · obtain rfl : k = m := by omega
      obtain ⟨v1, v2⟩ := sieve_in (l := vs k tf ef) (vs_out HU.out)
      have V1 := Lib.hid v1.symm
      have V2 := Lib.hid v2.symm
      clear v1 v2
      obtain ⟨wo, rfl⟩ : ∃ wo : World, wo = wr := ⟨_, rfl⟩
      go_wp2
      go_loopw [7, 4] (fun i c wr => ∃ (j : Nat) (C : Int), j ≤ k ∧ i = .int .i64 j ∧ c = .int .i64 C ∧ Hid (C = errs (vs j tf ef)) ∧ Below w.heap.size w wr) (fun i _ _ => k - (intOf i).toNat)
      case atStart => exact ⟨0, 0, Nat.zero_le _, rfl, rfl, rfl, hr⟩
      case round =>
        obtain ⟨j, C, hj, rfl, rfl, HC, hr2⟩ := hrel
        by_cases hlt2 : j < k
        · obtain rfl : a = some ⟨b, off, none⟩ := by rcases HA.out with h | h; omega; exact h
          have hA' := hA.below hr2
          have a1 := hA'.c1 j hlt2
          have hkm : (j : Int) < (k : Int) := by omega
          obtain ⟨e, he⟩ : ∃ e, ef j = e := ⟨_, rfl⟩
          rw [he] at a1
          have HS := Lib.hid (show W2 C e = errs (vs (j + 1) tf ef) by rw [vs_succ, errs_snoc, ← HC.out, he])
          clear he hA'
          go_wp2_with (go_at_call 15; refine (HN.out _ _ _).mono ?_; rintro x w' ⟨rfl, rfl⟩)
          go_roundw
          case rel => exact ⟨j + 1, _, by omega, by go_num, rfl, HS, hr2⟩
          case measure => simp [intOf]; omega
        · obtain rfl : j = k := by omega
          have V1' := Lib.hid (show (C == 0) = sB (vs j tf ef) by rw [HC.out]; exact V1.out)
          have V2' := Lib.hid (show C = sE (vs j tf ef) by rw [HC.out]; exact V2.out)
          obtain ⟨d, hd⟩ : ∃ d, (C == 0) = d := ⟨_, rfl⟩
          have V3 := Lib.hid (show d = sB (vs j tf ef) by rw [← hd]; exact V1'.out)
          cases d
          all_goals
            go_wp2
            go_ret2
            exact ⟨ret_b2 V3.out V2'.out, hr2⟩

end Go.Proofs.Ytoghiebgffkhcab
