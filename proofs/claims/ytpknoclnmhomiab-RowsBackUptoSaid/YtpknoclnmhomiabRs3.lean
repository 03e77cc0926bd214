/-
  Package rows over the translation: Encode.
  Conditions: the lists lie in memory; the row's texts are not too long.
-/
import Derived.Test.YtpknoclnmhomiabRs2
import Derived.Test.YtpknoclnmhomiabRow7
import Derived.OwnWalk
namespace Go.Proofs.Ytpknoclnmhomiab
open Go.RowKit Go.Joins Go.ChangeShapes Go.WideShapes
set_option linter.unusedVariables false

/-! bits, one more value -/
theorem bitsAt_more (kf : Nat → Int) (k i : Nat) : ∀ c, bitsAt kf (k + 1) i c = bitsAt kf k i c + (if i ≤ k ∧ k < i + c ∧ kf k = 0 then 2 ^ (k - i) else 0)
  | 0 => by
    unfold bitsAt
    rw [if_neg (by omega)]
  | c + 1 => by
    unfold bitsAt
    rw [bitsAt_more kf k i c]
    by_cases h : i + c = k
    · subst h
      rw [if_neg (by omega), Nat.add_sub_cancel_left]
      by_cases z : kf (i + c) = 0
      · rw [if_pos ⟨by omega, z⟩, if_neg (by omega), if_pos ⟨by omega, by omega, z⟩]
      · rw [if_neg (fun e => z e.2), if_neg (by omega), if_neg (fun e => z e.2.2)]
    · have h1 : (i ≤ k ∧ k < i + (c + 1) ∧ kf k = 0) ↔ (i ≤ k ∧ k < i + c ∧ kf k = 0) := by
        constructor <;> rintro ⟨x, y, z⟩ <;> exact ⟨x, by omega, z⟩
      have h2 : (i + c < k + 1 ∧ kf (i + c) = 0) ↔ (i + c < k ∧ kf (i + c) = 0) := by
        constructor <;> rintro ⟨x, y⟩ <;> exact ⟨by omega, y⟩
      simp only [h1, h2]
      exact Nat.add_right_comm _ _ _
theorem rbits_same (kf : Nat → Int) (k : Nat) (h : kf k ≠ 0) : ∀ q, rbits kf (k + 1) q = rbits kf k q
  | 0 => rfl
  | q + 1 => by
    unfold rbits
    rw [rbits_same kf k h q, bitsAt_more, if_neg (fun e => h e.2.2), Nat.add_zero]
theorem rbits_far (kf : Nat → Int) (k : Nat) : ∀ q, q ≤ k / 8 → rbits kf (k + 1) q = rbits kf k q
  | 0, _ => rfl
  | q + 1, h => by
    unfold rbits
    rw [rbits_far kf k q (by omega), bitsAt_more, if_neg (by omega), Nat.add_zero]
theorem rbits_set (kf : Nat → Int) (k : Nat) (h : kf k = 0) : ∀ q, k / 8 < q → rbits kf (k + 1) q = (rbits kf k q).set (k / 8) (bitsAt kf k (8 * (k / 8)) 8 + 2 ^ (k % 8))
  | 0, hq => absurd hq (by omega)
  | q + 1, hq => by
    have hl := rbits_length kf k q
    unfold rbits
    by_cases c : k / 8 < q
    · rw [rbits_set kf k h q c, bitsAt_more, if_neg (by omega), Nat.add_zero, List.set_append_left _ _ (by omega)]
    · obtain rfl : q = k / 8 := by omega
      rw [rbits_far kf k _ (Nat.le_refl _), bitsAt_more, if_pos ⟨by omega, by omega, h⟩, List.set_append_right _ _ (by omega), hl, Nat.sub_self, show k - 8 * (k / 8) = k % 8 by omega]
      rfl
theorem or_bit : ∀ x : Fin 256, ∀ r : Fin 8, x.1 / 2 ^ r.1 % 2 = 0 → x.1 ||| 2 ^ r.1 = x.1 + 2 ^ r.1 := by decide +kernel
theorem or_bit8 (x r : Nat) (hx : x < 256) (hr : r < 8) (h : x / 2 ^ r % 2 = 0) : bits .or .u8 (x : Int) ((2 ^ r : Nat) : Int) = ((x + 2 ^ r : Nat) : Int) := by
  have hp : 2 ^ r < 256 := Nat.lt_of_lt_of_le (Nat.pow_lt_pow_right (by decide) hr) (by decide)
  have ho : x ||| 2 ^ r = x + 2 ^ r := or_bit ⟨x, hx⟩ ⟨r, hr⟩ h
  clear h
  generalize 2 ^ r = p at *
  rw [u8_or (x : Int) (p : Int) (by omega) (by omega) (by omega) (by omega), Int.toNat_natCast, Int.toNat_natCast, ho]
theorem bits_free (kf : Nat → Int) (k : Nat) : bitsAt kf k (8 * (k / 8)) 8 / 2 ^ (k % 8) % 2 = 0 := by
  rw [bitsAt_bit kf k (8 * (k / 8)) (k % 8) 8 (Nat.mod_lt _ (by decide)), if_neg (by omega)]
theorem zeros (q : Nat) : ∀ kf : Nat → Int, bcells (rbits kf 0 q) = (madeCells (Value.int .u8 0).cells (q * 1)).toList := by
  intro kf
  have h : ∀ j, rbits kf 0 j = List.replicate j 0 := by
    intro j
    induction j with
    | zero => rfl
    | succ j ih =>
      unfold rbits
      have hz : bitsAt kf 0 (8 * j) 8 = 0 := by
        have := bitsAt_end kf 0 (8 * j) 0 (by omega) 8
        rw [Nat.zero_add] at this
        exact this
      rw [ih, hz, List.replicate_succ']
  rw [h]
  unfold bcells
  apply List.ext_getElem
  · simp [madeCells]
  · intro i h1 h2
    simp [madeCells]
    show _ = (#[Value.int IntKind.u8 0] : Array Value)[i % 1]!
    rw [Nat.mod_one]
    rfl

/-- a byte of the call's own row is written -/
theorem Eo.set {W w : World} {B g n cap : Nat} {l : List Nat} (h : Eo W w B (.slice (some ⟨g, 0, none⟩) n cap) l) (hn : l.length = n) (j x : Nat) : Eo W (w.setCell ⟨g, j, none⟩ (.int .u8 (x : Int))) B (.slice (some ⟨g, 0, none⟩) n cap) (l.set j x) := by
  obtain ⟨ho, hb, hs⟩ := h
  have hg : B ≤ g := (ho.lt g rfl).1
  rw [hn] at ho
  obtain ⟨s1, s2⟩ := ho.stored j (.int .u8 (x : Int))
  refine ⟨?_, hb.setCell (p := ⟨g, j, none⟩) hg _, by simpa [World.setCell] using hs⟩
  rw [List.length_set, hn]
  have e : bcells (l.set j x) = (bcells l).set j (.int .u8 (x : Int)) := by unfold bcells; rw [List.map_set]
  rw [e]
  exact s1
theorem Eo.cell {W w : World} {B g n cap : Nat} {l : List Nat} (h : Eo W w B (.slice (some ⟨g, 0, none⟩) n cap) l) (j x : Nat) (hx : l[j]? = some x) : w.cell? ⟨g, j, none⟩ = some (.int .u8 (x : Int)) ∧ w.frozen? ⟨g, j, none⟩ = false := by
  have hc := h.own
  rcases hc.2 with ⟨e, _⟩ | ⟨g', cap', cur, e, hb, hg, hn, hcp, hs, ht⟩
  · cases e
  · injection e with e1 e2 e3
    injection e1 with e1
    injection e1 with e1
    subst e1
    refine ⟨?_, unfrozen_of_block hg j⟩
    rw [cell_of_block hg j]
    have hj : (bcells l)[j]? = some (.int .u8 (x : Int)) := by simp only [bcells, List.getElem?_map, hx, Option.map_some]
    rw [← ht, List.getElem?_take] at hj
    split at hj
    · rw [← Array.getElem?_toList]; exact hj
    · cases hj

set_option maxRecDepth 100000 in
set_option maxHeartbeats 4000000 in
theorem enc_r (a a' : Option Addr) (b off m cap b' off' n cap' : Nat) (mf : Nat → ByteArray) (tf : Nat → Int) (qf : Nat → Bool) (kf nf : Nat → Int) (sf : Nat → ByteArray) (hm : m ≤ 4194304) (hn : n ≤ 4194304) (w : World)
    (ha : m = 0 ∨ a = some ⟨b, off, none⟩) (ha' : n = 0 ∨ a' = some ⟨b', off', none⟩) (hA : IsC w b off m mf tf qf) (hB : IsV w b' off' n kf nf sf)
    (hr : ∀ i, i < n → InI (nf i) ∧ (sf i).size ≤ 1048576) :
    Calls Try.prog 11 #[.slice a m cap, .slice a' n cap'] w fun e w' => EncR w (fitV m n tf qf kf nf sf) (rowB kf nf sf n) e w' := by
  have hfit := fit_r a a' b off m cap b' off' n cap' mf tf qf kf nf sf hm hn w ha ha' hA hB hr
  by_cases hF : fitV m n tf qf kf nf sf = 0
  · obtain ⟨hmn, hright⟩ := fitV_right hF
    subst hmn
    rw [hF] at hfit ⊢
    generalize hP : (fun (e : Ending) (w' : World) => EncR w 0 (rowB kf nf sf m) e w') = P
    have hpost : ∀ (v : Value) (w' : World), Eo w w' w.heap.size v (rowB kf nf sf m) → P (.returned (.tuple #[v, .int .i64 0])) w' := by
      intro v w' h; rw [← hP]; exact ⟨v, rfl, fun _ => h.outB, fun h => absurd rfl h, h.bel⟩
    have HP := Lib.hid hpost
    have HFIT := Lib.hid hfit
    have HR := Lib.hid (fun i hi => And.intro (hright i hi).1 (hr i hi).1)
    have HBB := Lib.hid (bitbytes_any m (by omega))
    have HAV := Lib.hid rappval_any
    have HA' := Lib.hid ha'
    obtain ⟨q, hq⟩ : ∃ q, (m + 7) / 8 = q := ⟨_, rfl⟩
    rw [hq] at HBB
    have HQ := Lib.hid hq
    have hq1 : q ≤ 524288 := by omega
    have hkn := @vckE
    clear hP hpost hfit hright hr ha' hF hq
    go_enter Try.func11, Try.ntmps11
    go_wp2_with fail
    refine HFIT.out.mono ?_
    rintro e w1 ⟨rfl, b1⟩
    have B1 := Lib.hid b1
    clear b1
    obtain ⟨i0, hi0, hz0, hz1, hz2⟩ := info_parts infoB
    go_wp2_with (first
      | (refine wpList_make_full w1 rfl _ _ 27 rfl w.heap.size 5 i0 (.int .u8 0) 1 Try.underlying27 hi0 hz0 hz1 .i64 .i64 _ _ q rfl rfl rfl rfl (by rw [hz2]; omega) (by unfold maxLen; omega) B1.out.size ?_; intro w2 hown2 hgrow2)
      | (go_at_call 19; refine (HBB.out _).mono ?_; rintro e w' ⟨rfl, rfl⟩))
    have HE2 := Lib.hid (show Eo w w2 w.heap.size (.slice (some ⟨w1.heap.size, 0, none⟩) q q) (rbits kf 0 q) by
      refine ⟨?_, B1.out.grown hgrow2 B1.out.size (fun k hk => by cases hk), Nat.le_trans B1.out.size hgrow2.size⟩
      rw [rbits_length, zeros]
      exact hown2)
    generalize w1.heap.size = g at *
    clear hown2 hgrow2 B1
    go_loopw [24] (fun i wr => ∃ k : Nat, k ≤ m ∧ i = .int .i64 k ∧ Eo w wr w.heap.size (.slice (some ⟨g, 0, none⟩) q q) (rbits kf k q)) (fun i _ => m - (intOf i).toNat)
    case atStart => exact ⟨0, Nat.zero_le _, rfl, HE2.out⟩
    case round =>
      obtain ⟨k, hk, rfl, hen⟩ := hrel
      have HEN := Lib.hid hen
      clear hen
      by_cases hlt : k < m
      · obtain rfl : a' = some ⟨b', off', none⟩ := by rcases HA'.out with h | h; omega; exact h
        have hB' := hB.below HEN.out.bel
        have b0 := hB'.c0 k (by omega)
        have b1 := hB'.c1 k (by omega)
        have b2 := hB'.c2 k (by omega)
        have hkm : (k : Int) < (m : Int) := by omega
        obtain ⟨kk, ek⟩ : ∃ x, kf k = x := ⟨_, rfl⟩
        rw [ek] at b0
        have EK := Lib.hid ek
        clear hB' ek
        by_cases hz : kk = 0
        · subst hz
          have hq8 : k / 8 < q := by have := HQ.out; omega
          obtain ⟨x, hx⟩ : ∃ x, bitsAt kf k (8 * (k / 8)) 8 = x := ⟨_, rfl⟩
          have hxl : x < 256 := by rw [← hx]; exact bitsAt_lt kf k _ 8
          have hfree := bits_free kf k
          have hset := rbits_set kf k EK.out q hq8
          have hat := rbits_at kf k q (k / 8) hq8
          rw [hx] at hset hat hfree
          obtain ⟨c, hc⟩ : ∃ c, k / 8 = c := ⟨_, rfl⟩
          obtain ⟨r, hrr⟩ : ∃ r, k % 8 = r := ⟨_, rfl⟩
          have hr8 : r < 8 := by omega
          have hq1' : Int.tdiv (k : Int) 8 = (c : Int) := by rw [Int.tdiv_eq_ediv_of_nonneg (by omega)]; omega
          have hr1' : Int.tmod (k : Int) 8 = (r : Int) := by rw [Int.tmod_eq_emod_of_nonneg (by omega)]; omega
          have hq2' : (k : Int) / 8 = (c : Int) := by omega
          have hr2' : (k : Int) % 8 = (r : Int) := by omega
          have hcq : (c : Int) < (q : Int) := by omega
          rw [hc] at hset hat
          rw [hrr] at hset hfree
          have hor := or_bit8 x r hxl hr8 hfree
          have hcell := HEN.out.cell c x hat
          have HX := Lib.hid ((HEN.out.alloc (.cells #[.int .i64 0, .int .i64 (nf k), .string (sf k)] 43)).cell c x hat)
          have HEA := Lib.hid (HEN.out.alloc (.cells #[.int .i64 0, .int .i64 (nf k), .string (sf k)] 43))
          have HST := Lib.hid hset
          clear hcell hset hat hfree hx hxl
          have hrc : r = 0 ∨ r = 1 ∨ r = 2 ∨ r = 3 ∨ r = 4 ∨ r = 5 ∨ r = 6 ∨ r = 7 := by omega
          go_upto_region 9 with fail
          generalize (wr.alloc (.cells #[.int .i64 0, .int .i64 (nf k), .string (sf k)] 43)) = wx at *
          obtain ⟨x0, z0⟩ := HX.out
          clear b0 b1 b2
          have hlq : (rbits kf k q).length = q := rbits_length kf k q
          rcases hrc with rfl | rfl | rfl | rfl | rfl | rfl | rfl | rfl
          · have ho2 : bits .or .u8 (x : Int) 1 = ((x + 1 : Nat) : Int) := hor
            have HST2 := Lib.hid (show rbits kf (k + 1) q = (rbits kf k q).set c (x + 1) from HST.out)
            clear hor
            go_region
            all_goals
              go_wp2_with fail
              go_roundw
              case rel => exact ⟨k + 1, by omega, by go_num, by
                rw [HST2.out]
                first
                  | exact HEA.out.drew.set hlq c (x + 1)
                  | exact (HEA.out.set hlq c (x + 1)).drew⟩
              case measure => simp [intOf]; omega
          · have ho2 : bits .or .u8 (x : Int) 2 = ((x + 2 : Nat) : Int) := hor
            have HST2 := Lib.hid (show rbits kf (k + 1) q = (rbits kf k q).set c (x + 2) from HST.out)
            clear hor
            go_region
            all_goals
              go_wp2_with fail
              go_roundw
              case rel => exact ⟨k + 1, by omega, by go_num, by
                rw [HST2.out]
                first
                  | exact HEA.out.drew.set hlq c (x + 2)
                  | exact (HEA.out.set hlq c (x + 2)).drew⟩
              case measure => simp [intOf]; omega
          · have ho2 : bits .or .u8 (x : Int) 4 = ((x + 4 : Nat) : Int) := hor
            have HST2 := Lib.hid (show rbits kf (k + 1) q = (rbits kf k q).set c (x + 4) from HST.out)
            clear hor
            go_region
            all_goals
              go_wp2_with fail
              go_roundw
              case rel => exact ⟨k + 1, by omega, by go_num, by
                rw [HST2.out]
                first
                  | exact HEA.out.drew.set hlq c (x + 4)
                  | exact (HEA.out.set hlq c (x + 4)).drew⟩
              case measure => simp [intOf]; omega
          · have ho2 : bits .or .u8 (x : Int) 8 = ((x + 8 : Nat) : Int) := hor
            have HST2 := Lib.hid (show rbits kf (k + 1) q = (rbits kf k q).set c (x + 8) from HST.out)
            clear hor
            go_region
            all_goals
              go_wp2_with fail
              go_roundw
              case rel => exact ⟨k + 1, by omega, by go_num, by
                rw [HST2.out]
                first
                  | exact HEA.out.drew.set hlq c (x + 8)
                  | exact (HEA.out.set hlq c (x + 8)).drew⟩
              case measure => simp [intOf]; omega
          · have ho2 : bits .or .u8 (x : Int) 16 = ((x + 16 : Nat) : Int) := hor
            have HST2 := Lib.hid (show rbits kf (k + 1) q = (rbits kf k q).set c (x + 16) from HST.out)
            clear hor
            go_region
            all_goals
              go_wp2_with fail
              go_roundw
              case rel => exact ⟨k + 1, by omega, by go_num, by
                rw [HST2.out]
                first
                  | exact HEA.out.drew.set hlq c (x + 16)
                  | exact (HEA.out.set hlq c (x + 16)).drew⟩
              case measure => simp [intOf]; omega
          · have ho2 : bits .or .u8 (x : Int) 32 = ((x + 32 : Nat) : Int) := hor
            have HST2 := Lib.hid (show rbits kf (k + 1) q = (rbits kf k q).set c (x + 32) from HST.out)
            clear hor
            go_region
            all_goals
              go_wp2_with fail
              go_roundw
              case rel => exact ⟨k + 1, by omega, by go_num, by
                rw [HST2.out]
                first
                  | exact HEA.out.drew.set hlq c (x + 32)
                  | exact (HEA.out.set hlq c (x + 32)).drew⟩
              case measure => simp [intOf]; omega
          · have ho2 : bits .or .u8 (x : Int) 64 = ((x + 64 : Nat) : Int) := hor
            have HST2 := Lib.hid (show rbits kf (k + 1) q = (rbits kf k q).set c (x + 64) from HST.out)
            clear hor
            go_region
            all_goals
              go_wp2_with fail
              go_roundw
              case rel => exact ⟨k + 1, by omega, by go_num, by
                rw [HST2.out]
                first
                  | exact HEA.out.drew.set hlq c (x + 64)
                  | exact (HEA.out.set hlq c (x + 64)).drew⟩
              case measure => simp [intOf]; omega
          · have ho2 : bits .or .u8 (x : Int) 128 = ((x + 128 : Nat) : Int) := hor
            have HST2 := Lib.hid (show rbits kf (k + 1) q = (rbits kf k q).set c (x + 128) from HST.out)
            clear hor
            go_region
            all_goals
              go_wp2_with fail
              go_roundw
              case rel => exact ⟨k + 1, by omega, by go_num, by
                rw [HST2.out]
                first
                  | exact HEA.out.drew.set hlq c (x + 128)
                  | exact (HEA.out.set hlq c (x + 128)).drew⟩
              case measure => simp [intOf]; omega
        · have hz' : (kk == 0) = false := by simpa using hz
          have HS := Lib.hid (rbits_same kf k (by rw [EK.out]; exact hz) q)
          have HEA := Lib.hid (HEN.out.alloc (.cells #[.int .i64 kk, .int .i64 (nf k), .string (sf k)] 43))
          go_wp2_with fail
          go_roundw
          case rel => exact ⟨k + 1, by omega, by go_num, by rw [HS.out]; exact HEA.out⟩
          case measure => simp [intOf]; omega
      · obtain rfl : k = m := by omega
        go_wp2_with fail
        go_loopw [7, 45] (fun v i wr => ∃ j : Nat, j ≤ k ∧ i = .int .i64 j ∧ Eo w wr w.heap.size v (rbits kf k q ++ rvs kf nf sf j)) (fun _ i _ => k - (intOf i).toNat)
        case atStart => exact ⟨0, Nat.zero_le _, rfl, by simpa [rvs] using HEN.out⟩
        case round =>
          obtain ⟨j, hj, rfl, hen⟩ := hrel
          have HE3 := Lib.hid hen
          clear hen
          by_cases hlt2 : j < k
          · obtain rfl : a' = some ⟨b', off', none⟩ := by rcases HA'.out with h | h; omega; exact h
            have hB' := hB.below HE3.out.bel
            have b0 := hB'.c0 j (by omega)
            have b1 := hB'.c1 j (by omega)
            have b2 := hB'.c2 j (by omega)
            have hkm : (j : Int) < (k : Int) := by omega
            obtain ⟨v1, v2⟩ := HR.out j hlt2
            have hle := rvs_le kf nf sf j (fun i hi => (vckE (HR.out i (by omega)).1).2.2)
            have hav := HAV.out w w.heap.size _ (rbits kf k q ++ rvs kf nf sf j) (by rw [List.length_append, rbits_length]; omega) (kf j) (nf j) (sf j) v1 v2 _ (HE3.out.alloc (.cells #[.int .i64 (kf j), .int .i64 (nf j), .string (sf j)] 43))
            unfold Vv at hav
            have HV := Lib.hid hav
            clear hB' hav hle v1 v2
            go_wp2_with fail
            refine HV.out.mono ?_
            rintro e w3 ⟨v3, rfl, h3⟩
            have H3 := Lib.hid h3
            clear h3
            go_wp2_with fail
            go_roundw
            case rel => exact ⟨j + 1, by omega, by go_num, by have := H3.out; rw [List.append_assoc] at this; exact this⟩
            case measure => simp [intOf]; omega
          · obtain rfl : j = k := by omega
            go_wp2_with fail
            exact HP.out _ _ (by unfold rowB; rw [HQ.out]; exact HE3.out)
  · generalize fitV m n tf qf kf nf sf = F at *
    generalize rowB kf nf sf n = L
    have hF' : (F != 0) = true := by simpa using hF
    have HFIT := Lib.hid hfit
    have HF := Lib.hid hF
    clear hfit hF
    go_enter Try.func11, Try.ntmps11
    go_wp2_with fail
    refine HFIT.out.mono ?_
    rintro e w1 ⟨rfl, b1⟩
    go_wp2
    go_ret2
    exact ⟨.slice none 0 0, rfl, fun h => absurd h HF.out, fun _ => ⟨none, 0, rfl⟩, b1⟩

end Go.Proofs.Ytpknoclnmhomiab
