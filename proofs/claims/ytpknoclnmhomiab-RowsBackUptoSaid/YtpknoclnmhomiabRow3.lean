/-
  haspref06.Encode: a row's bytes, as the document has them; contract over the translation.
  Conditions: the lists lie in memory; the row's texts are not too long for a slice; the row has at most 68719476736 values.
-/
import Derived.Test.YtpknoclnmhomiabRow1
import Derived.Test.YtpknoclnmhomiabRow2
import Derived.Deep.DeepCutAuto
import Derived.Deep.QuietTactic
import Derived.BigQuiet
namespace Go.Proofs.Ytpknoclnmhomiab
open Go.RowKit Go.Joins Go.ChangeShapes Go.WideShapes
set_option linter.unusedVariables false

set_option maxRecDepth 100000 in
set_option maxHeartbeats 8000000 in
theorem rowenc_any (a a' : Option Addr) (b off m cap b' off' n cap' : Nat) (mf : Nat → ByteArray) (tf : Nat → Int) (qf : Nat → Bool) (kf nf : Nat → Int) (sf : Nat → ByteArray) (hm : m ≤ maxLen) (hn : n ≤ 68719476736) (w : World)
    (ha : m = 0 ∨ a = some ⟨b, off, none⟩) (ha' : n = 0 ∨ a' = some ⟨b', off', none⟩) (hA : IsC w b off m mf tf qf) (hB : IsV w b' off' n kf nf sf)
    (hr : ∀ i, i < n → InI (nf i) ∧ (sf i).size ≤ maxLen) :
    Calls Try.prog 12 #[.slice a m cap, .slice a' n cap'] w fun e w' => ∃ v, e = .returned (.tuple #[v, .int .i64 (fitV m n tf qf kf nf sf)]) ∧ OwB w' w.heap.size v (if fitV m n tf qf kf nf sf = 0 then rowB kf nf sf n else []) ∧ Below w.heap.size w w' := by
  have hfit := fun w0 => reffit_any a a' b off m cap b' off' n cap' mf tf qf kf nf sf hm (by unfold maxLen; omega) w0 ha ha'
  generalize hT : fitV m n tf qf kf nf sf = T at *
  have HF := Lib.hid (hfit w hA hB hr)
  have HTT := Lib.hid hT
  clear hfit hT
  by_cases hz : T = 0
  · subst hz
    generalize hP : (fun (e : Ending) (w' : World) => ∃ v, e = .returned (.tuple #[v, .int .i64 0]) ∧ OwB w' w.heap.size v (if (0 : Int) = 0 then rowB kf nf sf n else []) ∧ Below w.heap.size w w') = P
    have hpost : ∀ (v : Value) (w' : World), En w w' w.heap.size v (rowB kf nf sf n) → P (.returned (.tuple #[v, .int .i64 0])) w' := by
      intro v w' h; rw [← hP]; exact ⟨v, rfl, by rw [if_pos rfl]; exact h.own, h.bel⟩
    have HP := Lib.hid hpost
    have HR := Lib.hid (fitV_right HTT.out)
    have HRR := Lib.hid hr
    clear hpost hP hr HTT
    go_enter Try.func12, Try.ntmps12
    go_wp2_with fail
    refine HF.out.mono ?_
    rintro e w1 ⟨rfl, hb1⟩
    have hz1 := hb1.size
    have HBV := Lib.hid hB
    clear HF hA hB
    go_wp2
    go_loopw [7, 8] (fun v i wr => ∃ j I : Nat, Hid (I = 8 * j) ∧ I ≤ n + 7 ∧ i = .int .i64 I ∧ En w wr w.heap.size v (rbits kf n j)) (fun _ i _ => n + 7 - (intOf i).toNat)
    case atStart => exact ⟨0, 0, Lib.hid rfl, Nat.zero_le _, rfl, ⟨World.ownsRow_made w1 #[] 0 hz1 (by decide) rfl, by simp⟩, hb1.alloc hz1 _, by simp; omega⟩
    case round =>
      obtain ⟨j, I, HI, hIn, rfl, hen⟩ := hrel
      by_cases hlt : I < n
      · obtain rfl : a' = some ⟨b', off', none⟩ := by rcases ha' with h | h; omega; exact h
        have hkm : (I : Int) < (n : Int) := by omega
        have hB2 := HBV.out.below hen.bel
        have HE := Lib.hid hen
        have HV2 := Lib.hid hB2
        clear hen
        go_wp2
        go_loop [9, 10] (fun x k => ∃ q X : Nat, q ≤ 8 ∧ k = .int .i64 q ∧ x = .int .i64 X ∧ X < 256 ∧ Hid (X = bitsAt kf n I q)) (fun _ k => 8 - (intOf k).toNat)
        case atStart => exact ⟨0, 0, by omega, rfl, rfl, by omega, Lib.hid rfl⟩
        case round =>
          obtain ⟨q, X, hq, rfl, rfl, hX, HX⟩ := hrel
          have hIb : (I : Int) ≤ 68719476743 := by omega
          by_cases hend : q < 8 ∧ I + q < n
          · obtain ⟨hq8, hqn⟩ := hend
            have c0 := HV2.out.c0 (I + q) hqn
            have HC0 := Lib.hid c0
            have hlt2 := bitsAt_lt kf n I (q + 1)
            have hstep : bitsAt kf n I (q + 1) = X + (if I + q < n ∧ kf (I + q) = 0 then 2 ^ q else 0) := by rw [HX.out]; rfl
            have hXq : X < 2 ^ q := by rw [HX.out]; exact bitsAt_lt kf n I q
            have hc : q = 0 ∨ q = 1 ∨ q = 2 ∨ q = 3 ∨ q = 4 ∨ q = 5 ∨ q = 6 ∨ q = 7 := by omega
            clear hq
            rcases hc with rfl | rfl | rfl | rfl | rfl | rfl | rfl | rfl
            · have hqn' : (I : Int) + 0 < (n : Int) := by omega
              simp only [Nat.add_zero] at c0 hstep hqn
              by_cases hk0 : kf I = 0
              · rw [hk0] at c0
                rw [if_pos ⟨hqn, hk0⟩] at hstep
                have HS := Lib.hid hstep
                clear hstep HX HC0 hlt2
                go_wp2
                go_round
                case rel => exact ⟨0+1, X + 1, by omega, by go_num, by go_num, by omega, Lib.hid (by rw [HS.out])⟩
                case measure => simp [intOf]
              · have hk0' : (kf I == 0) = false := by simpa using hk0
                rw [if_neg (by rintro ⟨_, h⟩; exact hk0 h)] at hstep
                have HS := Lib.hid hstep
                clear hstep HX HC0 hlt2
                go_wp2
                go_round
                case rel => exact ⟨0+1, X, by omega, by go_num, rfl, by omega, Lib.hid (by rw [HS.out, Nat.add_zero])⟩
                case measure => simp [intOf]
            · have hqn' : (I : Int) + 1 < (n : Int) := by omega
              skip
              by_cases hk0 : kf (I + 1) = 0
              · rw [hk0] at c0
                rw [if_pos ⟨hqn, hk0⟩] at hstep
                have HS := Lib.hid hstep
                clear hstep HX HC0 hlt2
                go_wp2
                go_round
                case rel => exact ⟨1+1, X + 2, by omega, by go_num, by go_num, by omega, Lib.hid (by rw [HS.out])⟩
                case measure => simp [intOf]
              · have hk0' : (kf (I + 1) == 0) = false := by simpa using hk0
                rw [if_neg (by rintro ⟨_, h⟩; exact hk0 h)] at hstep
                have HS := Lib.hid hstep
                clear hstep HX HC0 hlt2
                go_wp2
                go_round
                case rel => exact ⟨1+1, X, by omega, by go_num, rfl, by omega, Lib.hid (by rw [HS.out, Nat.add_zero])⟩
                case measure => simp [intOf]
            · have hqn' : (I : Int) + 2 < (n : Int) := by omega
              skip
              by_cases hk0 : kf (I + 2) = 0
              · rw [hk0] at c0
                rw [if_pos ⟨hqn, hk0⟩] at hstep
                have HS := Lib.hid hstep
                clear hstep HX HC0 hlt2
                go_wp2
                go_round
                case rel => exact ⟨2+1, X + 4, by omega, by go_num, by go_num, by omega, Lib.hid (by rw [HS.out])⟩
                case measure => simp [intOf]
              · have hk0' : (kf (I + 2) == 0) = false := by simpa using hk0
                rw [if_neg (by rintro ⟨_, h⟩; exact hk0 h)] at hstep
                have HS := Lib.hid hstep
                clear hstep HX HC0 hlt2
                go_wp2
                go_round
                case rel => exact ⟨2+1, X, by omega, by go_num, rfl, by omega, Lib.hid (by rw [HS.out, Nat.add_zero])⟩
                case measure => simp [intOf]
            · have hqn' : (I : Int) + 3 < (n : Int) := by omega
              skip
              by_cases hk0 : kf (I + 3) = 0
              · rw [hk0] at c0
                rw [if_pos ⟨hqn, hk0⟩] at hstep
                have HS := Lib.hid hstep
                clear hstep HX HC0 hlt2
                go_wp2
                go_round
                case rel => exact ⟨3+1, X + 8, by omega, by go_num, by go_num, by omega, Lib.hid (by rw [HS.out])⟩
                case measure => simp [intOf]
              · have hk0' : (kf (I + 3) == 0) = false := by simpa using hk0
                rw [if_neg (by rintro ⟨_, h⟩; exact hk0 h)] at hstep
                have HS := Lib.hid hstep
                clear hstep HX HC0 hlt2
                go_wp2
                go_round
                case rel => exact ⟨3+1, X, by omega, by go_num, rfl, by omega, Lib.hid (by rw [HS.out, Nat.add_zero])⟩
                case measure => simp [intOf]
            · have hqn' : (I : Int) + 4 < (n : Int) := by omega
              skip
              by_cases hk0 : kf (I + 4) = 0
              · rw [hk0] at c0
                rw [if_pos ⟨hqn, hk0⟩] at hstep
                have HS := Lib.hid hstep
                clear hstep HX HC0 hlt2
                go_wp2
                go_round
                case rel => exact ⟨4+1, X + 16, by omega, by go_num, by go_num, by omega, Lib.hid (by rw [HS.out])⟩
                case measure => simp [intOf]
              · have hk0' : (kf (I + 4) == 0) = false := by simpa using hk0
                rw [if_neg (by rintro ⟨_, h⟩; exact hk0 h)] at hstep
                have HS := Lib.hid hstep
                clear hstep HX HC0 hlt2
                go_wp2
                go_round
                case rel => exact ⟨4+1, X, by omega, by go_num, rfl, by omega, Lib.hid (by rw [HS.out, Nat.add_zero])⟩
                case measure => simp [intOf]
            · have hqn' : (I : Int) + 5 < (n : Int) := by omega
              skip
              by_cases hk0 : kf (I + 5) = 0
              · rw [hk0] at c0
                rw [if_pos ⟨hqn, hk0⟩] at hstep
                have HS := Lib.hid hstep
                clear hstep HX HC0 hlt2
                go_wp2
                go_round
                case rel => exact ⟨5+1, X + 32, by omega, by go_num, by go_num, by omega, Lib.hid (by rw [HS.out])⟩
                case measure => simp [intOf]
              · have hk0' : (kf (I + 5) == 0) = false := by simpa using hk0
                rw [if_neg (by rintro ⟨_, h⟩; exact hk0 h)] at hstep
                have HS := Lib.hid hstep
                clear hstep HX HC0 hlt2
                go_wp2
                go_round
                case rel => exact ⟨5+1, X, by omega, by go_num, rfl, by omega, Lib.hid (by rw [HS.out, Nat.add_zero])⟩
                case measure => simp [intOf]
            · have hqn' : (I : Int) + 6 < (n : Int) := by omega
              skip
              by_cases hk0 : kf (I + 6) = 0
              · rw [hk0] at c0
                rw [if_pos ⟨hqn, hk0⟩] at hstep
                have HS := Lib.hid hstep
                clear hstep HX HC0 hlt2
                go_wp2
                go_round
                case rel => exact ⟨6+1, X + 64, by omega, by go_num, by go_num, by omega, Lib.hid (by rw [HS.out])⟩
                case measure => simp [intOf]
              · have hk0' : (kf (I + 6) == 0) = false := by simpa using hk0
                rw [if_neg (by rintro ⟨_, h⟩; exact hk0 h)] at hstep
                have HS := Lib.hid hstep
                clear hstep HX HC0 hlt2
                go_wp2
                go_round
                case rel => exact ⟨6+1, X, by omega, by go_num, rfl, by omega, Lib.hid (by rw [HS.out, Nat.add_zero])⟩
                case measure => simp [intOf]
            · have hqn' : (I : Int) + 7 < (n : Int) := by omega
              skip
              by_cases hk0 : kf (I + 7) = 0
              · rw [hk0] at c0
                rw [if_pos ⟨hqn, hk0⟩] at hstep
                have HS := Lib.hid hstep
                clear hstep HX HC0 hlt2
                go_wp2
                go_round
                case rel => exact ⟨7+1, X + 128, by omega, by go_num, by go_num, by omega, Lib.hid (by rw [HS.out])⟩
                case measure => simp [intOf]
              · have hk0' : (kf (I + 7) == 0) = false := by simpa using hk0
                rw [if_neg (by rintro ⟨_, h⟩; exact hk0 h)] at hstep
                have HS := Lib.hid hstep
                clear hstep HX HC0 hlt2
                go_wp2
                go_round
                case rel => exact ⟨7+1, X, by omega, by go_num, rfl, by omega, Lib.hid (by rw [HS.out, Nat.add_zero])⟩
                case measure => simp [intOf]
          · have HX8 : Hid (X = bitsAt kf n I 8) := Lib.hid (by
              rw [HX.out]
              by_cases c : q < 8
              · have := bitsAt_end kf n I q (by omega) (8 - q)
                rw [show q + (8 - q) = 8 from by omega] at this
                exact this.symm
              · rw [show q = 8 from by omega])
            have HJ : Hid (rbits kf n (j + 1) = rbits kf n j ++ [X]) := Lib.hid (by rw [HX8.out, HI.out]; rfl)
            have HLJ := Lib.hid (rbits_length kf n j)
            have HI8 : Hid (I + 8 = 8 * (j + 1)) := Lib.hid (by rw [HI.out]; rfl)
            have HJN : Hid (j ≤ n) := Lib.hid (by have := HI.out; omega)
            clear HX HX8
            have hcase : (q = 8) ∨ (q < 8 ∧ n ≤ I + q) := by omega
            clear hend
            rcases hcase with rfl | ⟨hq8, hqn⟩
            · go_wp2_with (first | (at_builtin; refine wp_push rfl _ _ rfl w.heap.size _ _ rfl (HE.out.own.alloc _) ⟨wr.heap.size, 0, none⟩ 1 1 [X] rfl rfl (news1' wr _ _ (by first | rfl | omega | (simp only [IntKind.wrap_u8]; omega))) (by have h1 := HLJ.out; have h2 := HJN.out; omega) (HE.out.alloc _).sz ?_; intro v1 w2 hown1 hgrow1; have HE1 := Lib.hid ((HE.out.alloc _).push hown1 hgrow1); clear hgrow1 hown1))
              go_roundw
              case rel => exact ⟨j + 1, I + 8, HI8, by omega, by go_num, by rw [HJ.out]; exact HE1.out⟩
              case measure => simp [intOf]; omega
            · have hq1 : (q : Int) < 8 := by omega
              have hq2 : ¬ (I : Int) + (q : Int) < (n : Int) := by omega
              go_wp2_with (first | (at_builtin; refine wp_push rfl _ _ rfl w.heap.size _ _ rfl (HE.out.own.alloc _) ⟨wr.heap.size, 0, none⟩ 1 1 [X] rfl rfl (news1' wr _ _ (by first | rfl | omega | (simp only [IntKind.wrap_u8]; omega))) (by have h1 := HLJ.out; have h2 := HJN.out; omega) (HE.out.alloc _).sz ?_; intro v1 w2 hown1 hgrow1; have HE1 := Lib.hid ((HE.out.alloc _).push hown1 hgrow1); clear hgrow1 hown1))
              go_roundw
              case rel => exact ⟨j + 1, I + 8, HI8, by omega, by go_num, by rw [HJ.out]; exact HE1.out⟩
              case measure => simp [intOf]; omega
      · have HJ : Hid (rbits kf n j = rbits kf n ((n + 7) / 8)) := Lib.hid (by have := HI.out; rw [show (n + 7) / 8 = j from by omega])
        have HLJ := Lib.hid (rbits_length kf n j)
        have HJN : Hid (j ≤ n) := Lib.hid (by have := HI.out; omega)
        have HE := Lib.hid hen
        have hk1 : ¬ (I : Int) < (n : Int) := by omega
        clear hen
        go_wp2
        generalize hL0 : rbits kf n j = L0 at *
        clear hL0 HI hIn hk1 hlt
        go_loopw [7, 11] (fun v i wr => ∃ k : Nat, k ≤ n ∧ i = .int .i64 k ∧ En w wr w.heap.size v (L0 ++ rvs kf nf sf k)) (fun _ i _ => n - (intOf i).toNat)
        case atStart => exact ⟨0, by omega, rfl, by simpa [rvs] using HE.out⟩
        clear HE
        case round =>
          obtain ⟨k, hk, rfl, hen⟩ := hrel
          by_cases hlt : k < n
          · obtain rfl : a' = some ⟨b', off', none⟩ := by rcases ha' with h | h; omega; exact h
            have hA' := HBV.out.below hen.bel
            have a0 := hA'.c0 k hlt
            have a1 := hA'.c1 k hlt
            have a2 := hA'.c2 k hlt
            have hkm : (k : Int) < (n : Int) := by omega
            have hv := vckE (HR.out.2 k hlt).1
            have i1 := (HRR.out k hlt).1
            have hl0 : (L0 ++ rvs kf nf sf k).length ≤ 68719476736 * 209 := by
              have h1 := rvs_le kf nf sf k (fun i hi => (vckE (HR.out.2 i (by omega)).1).2.2)
              have h2 := HLJ.out
              have h3 := HJN.out
              rw [List.length_append]
              omega
            obtain ⟨kk, ek⟩ : ∃ x, kf k = x := ⟨_, rfl⟩
            obtain ⟨nn, en⟩ : ∃ x, nf k = x := ⟨_, rfl⟩
            obtain ⟨ss, es⟩ : ∃ x, sf k = x := ⟨_, rfl⟩
            have ENXT : Hid (∀ v wx, En w wx w.heap.size v (L0 ++ rvs kf nf sf k ++ rv kk nn ss) → En w wx w.heap.size v (L0 ++ rvs kf nf sf (k + 1))) := fun v wx h => by
              have e : L0 ++ rvs kf nf sf (k + 1) = L0 ++ rvs kf nf sf k ++ rv kk nn ss := by rw [← ek, ← en, ← es, List.append_assoc]; rfl
              rw [e]; exact h
            rw [ek] at a0
            rw [en] at a1 i1
            rw [es] at a2
            rw [ek, es] at hv
            have HS := Lib.hid (And.intro hl0 (And.intro i1 hv.2.2))
            have HE := Lib.hid (hen.alloc (.cells #[.int .i64 kk, .int .i64 nn, .string ss] 43))
            have HB := Lib.hid (boxV_new wr kk nn ss)
            have hkk : kk = 0 ∨ kk = 1 ∨ kk = 2 ∨ kk = 3 ∨ kk = 4 := by omega
            have hkm2 : k ≤ 68719476736 := by omega
            generalize hL : L0 ++ rvs kf nf sf k = L at *
            clear hA' ek en es i1 hv hen hl0
            go_upto_region 19 with fail
            generalize wr.alloc (.cells #[.int .i64 kk, .int .i64 nn, .string ss] 43) = wx at *
            generalize wr.heap.size = g at *
            clear a0 a1 a2 hL
            obtain ⟨c0, c1, c2⟩ := HB.out.cells
            rcases hkk with rfl | rfl | rfl | rfl | rfl
            · go_wp2
              go_roundw
              case rel => exact ⟨k + 1, by omega, by go_num, ENXT.out _ _ (by rw [rv0, List.append_nil]; exact HE.out)⟩
              case measure => simp [intOf]; omega
            · have hz : 0 ≤ nn % 256 := Int.emod_nonneg _ (by decide)
              go_wp2_with (first | (at_builtin; refine wp_push rfl _ _ rfl w.heap.size _ _ rfl (HE.out.own.alloc _) ⟨wx.heap.size, 0, none⟩ 1 1 [(nn % 256).toNat] rfl rfl (news1' wx _ _ (by first | rfl | omega | (simp only [IntKind.wrap_u8]; omega))) (by have := HS.out.1; omega) (HE.out.alloc _).sz ?_; intro v1 w1 hown1 hgrow1; have HE1 := Lib.hid ((HE.out.alloc _).push hown1 hgrow1); have HB1 := Lib.hid (boxV_push HB.out _ HE.out.own hgrow1); obtain ⟨d0, d1, d2⟩ := HB1.out.cells; clear hgrow1 hown1))
              go_roundw
              case rel => exact ⟨k + 1, by omega, by go_num, ENXT.out _ _ (by rw [rv1]; exact HE1.out)⟩
              case measure => simp [intOf]; omega
            · obtain ⟨U, hU⟩ : ∃ U, (nn % 18446744073709551616).toNat = U := ⟨_, rfl⟩
              have HU := Lib.hid (show U < 18446744073709551616 by omega)
              have e8 : IntKind.u64.wrap nn = (U : Int) := by simp only [IntKind.wrap_u64]; omega
              have HUU := Lib.hid hU
              clear hU
              go_wp2
              go_loopw [7, 13] (fun v j wz => ∃ q : Nat, q ≤ 8 ∧ j = .int .i64 (8 * (q : Int)) ∧ En w wz w.heap.size v (L ++ (le8 U).take q) ∧ BoxV wz g 2 nn ss) (fun _ j _ => 64 - (intOf j).toNat)
              case atStart => exact ⟨0, by omega, rfl, by simpa using HE.out, HB.out⟩
              case round =>
                obtain ⟨q, hq, rfl, hen, hbx⟩ := hrel
                obtain ⟨f0, f1, f2⟩ := hbx.cells
                have hc : q = 0 ∨ q = 1 ∨ q = 2 ∨ q = 3 ∨ q = 4 ∨ q = 5 ∨ q = 6 ∨ q = 7 ∨ q = 8 := by omega
                have HEQ := Lib.hid hen
                have HBQ := Lib.hid hbx
                clear hen hbx hq
                rcases hc with rfl | rfl | rfl | rfl | rfl | rfl | rfl | rfl | rfl
                · go_wp2_with (at_builtin; refine wp_push rfl _ _ rfl w.heap.size _ _ rfl (HEQ.out.own.alloc _) ⟨wr.heap.size, 0, none⟩ 1 1 [U % 256] rfl rfl (news1' wr _ _ (by first | omega | (simp only [IntKind.wrap_u8]; omega))) (by have h1 := HS.out.1; simp [le8]; omega) (HEQ.out.alloc _).sz ?_; intro v5 w5 hown hgrow; have HE5 := Lib.hid ((HEQ.out.alloc _).push hown hgrow); have HB5 := Lib.hid (boxV_push HBQ.out _ HEQ.out.own hgrow); clear hgrow hown)
                  go_roundw
                  case rel => exact ⟨1, by omega, by first | rfl | go_num, by simpa [le8, List.append_assoc] using HE5.out, HB5.out⟩
                  case measure => simp [intOf]
                · go_wp2_with (at_builtin; refine wp_push rfl _ _ rfl w.heap.size _ _ rfl (HEQ.out.own.alloc _) ⟨wr.heap.size, 0, none⟩ 1 1 [U / 256 % 256] rfl rfl (news1' wr _ _ (by first | omega | (simp only [IntKind.wrap_u8]; omega))) (by have h1 := HS.out.1; simp [le8]; omega) (HEQ.out.alloc _).sz ?_; intro v5 w5 hown hgrow; have HE5 := Lib.hid ((HEQ.out.alloc _).push hown hgrow); have HB5 := Lib.hid (boxV_push HBQ.out _ HEQ.out.own hgrow); clear hgrow hown)
                  go_roundw
                  case rel => exact ⟨2, by omega, by first | rfl | go_num, by simpa [le8, List.append_assoc] using HE5.out, HB5.out⟩
                  case measure => simp [intOf]
                · go_wp2_with (at_builtin; refine wp_push rfl _ _ rfl w.heap.size _ _ rfl (HEQ.out.own.alloc _) ⟨wr.heap.size, 0, none⟩ 1 1 [U / 65536 % 256] rfl rfl (news1' wr _ _ (by first | omega | (simp only [IntKind.wrap_u8]; omega))) (by have h1 := HS.out.1; simp [le8]; omega) (HEQ.out.alloc _).sz ?_; intro v5 w5 hown hgrow; have HE5 := Lib.hid ((HEQ.out.alloc _).push hown hgrow); have HB5 := Lib.hid (boxV_push HBQ.out _ HEQ.out.own hgrow); clear hgrow hown)
                  go_roundw
                  case rel => exact ⟨3, by omega, by first | rfl | go_num, by simpa [le8, List.append_assoc] using HE5.out, HB5.out⟩
                  case measure => simp [intOf]
                · go_wp2_with (at_builtin; refine wp_push rfl _ _ rfl w.heap.size _ _ rfl (HEQ.out.own.alloc _) ⟨wr.heap.size, 0, none⟩ 1 1 [U / 16777216 % 256] rfl rfl (news1' wr _ _ (by first | omega | (simp only [IntKind.wrap_u8]; omega))) (by have h1 := HS.out.1; simp [le8]; omega) (HEQ.out.alloc _).sz ?_; intro v5 w5 hown hgrow; have HE5 := Lib.hid ((HEQ.out.alloc _).push hown hgrow); have HB5 := Lib.hid (boxV_push HBQ.out _ HEQ.out.own hgrow); clear hgrow hown)
                  go_roundw
                  case rel => exact ⟨4, by omega, by first | rfl | go_num, by simpa [le8, List.append_assoc] using HE5.out, HB5.out⟩
                  case measure => simp [intOf]
                · go_wp2_with (at_builtin; refine wp_push rfl _ _ rfl w.heap.size _ _ rfl (HEQ.out.own.alloc _) ⟨wr.heap.size, 0, none⟩ 1 1 [U / 4294967296 % 256] rfl rfl (news1' wr _ _ (by first | omega | (simp only [IntKind.wrap_u8]; omega))) (by have h1 := HS.out.1; simp [le8]; omega) (HEQ.out.alloc _).sz ?_; intro v5 w5 hown hgrow; have HE5 := Lib.hid ((HEQ.out.alloc _).push hown hgrow); have HB5 := Lib.hid (boxV_push HBQ.out _ HEQ.out.own hgrow); clear hgrow hown)
                  go_roundw
                  case rel => exact ⟨5, by omega, by first | rfl | go_num, by simpa [le8, List.append_assoc] using HE5.out, HB5.out⟩
                  case measure => simp [intOf]
                · go_wp2_with (at_builtin; refine wp_push rfl _ _ rfl w.heap.size _ _ rfl (HEQ.out.own.alloc _) ⟨wr.heap.size, 0, none⟩ 1 1 [U / 1099511627776 % 256] rfl rfl (news1' wr _ _ (by first | omega | (simp only [IntKind.wrap_u8]; omega))) (by have h1 := HS.out.1; simp [le8]; omega) (HEQ.out.alloc _).sz ?_; intro v5 w5 hown hgrow; have HE5 := Lib.hid ((HEQ.out.alloc _).push hown hgrow); have HB5 := Lib.hid (boxV_push HBQ.out _ HEQ.out.own hgrow); clear hgrow hown)
                  go_roundw
                  case rel => exact ⟨6, by omega, by first | rfl | go_num, by simpa [le8, List.append_assoc] using HE5.out, HB5.out⟩
                  case measure => simp [intOf]
                · go_wp2_with (at_builtin; refine wp_push rfl _ _ rfl w.heap.size _ _ rfl (HEQ.out.own.alloc _) ⟨wr.heap.size, 0, none⟩ 1 1 [U / 281474976710656 % 256] rfl rfl (news1' wr _ _ (by first | omega | (simp only [IntKind.wrap_u8]; omega))) (by have h1 := HS.out.1; simp [le8]; omega) (HEQ.out.alloc _).sz ?_; intro v5 w5 hown hgrow; have HE5 := Lib.hid ((HEQ.out.alloc _).push hown hgrow); have HB5 := Lib.hid (boxV_push HBQ.out _ HEQ.out.own hgrow); clear hgrow hown)
                  go_roundw
                  case rel => exact ⟨7, by omega, by first | rfl | go_num, by simpa [le8, List.append_assoc] using HE5.out, HB5.out⟩
                  case measure => simp [intOf]
                · go_wp2_with (at_builtin; refine wp_push rfl _ _ rfl w.heap.size _ _ rfl (HEQ.out.own.alloc _) ⟨wr.heap.size, 0, none⟩ 1 1 [U / 72057594037927936 % 256] rfl rfl (news1' wr _ _ (by first | omega | (simp only [IntKind.wrap_u8]; omega))) (by have h1 := HS.out.1; simp [le8]; omega) (HEQ.out.alloc _).sz ?_; intro v5 w5 hown hgrow; have HE5 := Lib.hid ((HEQ.out.alloc _).push hown hgrow); have HB5 := Lib.hid (boxV_push HBQ.out _ HEQ.out.own hgrow); clear hgrow hown)
                  go_roundw
                  case rel => exact ⟨8, by omega, by first | rfl | go_num, by simpa [le8, List.append_assoc] using HE5.out, HB5.out⟩
                  case measure => simp [intOf]
                · go_wp2
                  go_roundw
                  case rel => exact ⟨k + 1, by omega, by go_num, ENXT.out _ _ (by rw [rv2, HUU.out]; simpa [le8] using HEQ.out)⟩
                  case measure => simp [intOf]; omega
            · obtain ⟨U, hU⟩ : ∃ U, (nn % 18446744073709551616).toNat = U := ⟨_, rfl⟩
              have HU := Lib.hid (show U < 18446744073709551616 by omega)
              have e8 : IntKind.u64.wrap nn = (U : Int) := by simp only [IntKind.wrap_u64]; omega
              have HUU := Lib.hid hU
              clear hU
              go_wp2
              go_loopw [7, 13] (fun v j wz => ∃ q : Nat, q ≤ 8 ∧ j = .int .i64 (8 * (q : Int)) ∧ En w wz w.heap.size v (L ++ (le8 U).take q) ∧ BoxV wz g 3 nn ss) (fun _ j _ => 64 - (intOf j).toNat)
              case atStart => exact ⟨0, by omega, rfl, by simpa using HE.out, HB.out⟩
              case round =>
                obtain ⟨q, hq, rfl, hen, hbx⟩ := hrel
                obtain ⟨f0, f1, f2⟩ := hbx.cells
                have hc : q = 0 ∨ q = 1 ∨ q = 2 ∨ q = 3 ∨ q = 4 ∨ q = 5 ∨ q = 6 ∨ q = 7 ∨ q = 8 := by omega
                have HEQ := Lib.hid hen
                have HBQ := Lib.hid hbx
                clear hen hbx hq
                rcases hc with rfl | rfl | rfl | rfl | rfl | rfl | rfl | rfl | rfl
                · go_wp2_with (at_builtin; refine wp_push rfl _ _ rfl w.heap.size _ _ rfl (HEQ.out.own.alloc _) ⟨wr.heap.size, 0, none⟩ 1 1 [U % 256] rfl rfl (news1' wr _ _ (by first | omega | (simp only [IntKind.wrap_u8]; omega))) (by have h1 := HS.out.1; simp [le8]; omega) (HEQ.out.alloc _).sz ?_; intro v5 w5 hown hgrow; have HE5 := Lib.hid ((HEQ.out.alloc _).push hown hgrow); have HB5 := Lib.hid (boxV_push HBQ.out _ HEQ.out.own hgrow); clear hgrow hown)
                  go_roundw
                  case rel => exact ⟨1, by omega, by first | rfl | go_num, by simpa [le8, List.append_assoc] using HE5.out, HB5.out⟩
                  case measure => simp [intOf]
                · go_wp2_with (at_builtin; refine wp_push rfl _ _ rfl w.heap.size _ _ rfl (HEQ.out.own.alloc _) ⟨wr.heap.size, 0, none⟩ 1 1 [U / 256 % 256] rfl rfl (news1' wr _ _ (by first | omega | (simp only [IntKind.wrap_u8]; omega))) (by have h1 := HS.out.1; simp [le8]; omega) (HEQ.out.alloc _).sz ?_; intro v5 w5 hown hgrow; have HE5 := Lib.hid ((HEQ.out.alloc _).push hown hgrow); have HB5 := Lib.hid (boxV_push HBQ.out _ HEQ.out.own hgrow); clear hgrow hown)
                  go_roundw
                  case rel => exact ⟨2, by omega, by first | rfl | go_num, by simpa [le8, List.append_assoc] using HE5.out, HB5.out⟩
                  case measure => simp [intOf]
                · go_wp2_with (at_builtin; refine wp_push rfl _ _ rfl w.heap.size _ _ rfl (HEQ.out.own.alloc _) ⟨wr.heap.size, 0, none⟩ 1 1 [U / 65536 % 256] rfl rfl (news1' wr _ _ (by first | omega | (simp only [IntKind.wrap_u8]; omega))) (by have h1 := HS.out.1; simp [le8]; omega) (HEQ.out.alloc _).sz ?_; intro v5 w5 hown hgrow; have HE5 := Lib.hid ((HEQ.out.alloc _).push hown hgrow); have HB5 := Lib.hid (boxV_push HBQ.out _ HEQ.out.own hgrow); clear hgrow hown)
                  go_roundw
                  case rel => exact ⟨3, by omega, by first | rfl | go_num, by simpa [le8, List.append_assoc] using HE5.out, HB5.out⟩
                  case measure => simp [intOf]
                · go_wp2_with (at_builtin; refine wp_push rfl _ _ rfl w.heap.size _ _ rfl (HEQ.out.own.alloc _) ⟨wr.heap.size, 0, none⟩ 1 1 [U / 16777216 % 256] rfl rfl (news1' wr _ _ (by first | omega | (simp only [IntKind.wrap_u8]; omega))) (by have h1 := HS.out.1; simp [le8]; omega) (HEQ.out.alloc _).sz ?_; intro v5 w5 hown hgrow; have HE5 := Lib.hid ((HEQ.out.alloc _).push hown hgrow); have HB5 := Lib.hid (boxV_push HBQ.out _ HEQ.out.own hgrow); clear hgrow hown)
                  go_roundw
                  case rel => exact ⟨4, by omega, by first | rfl | go_num, by simpa [le8, List.append_assoc] using HE5.out, HB5.out⟩
                  case measure => simp [intOf]
                · go_wp2_with (at_builtin; refine wp_push rfl _ _ rfl w.heap.size _ _ rfl (HEQ.out.own.alloc _) ⟨wr.heap.size, 0, none⟩ 1 1 [U / 4294967296 % 256] rfl rfl (news1' wr _ _ (by first | omega | (simp only [IntKind.wrap_u8]; omega))) (by have h1 := HS.out.1; simp [le8]; omega) (HEQ.out.alloc _).sz ?_; intro v5 w5 hown hgrow; have HE5 := Lib.hid ((HEQ.out.alloc _).push hown hgrow); have HB5 := Lib.hid (boxV_push HBQ.out _ HEQ.out.own hgrow); clear hgrow hown)
                  go_roundw
                  case rel => exact ⟨5, by omega, by first | rfl | go_num, by simpa [le8, List.append_assoc] using HE5.out, HB5.out⟩
                  case measure => simp [intOf]
                · go_wp2_with (at_builtin; refine wp_push rfl _ _ rfl w.heap.size _ _ rfl (HEQ.out.own.alloc _) ⟨wr.heap.size, 0, none⟩ 1 1 [U / 1099511627776 % 256] rfl rfl (news1' wr _ _ (by first | omega | (simp only [IntKind.wrap_u8]; omega))) (by have h1 := HS.out.1; simp [le8]; omega) (HEQ.out.alloc _).sz ?_; intro v5 w5 hown hgrow; have HE5 := Lib.hid ((HEQ.out.alloc _).push hown hgrow); have HB5 := Lib.hid (boxV_push HBQ.out _ HEQ.out.own hgrow); clear hgrow hown)
                  go_roundw
                  case rel => exact ⟨6, by omega, by first | rfl | go_num, by simpa [le8, List.append_assoc] using HE5.out, HB5.out⟩
                  case measure => simp [intOf]
                · go_wp2_with (at_builtin; refine wp_push rfl _ _ rfl w.heap.size _ _ rfl (HEQ.out.own.alloc _) ⟨wr.heap.size, 0, none⟩ 1 1 [U / 281474976710656 % 256] rfl rfl (news1' wr _ _ (by first | omega | (simp only [IntKind.wrap_u8]; omega))) (by have h1 := HS.out.1; simp [le8]; omega) (HEQ.out.alloc _).sz ?_; intro v5 w5 hown hgrow; have HE5 := Lib.hid ((HEQ.out.alloc _).push hown hgrow); have HB5 := Lib.hid (boxV_push HBQ.out _ HEQ.out.own hgrow); clear hgrow hown)
                  go_roundw
                  case rel => exact ⟨7, by omega, by first | rfl | go_num, by simpa [le8, List.append_assoc] using HE5.out, HB5.out⟩
                  case measure => simp [intOf]
                · go_wp2_with (at_builtin; refine wp_push rfl _ _ rfl w.heap.size _ _ rfl (HEQ.out.own.alloc _) ⟨wr.heap.size, 0, none⟩ 1 1 [U / 72057594037927936 % 256] rfl rfl (news1' wr _ _ (by first | omega | (simp only [IntKind.wrap_u8]; omega))) (by have h1 := HS.out.1; simp [le8]; omega) (HEQ.out.alloc _).sz ?_; intro v5 w5 hown hgrow; have HE5 := Lib.hid ((HEQ.out.alloc _).push hown hgrow); have HB5 := Lib.hid (boxV_push HBQ.out _ HEQ.out.own hgrow); clear hgrow hown)
                  go_roundw
                  case rel => exact ⟨8, by omega, by first | rfl | go_num, by simpa [le8, List.append_assoc] using HE5.out, HB5.out⟩
                  case measure => simp [intOf]
                · go_wp2
                  go_roundw
                  case rel => exact ⟨k + 1, by omega, by go_num, ENXT.out _ _ (by rw [rv3, HUU.out]; simpa [le8] using HEQ.out)⟩
                  case measure => simp [intOf]; omega
            · have hs200 : ss.size ≤ 200 := HS.out.2.2
              have hlen : (sl ss).length = ss.size := sl_length ss
              go_wp2_with (first | (at_builtin; refine wp_push rfl _ _ rfl w.heap.size _ _ rfl (HE.out.own.alloc _) ⟨wx.heap.size, 0, none⟩ 1 1 [ss.size % 256] rfl rfl (news1' wx _ _ (by first | rfl | omega | (simp only [IntKind.wrap_u8]; omega))) (by have := HS.out.1; omega) (HE.out.alloc _).sz ?_; intro v1 w1 hown1 hgrow1; have HE1 := Lib.hid ((HE.out.alloc _).push hown1 hgrow1); have HB1 := Lib.hid (boxV_push HB.out _ HE.out.own hgrow1); clear hgrow1 hown1; obtain ⟨d0, d1, d2⟩ := HB1.out.cells))
              go_loopw [7, 14] (fun v j wz => ∃ q : Nat, q ≤ ss.size ∧ j = .int .i64 q ∧ En w wz w.heap.size v (L ++ [ss.size % 256] ++ (sl ss).take q) ∧ BoxV wz g 4 nn ss) (fun _ j _ => ss.size - (intOf j).toNat)
              case atStart => exact ⟨0, by omega, rfl, by simpa using HE1.out, HB1.out⟩
              case round =>
                obtain ⟨q, hq, rfl, hen, hbx⟩ := hrel
                obtain ⟨f0, f1, f2⟩ := hbx.cells
                have HEQ := Lib.hid hen
                have HBQ := Lib.hid hbx
                clear hen hbx d0 d1 d2
                by_cases hqs : q < ss.size
                · have hq1 : (q : Int) < (ss.size : Int) := by omega
                  have HT : Hid ((sl ss).take (q + 1) = (sl ss).take q ++ [(ss[q]'hqs).toNat]) := Lib.hid (by rw [List.take_add_one, slAt ss q hqs]; rfl)
                  go_wp2_with (first | (at_builtin; refine wp_push rfl _ _ rfl w.heap.size _ _ rfl (HEQ.out.own.alloc _) ⟨wr.heap.size, 0, none⟩ 1 1 [(ss[q]'hqs).toNat] rfl rfl (news1' wr _ _ (by first | rfl | omega | (simp; done))) (by have h1 := HS.out.1; have h2 := List.length_take_le q (sl ss); simp only [List.length_append, List.length_cons, List.length_nil] at h1 h2 ⊢; omega) (HEQ.out.alloc _).sz ?_; intro vw5 w5 hown hgrow; have HE5 := Lib.hid ((HEQ.out.alloc _).push hown hgrow); have HB5 := Lib.hid (boxV_push HBQ.out _ HEQ.out.own hgrow); clear hgrow hown; obtain ⟨x0, x1, x2⟩ := HB5.out.cells))
                  go_roundw
                  case rel => exact ⟨q + 1, by omega, by go_num, by rw [HT.out, ← List.append_assoc]; exact HE5.out, HB5.out⟩
                  case measure => simp [intOf]; omega
                · obtain rfl : q = ss.size := by omega
                  rw [← hlen, List.take_length] at HEQ
                  go_wp2
                  go_roundw
                  case rel => exact ⟨k + 1, by omega, by go_num, ENXT.out _ _ (by rw [rv4, ← hlen, ← List.append_assoc]; exact HEQ.out)⟩
                  case measure => simp [intOf]; omega
          · obtain rfl : k = n := by omega
            have HE := Lib.hid hen
            clear hen
            go_wp2
            exact HP.out _ _ (by have := HE.out; rw [HJ.out] at this; exact this)
  · generalize hP : (fun (e : Ending) (w' : World) => ∃ v, e = .returned (.tuple #[v, .int .i64 T]) ∧ OwB w' w.heap.size v (if T = 0 then rowB kf nf sf n else []) ∧ Below w.heap.size w w') = P
    have hpost : ∀ (v : Value) (w' : World), OwB w' w.heap.size v [] → Below w.heap.size w w' → P (.returned (.tuple #[v, .int .i64 T])) w' := by
      intro v w' h1 h2; rw [← hP]; exact ⟨v, rfl, by rw [if_neg hz]; exact h1, h2⟩
    have HP := Lib.hid hpost
    have hz' : (T != 0) = true := by simpa using hz
    clear hpost hP hr HTT hz
    go_enter Try.func12, Try.ntmps12
    go_wp2_with fail
    refine HF.out.mono ?_
    rintro e w1 ⟨rfl, hb1⟩
    have hz1 := hb1.size
    clear HF hA hB
    go_wp2
    exact HP.out _ _ ⟨World.ownsRow_made w1 #[] 0 hz1 (by decide) rfl, by simp⟩ (hb1.alloc hz1 _)

end Go.Proofs.Ytpknoclnmhomiab
