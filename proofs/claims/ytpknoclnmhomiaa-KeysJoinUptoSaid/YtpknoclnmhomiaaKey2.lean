/-
  Contract over the translation: the document's key of a list of right values (haspref05.Encode).
  Conditions: the list lies in memory; its values are right.
-/
import Derived.Test.YtpknoclnmhomiaaKey1
import Derived.Deep.DeepCutAuto
import Derived.Deep.QuietTactic
import Derived.BigQuiet
namespace Go.Proofs.Ytpknoclnmhomiaa
open Go.RowKit Go.Joins Go.ChangeShapes Go.WideShapes
set_option linter.unusedVariables false

/-- a text's bytes in a key, but for its end -/
def esc : List Nat → List Nat
  | [] => []
  | c :: r => (if c = 0 then [0, 255] else [c]) ++ esc r
theorem esc_app (l r : List Nat) : esc (l ++ r) = esc l ++ esc r := by
  induction l with
  | nil => rfl
  | cons c l ih => simp only [List.cons_append, esc, ih, List.append_assoc]
theorem esc_le (l : List Nat) : (esc l).length ≤ 2 * l.length := by
  induction l with
  | nil => simp [esc]
  | cons c l ih =>
    unfold esc
    rw [List.length_append, List.length_cons]
    split <;> simp <;> omega
theorem sl_at (s : ByteArray) (q : Nat) (h : q < s.size) : (sl s)[q]? = some (s[q]'h).toNat := by
  unfold sl
  rw [List.getElem?_map, Array.getElem?_toList, Array.getElem?_eq_getElem h]
  rfl
theorem esc_take (s : ByteArray) (q : Nat) (h : q < s.size) : esc ((sl s).take (q + 1)) = esc ((sl s).take q) ++ (if (s[q]'h).toNat = 0 then [0, 255] else [(s[q]'h).toNat]) := by
  rw [List.take_add_one, sl_at s q h, esc_app]
  simp only [Option.toList_some, esc, List.append_nil]
/-- a value's bytes -/
def vb (k n : Int) (s : ByteArray) : List Nat :=
  (k + 1).toNat :: (if k = 1 then [(n % 256).toNat] else if k = 2 then be8 (n + 9223372036854775808).toNat else if k = 3 then be8 (risV n).toNat else if k = 4 then esc (sl s) ++ [0, 1] else [])
theorem vb0 (n : Int) (s : ByteArray) : vb 0 n s = [1] := rfl
theorem vb1 (n : Int) (s : ByteArray) : vb 1 n s = [2] ++ [(n % 256).toNat] := rfl
theorem vb2 (n : Int) (s : ByteArray) : vb 2 n s = [3] ++ be8 (n + 9223372036854775808).toNat := rfl
theorem vb3 (n : Int) (s : ByteArray) : vb 3 n s = [4] ++ be8 (risV n).toNat := rfl
theorem vb4 (n : Int) (s : ByteArray) : vb 4 n s = [5] ++ (esc (sl s) ++ [0, 1]) := rfl
theorem ris_in {n : Int} (h : InI n) : 0 ≤ risV n ∧ risV n < 18446744073709551616 := by
  unfold InI at h
  unfold risV
  repeat' split
  all_goals omega
theorem vb_le (k n : Int) (s : ByteArray) : (vb k n s).length ≤ 2 * s.size + 9 := by
  have h := esc_le (sl s)
  rw [sl_length] at h
  unfold vb
  rw [List.length_cons]
  repeat' split
  all_goals first | (simp [be8]; done) | (simp; omega)
/-- a list's key -/
def keyB (kf nf : Nat → Int) (sf : Nat → ByteArray) : Nat → List Nat
  | 0 => []
  | m + 1 => keyB kf nf sf m ++ vb (kf m) (nf m) (sf m)
theorem keyB_le (kf nf : Nat → Int) (sf : Nat → ByteArray) : ∀ m, (∀ i, i < m → (sf i).size ≤ 200) → (keyB kf nf sf m).length ≤ m * 409
  | 0, _ => by simp [keyB]
  | m + 1, h => by
    have h1 := keyB_le kf nf sf m (fun i hi => h i (by omega))
    have h2 := vb_le (kf m) (nf m) (sf m)
    have h3 := h m (by omega)
    unfold keyB
    rw [List.length_append]
    omega

set_option maxHeartbeats 4000000 in
theorem refkey_some (b off m cap : Nat) (kf nf : Nat → Int) (sf : Nat → ByteArray) (hm : m ≤ 68719476736) (w : World) (hA : IsV w b off m kf nf sf)
    (hr : ∀ i, i < m → (0 ≤ kf i ∧ kf i ≤ 4) ∧ InI (nf i) ∧ (sf i).size ≤ 200) :
    Calls Try.prog 14 #[.slice (some ⟨b, off, none⟩) m cap] w fun e w' => ∃ v, e = .returned v ∧ OwB w' w.heap.size v (keyB kf nf sf m) ∧ Below w.heap.size w w' := by
  generalize hP : (fun (e : Ending) (w' : World) => ∃ v, e = .returned v ∧ OwB w' w.heap.size v (keyB kf nf sf m) ∧ Below w.heap.size w w') = P
  have hpost : ∀ (v : Value) (w' : World), En w w' w.heap.size v (keyB kf nf sf m) → P (.returned v) w' := by
    intro v w' h; rw [← hP]; exact ⟨v, rfl, h.own, h.bel⟩
  have HP := Lib.hid hpost
  have HR := Lib.hid hr
  have H8 := Lib.hid eight_any
  have HV := Lib.hid rising_any
  clear hpost hP hr
  go_enter Try.func14, Try.ntmps14
  go_wp2
  go_loopw [3, 4] (fun v i wr => ∃ k : Nat, k ≤ m ∧ i = .int .i64 k ∧ En w wr w.heap.size v (keyB kf nf sf k)) (fun _ i _ => m - (intOf i).toNat)
  case atStart =>
    exact ⟨0, by omega, rfl, ⟨World.ownsRow_made w #[] 0 (Nat.le_refl _) (by decide) rfl, by simp⟩, (Below.refl _ _).alloc (Nat.le_refl _) _, by simp⟩
  case round =>
    obtain ⟨k, hk, rfl, hen⟩ := hrel
    by_cases hlt : k < m
    · have hA' := hA.below hen.bel
      have a0 := hA'.c0 k hlt
      have a1 := hA'.c1 k hlt
      have a2 := hA'.c2 k hlt
      have hkm : (k : Int) < (m : Int) := by omega
      obtain ⟨⟨k1, k2⟩, i1, i2⟩ := HR.out k hlt
      have hl0 := keyB_le kf nf sf k (fun i hi => (HR.out i (by omega)).2.2)
      obtain ⟨kk, ek⟩ : ∃ x, kf k = x := ⟨_, rfl⟩
      obtain ⟨nn, en⟩ : ∃ x, nf k = x := ⟨_, rfl⟩
      obtain ⟨ss, es⟩ : ∃ x, sf k = x := ⟨_, rfl⟩
      rw [ek] at a0 k1 k2
      rw [en] at a1 i1
      rw [es] at a2 i2
      have ENXT : Hid (∀ v wx, En w wx w.heap.size v (keyB kf nf sf k ++ vb kk nn ss) → En w wx w.heap.size v (keyB kf nf sf (k + 1))) := fun v wx h => by
        have e : keyB kf nf sf (k + 1) = keyB kf nf sf k ++ vb kk nn ss := by rw [← ek, ← en, ← es]; rfl
        rw [e]; exact h
      have HS := Lib.hid (And.intro hl0 (And.intro i1 i2))
      have HE := Lib.hid (hen.alloc (.cells #[.int .i64 kk, .int .i64 nn, .string ss] 35))
      have HB := Lib.hid (boxV_new wr kk nn ss)
      have hkk : kk = 0 ∨ kk = 1 ∨ kk = 2 ∨ kk = 3 ∨ kk = 4 := by omega
      have hkm2 : k ≤ 68719476736 := by omega
      generalize hL : keyB kf nf sf k = L at *
      clear hA' ek en es i1 i2 hen hl0 k1 k2
      go_upto_region 6 with fail
      generalize wr.alloc (.cells #[.int .i64 kk, .int .i64 nn, .string ss] 35) = wx at *
      generalize wr.heap.size = g at *
      clear a0 a1 a2 hL
      obtain ⟨c0, c1, c2⟩ := HB.out.cells
      rcases hkk with rfl | rfl | rfl | rfl | rfl
      · go_wp2_with (first | (at_builtin; refine wp_push rfl _ _ rfl w.heap.size _ _ rfl (HE.out.own.alloc _) ⟨wx.heap.size, 0, none⟩ 1 1 [1] rfl rfl (news1' wx _ _ (by first | rfl | omega | (simp only [IntKind.wrap_u8]; omega))) (by have := HS.out.1; omega) (HE.out.alloc _).sz ?_; intro v1 w1 hown1 hgrow1; have HE1 := Lib.hid ((HE.out.alloc _).push hown1 hgrow1); have HB1 := Lib.hid (boxV_push HB.out _ HE.out.own hgrow1); obtain ⟨d0, d1, d2⟩ := HB1.out.cells; clear hgrow1 hown1))
        go_roundw
        case rel => exact ⟨k + 1, by omega, by go_num, ENXT.out _ _ (by rw [vb0]; exact HE1.out)⟩
        case measure => simp [intOf]; omega
      · have hz : 0 ≤ nn % 256 := Int.emod_nonneg _ (by decide)
        go_wp2_with (first | (at_builtin; refine wp_push rfl _ _ rfl w.heap.size _ _ rfl (HE1.out.own.alloc _) ⟨w1.heap.size, 0, none⟩ 1 1 [(nn % 256).toNat] rfl rfl (news1' w1 _ _ (by first | rfl | omega | (simp only [IntKind.wrap_u8]; omega))) (by have := HS.out.1; simp; omega) (HE1.out.alloc _).sz ?_; intro v3 w3 hown3 hgrow3; have HE3 := Lib.hid ((HE1.out.alloc _).push hown3 hgrow3); clear hgrow3 hown3) | (at_builtin; refine wp_push rfl _ _ rfl w.heap.size _ _ rfl (HE.out.own.alloc _) ⟨wx.heap.size, 0, none⟩ 1 1 [2] rfl rfl (news1' wx _ _ (by first | rfl | omega | (simp only [IntKind.wrap_u8]; omega))) (by have := HS.out.1; omega) (HE.out.alloc _).sz ?_; intro v1 w1 hown1 hgrow1; have HE1 := Lib.hid ((HE.out.alloc _).push hown1 hgrow1); have HB1 := Lib.hid (boxV_push HB.out _ HE.out.own hgrow1); obtain ⟨d0, d1, d2⟩ := HB1.out.cells; clear hgrow1 hown1))
        go_roundw
        case rel => exact ⟨k + 1, by omega, by go_num, ENXT.out _ _ (by rw [vb1, ← List.append_assoc]; exact HE3.out)⟩
        case measure => simp [intOf]; omega
      · obtain ⟨U, hU⟩ : ∃ U, (nn + 9223372036854775808).toNat = U := ⟨_, rfl⟩
        have hin := HS.out.2.1
        unfold InI at hin
        have HU := Lib.hid (show U < 18446744073709551616 by omega)
        have e8 : IntKind.u64.wrap (IntKind.u64.wrap nn + 9223372036854775808) = (U : Int) := by simp only [IntKind.wrap_u64]; omega
        have e8' : IntKind.u64.wrap (nn + 9223372036854775808) = (U : Int) := by simp only [IntKind.wrap_u64]; omega
        have HUU := Lib.hid hU
        clear hin hU
        go_wp2_with (first | (at_builtin; refine wp_push rfl _ _ rfl w.heap.size _ _ rfl HE2.out.own ⟨g8, 0, none⟩ (be8 U).length cap8 (be8 U) rfl rfl (fun j u h => by rw [add0]; exact HC8.out j u h) (by have := HS.out.1; simp [be8]; omega) HE2.out.sz ?_; intro v3 w3 hown3 hgrow3; have HE3 := Lib.hid (HE2.out.push hown3 hgrow3); clear hgrow3 hown3) | (go_at_call 25; refine (H8.out U HU.out _).mono ?_; rintro x w2 ⟨v8, rfl, own8, b8⟩; obtain ⟨g8, cap8, rfl, hb8, hl8, hc8⟩ := own8.form; have HE2 := Lib.hid (HE1.out.step b8); have HC8 := Lib.hid hc8; clear b8 own8 hb8 hc8) | (at_builtin; refine wp_push rfl _ _ rfl w.heap.size _ _ rfl (HE.out.own.alloc _) ⟨wx.heap.size, 0, none⟩ 1 1 [3] rfl rfl (news1' wx _ _ (by first | rfl | omega | (simp only [IntKind.wrap_u8]; omega))) (by have := HS.out.1; omega) (HE.out.alloc _).sz ?_; intro v1 w1 hown1 hgrow1; have HE1 := Lib.hid ((HE.out.alloc _).push hown1 hgrow1); have HB1 := Lib.hid (boxV_push HB.out _ HE.out.own hgrow1); obtain ⟨d0, d1, d2⟩ := HB1.out.cells; clear hgrow1 hown1))
        go_roundw
        case rel => exact ⟨k + 1, by omega, by go_num, ENXT.out _ _ (by rw [vb2, ← List.append_assoc, HUU.out]; exact HE3.out)⟩
        case measure => simp [intOf]; omega
      · have hri := ris_in HS.out.2.1
        have hv := HV.out nn HS.out.2.1
        obtain ⟨U, hU⟩ : ∃ U, (risV nn).toNat = U := ⟨_, rfl⟩
        have e8 : risV nn = (U : Int) := by omega
        rw [e8] at hv
        have HU := Lib.hid (show U < 18446744073709551616 by omega)
        have HUU := Lib.hid hU
        have HV2 := Lib.hid hv
        clear hU hri e8 hv
        go_wp2_with (first | (at_builtin; refine wp_push rfl _ _ rfl w.heap.size _ _ rfl HE2.out.own ⟨g8, 0, none⟩ (be8 U).length cap8 (be8 U) rfl rfl (fun j u h => by rw [add0]; exact HC8.out j u h) (by have := HS.out.1; simp [be8]; omega) HE2.out.sz ?_; intro v3 w3 hown3 hgrow3; have HE3 := Lib.hid (HE2.out.push hown3 hgrow3); clear hgrow3 hown3) | (go_at_call 25; refine (H8.out U HU.out _).mono ?_; rintro x w2 ⟨v8, rfl, own8, b8⟩; obtain ⟨g8, cap8, rfl, hb8, hl8, hc8⟩ := own8.form; have HE2 := Lib.hid (HE1.out.step b8); have HC8 := Lib.hid hc8; clear b8 own8 hb8 hc8) | (go_at_call 26; refine (HV2.out _).mono ?_; rintro x w1' ⟨rfl, rfl⟩) | (at_builtin; refine wp_push rfl _ _ rfl w.heap.size _ _ rfl (HE.out.own.alloc _) ⟨wx.heap.size, 0, none⟩ 1 1 [4] rfl rfl (news1' wx _ _ (by first | rfl | omega | (simp only [IntKind.wrap_u8]; omega))) (by have := HS.out.1; omega) (HE.out.alloc _).sz ?_; intro v1 w1 hown1 hgrow1; have HE1 := Lib.hid ((HE.out.alloc _).push hown1 hgrow1); have HB1 := Lib.hid (boxV_push HB.out _ HE.out.own hgrow1); obtain ⟨d0, d1, d2⟩ := HB1.out.cells; clear hgrow1 hown1))
        go_roundw
        case rel => exact ⟨k + 1, by omega, by go_num, ENXT.out _ _ (by rw [vb3, ← List.append_assoc, HUU.out]; exact HE3.out)⟩
        case measure => simp [intOf]; omega
      · go_wp2_with (first | (at_builtin; refine wp_push rfl _ _ rfl w.heap.size _ _ rfl (HE.out.own.alloc _) ⟨wx.heap.size, 0, none⟩ 1 1 [5] rfl rfl (news1' wx _ _ (by first | rfl | omega | (simp only [IntKind.wrap_u8]; omega))) (by have := HS.out.1; omega) (HE.out.alloc _).sz ?_; intro v1 w1 hown1 hgrow1; have HE1 := Lib.hid ((HE.out.alloc _).push hown1 hgrow1); have HB1 := Lib.hid (boxV_push HB.out _ HE.out.own hgrow1); obtain ⟨d0, d1, d2⟩ := HB1.out.cells; clear hgrow1 hown1))
        have hbl : g < w1.heap.size := HB1.out.lt
        have hlen : (sl ss).length = ss.size := sl_length ss
        go_loopw [3, 6] (fun v j wz => ∃ q : Nat, q ≤ ss.size ∧ j = .int .i64 q ∧ En w wz w.heap.size v (L ++ [5] ++ esc ((sl ss).take q)) ∧ BoxV wz g 4 nn ss) (fun _ j _ => ss.size - (intOf j).toNat)
        case atStart => exact ⟨0, by omega, rfl, by simpa [esc] using HE1.out, HB1.out⟩
        case round =>
          obtain ⟨q, hq, rfl, hen, hbx⟩ := hrel
          obtain ⟨f0, f1, f2⟩ := hbx.cells
          have hs200 : ss.size ≤ 200 := HS.out.2.2
          have HEQ := Lib.hid hen
          have HBQ := Lib.hid hbx
          clear hen hbx d0 d1 d2
          by_cases hqs : q < ss.size
          · have hq1 : (q : Int) < (ss.size : Int) := by omega
            have HLE := Lib.hid (show (esc ((sl ss).take q)).length ≤ 400 by have h1 := esc_le ((sl ss).take q); have h2 := HS.out.2.2; rw [List.length_take, hlen] at h1; omega)
            have HT := Lib.hid (esc_take ss q hqs)
            have hlt8 : (ss[q]'hqs).toNat < 256 := (ss[q]'hqs).toNat_lt
            by_cases hz : (ss[q]'hqs).toNat = 0
            · have hz2 : (ss[q]'hqs) = 0 := UInt8.toNat_inj.1 hz
              have HZ := Lib.hid hz
              clear hz hlt8
              go_wp2_with (first | (at_builtin; refine wp_push rfl _ _ rfl w.heap.size _ _ rfl (HE5.out.own.alloc _) ⟨w5.heap.size, 0, none⟩ 1 1 [255] rfl rfl (news1' w5 _ _ (by first | rfl | omega | (simp; done))) (by have h1 := HS.out.1; have h2 := HLE.out; simp only [List.length_append, List.length_cons, List.length_nil] at h2 ⊢; omega) (HE5.out.alloc _).sz ?_; intro vw6 w6 hown hgrow; have HE6 := Lib.hid ((HE5.out.alloc _).push hown hgrow); have HB6 := Lib.hid (boxV_push HB5.out _ HE5.out.own hgrow); obtain ⟨x0, x1, x2⟩ := HB6.out.cells; clear hgrow hown) | (at_builtin; refine wp_push rfl _ _ rfl w.heap.size _ _ rfl (HEQ.out.own.alloc _) ⟨wr.heap.size, 0, none⟩ 1 1 [0] rfl rfl (news1' wr _ _ (by first | rfl | omega | (simp; done))) (by have h1 := HS.out.1; have h2 := HLE.out; simp only [List.length_append, List.length_cons, List.length_nil] at h2 ⊢; omega) (HEQ.out.alloc _).sz ?_; intro vw5 w5 hown hgrow; have HE5 := Lib.hid ((HEQ.out.alloc _).push hown hgrow); have HB5 := Lib.hid (boxV_push HBQ.out _ HEQ.out.own hgrow); obtain ⟨x0, x1, x2⟩ := HB5.out.cells; clear hgrow hown))
              go_roundw
              case rel => exact ⟨q + 1, by omega, by go_num, by rw [HT.out, if_pos HZ.out, ← List.append_assoc]; simpa using HE6.out, HB6.out⟩
              case measure => simp [intOf]; omega
            · have hz1 : (((ss[q]'hqs).toNat : Int) == 0) = false := by simpa using hz
              have hz2 : ((ss[q]'hqs) == 0) = false := by simpa using fun e => hz (by rw [e]; rfl)
              have hz3 : ((ss[q]'hqs).toNat == 0) = false := by simpa using hz
              have hz4 : ¬ (ss[q]'hqs) = 0 := fun e => hz (by rw [e]; rfl)
              have HZ := Lib.hid hz
              clear hlt8
              go_wp2_with (first | (at_builtin; refine wp_push rfl _ _ rfl w.heap.size _ _ rfl (HEQ.out.own.alloc _) ⟨wr.heap.size, 0, none⟩ 1 1 [(ss[q]'hqs).toNat] rfl rfl (news1' wr _ _ (by first | rfl | omega | (simp; done))) (by have h1 := HS.out.1; have h2 := HLE.out; simp only [List.length_append, List.length_cons, List.length_nil] at h2 ⊢; omega) (HEQ.out.alloc _).sz ?_; intro vw5 w5 hown hgrow; have HE5 := Lib.hid ((HEQ.out.alloc _).push hown hgrow); have HB5 := Lib.hid (boxV_push HBQ.out _ HEQ.out.own hgrow); obtain ⟨x0, x1, x2⟩ := HB5.out.cells; clear hgrow hown))
              go_roundw
              case rel => exact ⟨q + 1, by omega, by go_num, by rw [HT.out, if_neg HZ.out, ← List.append_assoc]; exact HE5.out, HB5.out⟩
              case measure => simp [intOf]; omega
          · obtain rfl : q = ss.size := by omega
            have HLE := Lib.hid (show (esc (sl ss)).length ≤ 400 by have h1 := esc_le (sl ss); have h2 := HS.out.2.2; rw [hlen] at h1; omega)
            rw [← hlen, List.take_length] at HEQ
            go_wp2_with (first | (at_builtin; refine wp_push rfl _ _ rfl w.heap.size _ _ rfl (HEQ.out.own.alloc _) ⟨wr.heap.size, 0, none⟩ 2 2 [0, 1] rfl rfl (news2 wr 0 1) (by have h1 := HS.out.1; have h2 := HLE.out; simp only [List.length_append, List.length_cons, List.length_nil] at h2 ⊢; omega) (HEQ.out.alloc _).sz ?_; intro v7 w7 hown hgrow; have HE7 := Lib.hid ((HEQ.out.alloc _).push hown hgrow); clear hgrow hown))
            go_roundw
            case rel => exact ⟨k + 1, by omega, by go_num, ENXT.out _ _ (by rw [vb4]; simpa [List.append_assoc] using HE7.out)⟩
            case measure => simp [intOf]; omega
    · obtain rfl : k = m := by omega
      have HE := Lib.hid hen
      clear hen
      go_wp2
      exact HP.out _ _ HE.out

end Go.Proofs.Ytpknoclnmhomiaa
