/-
  Texts of mine put together, in build order.
  Conditions: as each declaration says.
-/
import Derived.Deep.QuietTactic
import Derived.Deep.DeepCutAuto
import Derived.Deep.WholeRow
import Derived.Great.Walk
import Derived.Great.BuildSlice
import Derived.Laws.Strings3
import Derived.Test.YtkffomfbnbcgaaaGreatDoorZp10
namespace Go.Proofs.YtkffomfbnbcgaaaGreatDoor
set_option maxRecDepth 100000
open Go.RowKit Go.Joins Go.ChangeShapes Go.WideShapes
set_option linter.unusedVariables false
set_option linter.unusedSimpArgs false

theorem smI_low (c : Nat) : smI c = lowL c := by
  unfold smI lowL cpL
  by_cases h : 65 ≤ c ∧ c ≤ 90
  · rw [if_pos h, if_pos (by simpa using h)]
  · rw [if_neg h, if_neg (by simpa using h)]
/-- how the word's loop stands -/
structure RwS (w wr : World) (l : List Nat) (v : Value) (k : Nat) : Prop where
  own : OwB wr (w.heap.size + 1) v ((l.take k).map lowL)
  kl : k ≤ runL iwL l
  bel : Below w.heap.size w wr
  sz : w.heap.size + 1 ≤ wr.heap.size
  bx : TBox wr w.heap.size 0 0 0 ⟨#[]⟩
set_option maxHeartbeats 4000000 in
theorem rword_any (s : ByteArray) (i0 : Nat) (w : World) (hi : i0 < s.size) (hs : s.size ≤ 4294967296) (hb : bwL ((sl s).getD i0 0) = true) :
    Calls Tryz.prog 36 #[.string s, .int .i64 (i0 : Int)] w (RTok (wrdE ((sl s).drop i0)) i0 w) := by
  have b1 : Below w.heap.size w (w.alloc (.cells #[.int .i64 0, .string ⟨#[]⟩, .int .i64 0, .int .i64 0] 47)) := (Below.refl _ _).alloc (Nat.le_refl _) _
  have hnew : TBox (w.alloc (.cells #[.int .i64 0, .string ⟨#[]⟩, .int .i64 0, .int .i64 0] 47)) w.heap.size 0 0 0 ⟨#[]⟩ := heap_alloc_new w (.cells #[.int .i64 0, .string ⟨#[]⟩, .int .i64 0, .int .i64 0] 47)
  obtain ⟨l, hl⟩ : ∃ l, (sl s).drop i0 = l := ⟨_, rfl⟩
  have hll : l.length + i0 = s.size := by rw [← hl, List.length_drop, sl_length]; omega
  have hget : ∀ k, (sl s).getD (i0 + k) 0 = l.getD k 0 := fun k => by rw [← hl, getD_drop]
  have hgx : ∀ (k : Nat) (h : i0 + k < s.size), (s[i0 + k]'h).toNat = l.getD k 0 := fun k h => by rw [← hget, slx_get s _ h]
  have hqle := runL_le iwL l
  rw [hl]
  have HS0 : Hid (RwS w ((w.alloc (.cells #[.int .i64 0, .string ⟨#[]⟩, .int .i64 0, .int .i64 0] 47)).alloc (.cells #[] 5)) l (.slice (some ⟨w.heap.size + 1, 0, none⟩) 0 0) 0) := Lib.hid
    ⟨⟨by
        have := World.ownsRow_made (w.alloc (.cells #[.int .i64 0, .string ⟨#[]⟩, .int .i64 0, .int .i64 0] 47)) #[] 0 (base := w.heap.size + 1) (e := 5) (size := 1) (by simp) (by decide) rfl
        simpa [bcells] using this, by simp⟩, Nat.zero_le _, b1.alloc (by simp) _, by simp, hnew.below ((Below.refl _ _).alloc (Nat.le_refl _) _)⟩
  have hc0 := hgx 0 hi
  have hc8 : l.getD 0 0 < 256 := by have := slx_lt s (i0 + 0); rw [hget] at this; exact this
  have hb0 : ltL (l.getD 0 0) = true := by rw [ltL_eq, ← hget]; exact hb
  have HL0 := Lib.hid (rletter_any (l.getD 0 0) (w.alloc (.cells #[.int .i64 0, .string ⟨#[]⟩, .int .i64 0, .int .i64 0] 47)) hc8)
  rw [hb0] at HL0
  have hc0 : (s[i0]'hi).toNat = l.getD 0 0 := hc0
  generalize l.getD 0 0 = c0 at *
  generalize hP : RTok (wrdE l) i0 w = P
  have HP := Lib.hid hP
  have HGX := Lib.hid hgx
  have HAT := Lib.hid (fun (k : Nat) (wx : World) => rat_any s (i0 + k) wx)
  have HGET := Lib.hid hget
  have HRA := Lib.hid (runL_at (f := iwL) (by rfl) l)
  have hwq : wrdE l = if runL iwL l > 32 then .error 122 else .ok (⟨1, (l.take (runL iwL l)).map lowL, 0, 0⟩, runL iwL l) := rfl
  clear hP hgx hl hget b1 hnew hb hb0
  generalize hq : runL iwL l = q at *
  have HQ := Lib.hid hq
  clear hq
  have HWQ := Lib.hid hwq
  clear hwq
  go_enter Tryz.func36, Tryz.ntmps36
  go_wp2_with fail
  try go_at_call 68
  refine HL0.out.mono ?_
  rintro e w' ⟨rfl, rfl⟩
  go_wp2_with fail
  go_loopw [1, 8] (fun i v wr => ∃ k, i = .int .i64 ((i0 + k : Nat) : Int) ∧ RwS w wr l v k) (fun i _ _ => i0 + l.length - (intOf i).toNat)
  case atStart => exact ⟨0, rfl, by simpa using HS0.out⟩
  case round =>
    obtain ⟨k, rfl, hs⟩ := hrel
    have HS := Lib.hid hs
    have hkl : k ≤ q := by have := hs.kl; rw [HQ.out] at this; exact this
    obtain ⟨⟨e0, e1, e2, e3⟩, f0, f1, f4, f3⟩ := hs.bx.cells
    have hra := HRA.out k hkl
    clear hs
    have HA := Lib.hid (HAT.out k wr)
    rw [HGET.out] at HA
    have hgx := HGX.out k
    have hc8 : l.getD k 0 < 256 := by have := slx_lt s (i0 + k); rw [HGET.out] at this; exact this
    have hsn := take_snoc l k
    generalize l.getD k 0 = c at *
    have HL := Lib.hid (rletter_any c wr hc8)
    have HD := Lib.hid (rdigit_any c wr hc8)
    have HM := Lib.hid (rsmall_any c hc8 wr)
    rw [ltL_eq] at HL
    rw [smI_low] at HM
    have hlow := low_lt hc8
    have hlow2 : lowL c = lowL c := rfl
    generalize hlc : lowL c = lc at *
    cases hv : iwL c with
    | true =>
      have hkq := hra.1 hv
      have hix : i0 + k < s.size := by omega
      have hsx := hgx hix
      have HSN := Lib.hid (hsn (by omega))
      have w7' : IntKind.i64.wrap ((i0 : Int) + (k : Int) + 1) = (i0 : Int) + (k : Int) + 1 := by rw [IntKind.wrap_i64]; omega
      have hll2 : ((l.take k).map lowL).length = k := by rw [List.length_map, List.length_take]; omega
      have HLC := Lib.hid hlc
      clear hra hgx hsn hlow2 hlc
      have hbd : bwL c = true ∨ (bwL c = false ∧ dgL c = true) := by
        unfold iwL at hv
        cases hbc : bwL c with
        | true => exact .inl rfl
        | false => rw [hbc] at hv; exact .inr ⟨rfl, hv⟩
      rcases hbd with h1 | ⟨h1, h2⟩
      · rw [h1] at HL
        go_wp2_with (first | (go_at_call 69; refine HA.out.mono ?_; rintro e w' ⟨rfl, rfl⟩) | (go_at_call 68; refine HL.out.mono ?_; rintro e w' ⟨rfl, rfl⟩) | (go_at_call 70; refine HD.out.mono ?_; rintro e w' ⟨rfl, rfl⟩) | (go_at_call 71; refine HM.out.mono ?_; rintro e w' ⟨rfl, rfl⟩) | (at_builtin; refine wp_push rfl _ _ rfl (w.heap.size + 1) u8 ((l.take k).map lowL) rfl (HS.out.own.alloc _) ⟨wr.heap.size, 0, none⟩ 1 1 [lc] rfl rfl (news1' wr lc _ (by first | rfl | simp)) (by rw [hll2]; omega) (by have := HS.out.sz; simp; omega) ?_; intro v2 w2 own2 gr2; have HX2 := Lib.hid (And.intro own2 gr2); clear own2 gr2))
        have hb2 : Below w.heap.size w w2 := (HS.out.bel.alloc (by have := HS.out.sz; omega) _).grown HX2.out.2 (by have := HS.out.sz; simp; omega) (fun g hg => by have := (HS.out.own.lt g hg).1; omega)
        have bx2 := (HS.out.bx.below ((Below.refl _ _).alloc (Nat.le_refl _) (.cells #[.int .u8 (lc : Int)] 5))).grown HX2.out.2 (fun g hg => by have := (HS.out.own.lt g hg).1; omega)
        have hs2 := HX2.out.2.size
        have hs2' : w.heap.size + 1 ≤ w2.heap.size := by have := HS.out.sz; simp at hs2; omega
        refine ⟨⟨k + 1, by congr 1, ⟨?_, by rw [HQ.out]; exact hkq, hb2, hs2', bx2⟩⟩, by simp [intOf]; omega⟩
        rw [HSN.out, List.map_append]
        have := HX2.out.1
        rw [← HLC.out] at this
        exact this
      · rw [h1] at HL
        rw [h2] at HD
        go_wp2_with (first | (go_at_call 69; refine HA.out.mono ?_; rintro e w' ⟨rfl, rfl⟩) | (go_at_call 68; refine HL.out.mono ?_; rintro e w' ⟨rfl, rfl⟩) | (go_at_call 70; refine HD.out.mono ?_; rintro e w' ⟨rfl, rfl⟩) | (go_at_call 71; refine HM.out.mono ?_; rintro e w' ⟨rfl, rfl⟩) | (at_builtin; refine wp_push rfl _ _ rfl (w.heap.size + 1) u8 ((l.take k).map lowL) rfl (HS.out.own.alloc _) ⟨wr.heap.size, 0, none⟩ 1 1 [lc] rfl rfl (news1' wr lc _ (by first | rfl | simp)) (by rw [hll2]; omega) (by have := HS.out.sz; simp; omega) ?_; intro v2 w2 own2 gr2; have HX2 := Lib.hid (And.intro own2 gr2); clear own2 gr2))
        have hb2 : Below w.heap.size w w2 := (HS.out.bel.alloc (by have := HS.out.sz; omega) _).grown HX2.out.2 (by have := HS.out.sz; simp; omega) (fun g hg => by have := (HS.out.own.lt g hg).1; omega)
        have bx2 := (HS.out.bx.below ((Below.refl _ _).alloc (Nat.le_refl _) (.cells #[.int .u8 (lc : Int)] 5))).grown HX2.out.2 (fun g hg => by have := (HS.out.own.lt g hg).1; omega)
        have hs2 := HX2.out.2.size
        have hs2' : w.heap.size + 1 ≤ w2.heap.size := by have := HS.out.sz; simp at hs2; omega
        refine ⟨⟨k + 1, by congr 1, ⟨?_, by rw [HQ.out]; exact hkq, hb2, hs2', bx2⟩⟩, by simp [intOf]; omega⟩
        rw [HSN.out, List.map_append]
        have := HX2.out.1
        rw [← HLC.out] at this
        exact this
    | false =>
      have hkq := hra.2 hv
      have hbd : bwL c = false ∧ dgL c = false := by
        unfold iwL at hv
        cases hbc : bwL c with
        | true => rw [hbc] at hv; cases hv
        | false => rw [hbc] at hv; exact ⟨rfl, hv⟩
      rw [hbd.1] at HL
      rw [hbd.2] at HD
      subst hkq
      have hll2 : ((l.take k).map lowL).length = k := by rw [List.length_map, List.length_take]; omega
      have hst := str_own HS.out.own
      obtain ⟨gv, capv, ev, _⟩ := HS.out.own.form
      rw [hll2] at ev
      subst ev
      have hP1 := HP.out
      rw [HWQ.out] at hP1
      have HSB := Lib.hid HS.out.bx
      have HBL := Lib.hid HS.out.bel
      obtain ⟨S, hS⟩ : ∃ S, strB ((l.take k).map lowL) = S := ⟨_, rfl⟩
      rw [hS] at hst
      clear hra hgx hsn HM hlow2 hbd
      by_cases c32 : k > 32
      · have k32 : decide ((32 : Int) < (k : Int)) = true := by simp; omega
        rw [if_pos c32] at hP1
        have HX : Hid (∀ q : Int, P (.returned (.tuple #[Tkv 0 ⟨#[]⟩ 0 0, .int .i64 q, .int .i64 122])) ((((wr.setCell ⟨w.heap.size, 0, none⟩ (.int .i64 0)).setCell ⟨w.heap.size, 1, none⟩ (.string ⟨#[]⟩)).setCell ⟨w.heap.size, 2, none⟩ (.int .i64 0)).setCell ⟨w.heap.size, 3, none⟩ (.int .i64 0))) := Lib.hid (by
          intro q
          rw [← hP1]
          exact ⟨box4_below HBL.out (Nat.le_refl _) _ _ _ _, q, rfl⟩)
        clear hP1 hS hst HS hll2
        go_wp2_with (first | (go_at_call 69; refine HA.out.mono ?_; rintro e w' ⟨rfl, rfl⟩) | (go_at_call 68; refine HL.out.mono ?_; rintro e w' ⟨rfl, rfl⟩) | (go_at_call 70; refine HD.out.mono ?_; rintro e w' ⟨rfl, rfl⟩))
        exact rtok_ret Tryz.results36 (box_four HSB.out _ _ _ _) rfl rfl rfl rfl (HX.out _)
      · have k32 : decide ((32 : Int) < (k : Int)) = false := by simp; omega
        rw [if_neg c32] at hP1
        have HX : Hid (P (.returned (.tuple #[Tkv 1 S 0 0, .int .i64 ((i0 : Int) + (k : Int)), .int .i64 0])) ((((wr.setCell ⟨w.heap.size, 0, none⟩ (.int .i64 1)).setCell ⟨w.heap.size, 1, none⟩ (.string S)).setCell ⟨w.heap.size, 2, none⟩ (.int .i64 0)).setCell ⟨w.heap.size, 3, none⟩ (.int .i64 0))) := Lib.hid (by
          rw [← hP1, ← hS]
          exact ⟨box4_below HBL.out (Nat.le_refl _) _ _ _ _, by congr 1⟩)
        clear hP1 hS HS hll2
        go_wp2_with (first | (go_at_call 69; refine HA.out.mono ?_; rintro e w' ⟨rfl, rfl⟩) | (go_at_call 68; refine HL.out.mono ?_; rintro e w' ⟨rfl, rfl⟩) | (go_at_call 70; refine HD.out.mono ?_; rintro e w' ⟨rfl, rfl⟩))
        exact rtok_ret Tryz.results36 (box_four HSB.out _ _ _ _) rfl rfl rfl rfl HX.out

end Go.Proofs.YtkffomfbnbcgaaaGreatDoor

namespace Go.Proofs.YtkffomfbnbcgaaaGreatDoor
set_option maxRecDepth 100000
open Go.RowKit Go.Joins Go.ChangeShapes Go.WideShapes Go.Great
set_option linter.unusedVariables false
set_option linter.unusedSimpArgs false

/-- the reserved words as the document's list has them -/
def resV : Array Value := (resW.map fun l => Value.string ⟨l.toArray⟩).toArray
theorem res_cell {W1 : World} {g : Nat} (hn : W1.heap[g]? = some (.cells resV 159 (0, 0))) (k : Nat) (hk : k < 37) : W1.cell? ⟨g, k, none⟩ = some (.string ⟨(resW.getD k []).toArray⟩) := by
  rw [cell_of_block hn]
  unfold resV
  have hl : k < resW.length := hk
  rw [List.getElem?_toArray, List.getElem?_map, List.getElem?_eq_getElem hl, List.getD_eq_getElem?_getD, List.getElem?_eq_getElem hl]
  rfl
theorem res_eq (s : ByteArray) (l : List UInt8) : (l == s.toList) = (s.toList == l) := by
  rw [Bool.eq_iff_iff]
  simp only [beq_iff_eq]
  exact ⟨fun h => h.symm, fun h => h.symm⟩
theorem res_yes (s : ByteArray) (k : Nat) (hk : k < 37) (h : (s.toList == resW.getD k []) = true) : resB s = true := by
  unfold resB
  refine List.any_eq_true.2 ⟨resW.getD k [], ?_, h⟩
  have hl : k < resW.length := hk
  rw [List.getD_eq_getElem?_getD, List.getElem?_eq_getElem hl]
  exact List.getElem_mem hl
theorem res_no (s : ByteArray) (h : ∀ j, j < 37 → (s.toList == resW.getD j []) = false) : resB s = false := by
  unfold resB
  refine List.any_eq_false.2 fun x hx => ?_
  obtain ⟨i, hi⟩ := List.getElem?_of_mem hx
  have hl : i < resW.length := (List.getElem?_eq_some_iff.1 hi).1
  have := h i hl
  rw [List.getD_eq_getElem?_getD, hi] at this
  simpa using this
set_option maxHeartbeats 1000000 in
theorem rres_any (s : ByteArray) (w : World) : Calls Tryz.prog 74 #[.string s] w fun e w' => e = .returned (.bool (resB s)) ∧ Below w.heap.size w w' := by
  go_enter Tryz.func74, Tryz.ntmps74
  go_upto_region 1 with fail
  refine wp_region_lit ?_
  refine wpList_buildTo rfl 159 _ rfl (some 5) rfl resV (by kernel_rfl) ?_
  refine wpList_allocTo rfl (some 3) rfl (.pointer (some ⟨w.heap.size, 0, none⟩)) (.cells (List.replicate 37 (Value.string ByteArray.empty)).toArray 159) (by kernel_rfl) ?_
  refine wpList_store_rowOf rfl 159 (.tmp 3) (.tmp 5) rfl w.heap.size rfl rfl 159 (List.replicate 37 (Value.string ByteArray.empty)).toArray (heap_alloc_new w _) (by kernel_rfl) (by kernel_rfl) (by kernel_rfl) ?_
  rw [show ∀ (x : Array Value), (w.alloc (.cells (List.replicate 37 (Value.string ByteArray.empty)).toArray 159)).setRow w.heap.size x = w.alloc (.cells x 159) from fun x => World.setRow_alloc_new w _ x _]
  refine wpList_frame (a' := ⟨#[.string s, undef, .bool false, .pointer (some ⟨w.heap.size, 0, none⟩), undef, .agg resV, undef, undef, undef, undef, undef, undef, undef, undef, undef], []⟩) (by kernel_rfl) ?_
  refine wpList_nil ?_
  show _
  generalize hW : w.alloc (.cells _ 159) = W1
  have hn := heap_alloc_new w (.cells resV 159)
  have hb := (Below.refl w.heap.size w).alloc (Nat.le_refl _) (.cells resV 159)
  change w.alloc (.cells resV 159) = W1 at hW
  rw [hW] at hn hb
  have HN := Lib.hid hn
  have HB := Lib.hid hb
  clear hW hn hb
  go_wp2_with fail
  go_loopw [4] (fun i wr => ∃ k : Nat, k ≤ 37 ∧ i = .int .i64 (k : Int) ∧ Hid (∀ j, j < k → (s.toList == resW.getD j []) = false) ∧ W1 = wr) (fun i _ => 37 - (intOf i).toNat)
  case atStart => exact ⟨0, by omega, rfl, Lib.hid (fun j h => absurd h (by omega)), by trivial⟩
  case round =>
    obtain ⟨k, hk, rfl, HJ, rfl⟩ := hrel
    by_cases hkn : k < 37
    · have hk2 : (k : Int) < 37 := by omega
      have hc := res_cell HN.out k hkn
      have he := res_eq s (resW.getD k [])
      have hyes := res_yes s k hkn
      obtain ⟨l, hl⟩ : ∃ l, resW.getD k [] = l := ⟨_, rfl⟩
      rw [hl] at hc he hyes
      have HY := Lib.hid (And.intro hyes hl)
      clear hyes hl
      have w5' : IntKind.i64.wrap ((k : Int) + 1) = (k : Int) + 1 := by rw [IntKind.wrap_i64]; omega
      obtain ⟨b, hb⟩ : ∃ b, (s.toList == l) = b := ⟨_, rfl⟩
      rw [hb] at he
      have HB2 := Lib.hid hb
      clear hb
      cases b with
      | true =>
        go_wp2_with fail
        go_ret
        exact ⟨by rw [HY.out.1 HB2.out]; rfl, HB.out⟩
      | false =>
        go_wp2_with fail
        refine ⟨⟨k + 1, by omega, by congr 1, Lib.hid (fun j hj => ?_), by trivial⟩, by simp [intOf]; omega⟩
        by_cases hjk : j < k
        · exact HJ.out j hjk
        · obtain rfl : j = k := by omega
          rw [HY.out.2]
          exact HB2.out
    · obtain rfl : k = 37 := by omega
      have hno := res_no s HJ.out
      have HNO := Lib.hid hno
      clear hno
      go_wp2_with fail
      go_ret
      exact ⟨by rw [HNO.out]; rfl, HB.out⟩

theorem in_iff (c : Nat) : inL c = ((lowL c == c) && (bwL c || dgL c)) := by
  unfold inL iwL lowL
  by_cases h : cpL c = true
  · rw [if_pos h, h]
    have : (c + 32 == c) = false := by simp
    rw [this]
    simp
  · have h2 : cpL c = false := by simpa using h
    rw [if_neg h, h2]
    simp
theorem runL_full {f : Nat → Bool} : ∀ (l : List Nat), (∀ j, j < l.length → f (l.getD j 0) = true) → runL f l = l.length
  | [], _ => rfl
  | c :: r, h => by
    rw [runL_cons, if_pos (show f c = true from h 0 (by simp)), runL_full r (fun j hj => h (j + 1) (by simp; omega))]
    rfl
theorem runL_short {f : Nat → Bool} : ∀ (l : List Nat) (j : Nat), j < l.length → f (l.getD j 0) = false → runL f l < l.length
  | [], j, h, _ => by simp at h
  | c :: r, j, h, hf => by
    rw [runL_cons]
    by_cases hc : f c = true
    · rw [if_pos hc]
      cases j with
      | zero =>
        rw [show (c :: r).getD 0 0 = c from rfl, hc] at hf
        cases hf
      | succ j =>
        have := runL_short r j (by simp at h; omega) hf
        simp
        omega
    · rw [if_neg hc]; simp
set_option maxHeartbeats 4000000 in
theorem rname_any (s : ByteArray) (w : World) : Calls Tryz.prog 40 #[.string s] w fun e w' => e = .returned (.bool (nameB s)) ∧ Below w.heap.size w w' := by
  obtain ⟨R, hR⟩ : ∃ R, nameB s = R := ⟨_, rfl⟩
  rw [hR]
  have HR := Lib.hid hR
  have HRR := Lib.hid (rres_any s w)
  clear hR
  go_enter Tryz.func40, Tryz.ntmps40
  by_cases c0 : s.size = 0
  · have hr : R = false := by rw [← HR.out]; unfold nameB; rw [c0]; rfl
    subst hr
    have k0 : decide ((s.size : Int) < 1) = true := by simp; omega
    go_wp2_with fail
    go_ret
    exact ⟨rfl, Below.refl _ _⟩
  have k0 : decide ((s.size : Int) < 1) = false := by simp; omega
  by_cases c1 : s.size ≤ 32
  · have k1 : decide ((32 : Int) < (s.size : Int)) = false := by simp; omega
    cases c3 : resB s with
    | true =>
      have hr : R = false := by rw [← HR.out]; unfold nameB; rw [c3]; simp
      subst hr
      rw [c3] at HRR
      go_wp2_with fail
      try go_at_call 74
      refine HRR.out.mono ?_
      rintro e w1 ⟨rfl, b1⟩
      have B1 := Lib.hid b1
      clear b1
      go_wp2_with fail
      go_ret
      exact ⟨rfl, B1.out⟩
    | false =>
      rw [c3] at HRR
      go_wp2_with fail
      try go_at_call 74
      refine HRR.out.mono ?_
      rintro e w1 ⟨rfl, b1⟩
      have B1 := Lib.hid b1
      have hp : 0 < s.size := by omega
      have hx0 : (s[0]'hp).toNat = (sl s).headD 0 := (sl_head hp).symm
      obtain ⟨c, hc⟩ : ∃ c, (sl s).headD 0 = c := ⟨_, rfl⟩
      rw [hc] at hx0
      have hc8 : c < 256 := by rw [← hx0]; exact (s[0]'hp).toNat_lt
      have HL := Lib.hid (rletter_any c w1 hc8)
      rw [ltL_eq] at HL
      have HC := Lib.hid hc
      clear b1 hc
      cases c4 : bwL c with
      | false =>
        have hr : R = false := by rw [← HR.out]; unfold nameB; rw [HC.out, c4]; simp
        subst hr
        rw [c4] at HL
        go_wp2_with fail
        try go_at_call 68
        refine HL.out.mono ?_
        rintro e w' ⟨rfl, rfl⟩
        go_wp2_with fail
        go_ret
        exact ⟨rfl, B1.out⟩
      | true =>
        have hr : R = (runL inL (sl s) == s.size) := by
          rw [← HR.out]
          unfold nameB
          rw [HC.out, c4, c3, decide_eq_true c1]
          simp [c0]
        have HRX := Lib.hid hr
        rw [c4] at HL
        go_wp2_with fail
        try go_at_call 68
        refine HL.out.mono ?_
        rintro e w' ⟨rfl, rfl⟩
        go_wp2_with fail
        clear HL hx0 hr
        go_loopw [3] (fun i wr => ∃ k : Nat, k ≤ s.size ∧ i = .int .i64 (k : Int) ∧ Hid (∀ j, j < k → inL ((sl s).getD j 0) = true) ∧ Below w.heap.size w wr) (fun i _ => s.size - (intOf i).toNat)
        case atStart => exact ⟨0, by omega, rfl, Lib.hid (fun j h => absurd h (by omega)), B1.out⟩
        case round =>
          obtain ⟨k, hk, rfl, HJ, hbw⟩ := hrel
          have HBW := Lib.hid hbw
          clear hbw
          by_cases hkn : k < s.size
          · have hk2 : (k : Int) < (s.size : Int) := by omega
            have hsx := (slx_get s k hkn).symm
            have hx8 := slx_lt s k
            have hii := in_iff ((sl s).getD k 0)
            have HNOT := Lib.hid (runL_short (f := inL) (sl s) k (by rw [sl_length]; exact hkn))
            obtain ⟨x, hx⟩ : ∃ x, (sl s).getD k 0 = x := ⟨_, rfl⟩
            rw [hx] at hsx hx8 hii HNOT
            have HX := Lib.hid hx
            clear hx
            have HM := Lib.hid (fun (m : Nat) => (rsmall_any x hx8 (wr.drewN m)).mono (R' := fun e w' => e = .returned (.int .u8 (smI x : Nat)) ∧ ∃ m', w' = wr.drewN m') (by rintro e w' ⟨rfl, rfl⟩; exact ⟨rfl, m, rfl⟩))
            have HLL := Lib.hid (fun (m : Nat) => (rletter_any x (wr.drewN m) hx8).mono (R' := fun e w' => e = .returned (.bool (ltL x)) ∧ ∃ m', w' = wr.drewN m') (by rintro e w' ⟨rfl, rfl⟩; exact ⟨rfl, m, rfl⟩))
            have HD := Lib.hid (fun (m : Nat) => (rdigit_any x (wr.drewN m) hx8).mono (R' := fun e w' => e = .returned (.bool (dgL x)) ∧ ∃ m', w' = wr.drewN m') (by rintro e w' ⟨rfl, rfl⟩; exact ⟨rfl, m, rfl⟩))
            rw [smI_low] at HM
            rw [ltL_eq] at HLL
            have w5' : IntKind.i64.wrap ((k : Int) + 1) = (k : Int) + 1 := by rw [IntKind.wrap_i64]; omega
            obtain ⟨y, hy⟩ : ∃ y, lowL x = y := ⟨_, rfl⟩
            rw [hy] at HM hii
            clear hy
            by_cases hyx : y = x
            · subst hyx
              have hq : ((y : Int) != (y : Int)) = false := by simp
              cases hb : bwL y with
              | true =>
                have hin : inL y = true := by rw [hii, hb]; simp
                rw [hb] at HLL
                go_wp2_with fail
                go_quiet (first | (go_at_call 71; exact HM.out _) | (go_at_call 68; exact HLL.out _) | (go_at_call 70; exact HD.out _))
                go_wp2_with fail
                refine ⟨⟨k + 1, by omega, by congr 1, Lib.hid (fun j hj => ?_), HBW.out.trans ⟨rfl, rfl, rfl, Nat.le_refl _, fun _ _ => rfl⟩⟩, by simp [intOf]; omega⟩
                by_cases hjk : j < k
                · exact HJ.out j hjk
                · obtain rfl : j = k := by omega
                  rw [HX.out]
                  exact hin
              | false =>
                cases hd : dgL y with
                | true =>
                  have hin : inL y = true := by rw [hii, hb, hd]; simp
                  rw [hb] at HLL
                  rw [hd] at HD
                  go_wp2_with fail
                  go_quiet (first | (go_at_call 71; exact HM.out _) | (go_at_call 68; exact HLL.out _) | (go_at_call 70; exact HD.out _))
                  go_wp2_with fail
                  refine ⟨⟨k + 1, by omega, by congr 1, Lib.hid (fun j hj => ?_), HBW.out.trans ⟨rfl, rfl, rfl, Nat.le_refl _, fun _ _ => rfl⟩⟩, by simp [intOf]; omega⟩
                  by_cases hjk : j < k
                  · exact HJ.out j hjk
                  · obtain rfl : j = k := by omega
                    rw [HX.out]
                    exact hin
                | false =>
                  have hin : inL y = false := by rw [hii, hb, hd]; simp
                  rw [hb] at HLL
                  rw [hd] at HD
                  have hr : R = false := by
                    have := HNOT.out hin
                    rw [HRX.out]
                    exact beq_eq_false_iff_ne.2 (by rw [sl_length] at this; omega)
                  subst hr
                  go_wp2_with fail
                  go_quiet (first | (go_at_call 71; exact HM.out _) | (go_at_call 68; exact HLL.out _) | (go_at_call 70; exact HD.out _))
                  go_wp2_with fail
                  go_ret
                  exact ⟨rfl, HBW.out.trans ⟨rfl, rfl, rfl, Nat.le_refl _, fun _ _ => rfl⟩⟩
            · have hin : inL x = false := by rw [hii, beq_eq_false_iff_ne.2 hyx]; rfl
              have hq : ((y : Int) != (x : Int)) = true := by rw [bne, beq_eq_false_iff_ne.2 (show (y : Int) ≠ (x : Int) by omega)]; rfl
              have hr : R = false := by
                have := HNOT.out hin
                rw [HRX.out]
                exact beq_eq_false_iff_ne.2 (by rw [sl_length] at this; omega)
              subst hr
              go_wp2_with fail
              go_quiet (first | (go_at_call 71; exact HM.out _) | (go_at_call 68; exact HLL.out _) | (go_at_call 70; exact HD.out _))
              go_wp2_with fail
              go_ret
              exact ⟨rfl, HBW.out.trans ⟨rfl, rfl, rfl, Nat.le_refl _, fun _ _ => rfl⟩⟩
          · have hk2 : decide ((k : Int) < (s.size : Int)) = false := by simp; omega
            obtain rfl : k = s.size := by omega
            have hfull := runL_full (f := inL) (sl s) (fun j hj => HJ.out j (by rw [sl_length] at hj; exact hj))
            have hr : R = true := by rw [HRX.out, hfull, sl_length]; simp
            subst hr
            clear hfull
            go_wp2_with fail
            go_ret
            exact ⟨rfl, HBW.out⟩
  · have hr : R = false := by rw [← HR.out]; unfold nameB; rw [decide_eq_false c1]; simp
    subst hr
    have k1 : decide ((32 : Int) < (s.size : Int)) = true := by simp; omega
    go_wp2_with fail
    go_ret
    exact ⟨rfl, Below.refl _ _⟩

end Go.Proofs.YtkffomfbnbcgaaaGreatDoor

namespace Go.Proofs.YtkffomfbnbcgaaaGreatDoor
set_option maxRecDepth 100000
open Go.RowKit Go.Joins Go.ChangeShapes Go.WideShapes
set_option linter.unusedVariables false
set_option linter.unusedSimpArgs false

theorem bw_nbl {c : Nat} (h : bwL c = true) : blL c = false := by
  cases hb : blL c with
  | false => rfl
  | true =>
    rcases blk_cases hb with rfl | rfl | rfl | rfl <;> exact absurd h (by decide)
theorem all_of_run {f : Nat → Bool} (l : List Nat) (h : runL f l = l.length) : ∀ x ∈ l, f x = true := by
  intro x hx
  refine runL_in l x ?_
  rw [h, List.take_length]
  exact hx
theorem name_tok (s : ByteArray) (h : nameB s = true) : toksE (sl s) = .ok [⟨1, sl s, 0, 0⟩] := by
  unfold nameB at h
  simp only [Bool.and_eq_true, Bool.not_eq_true', beq_iff_eq, decide_eq_true_eq, beq_eq_false_iff_ne] at h
  obtain ⟨⟨⟨⟨h0, h32⟩, hb⟩, hres⟩, hrun⟩ := h
  have hlen := sl_length s
  rw [← hlen] at hrun
  have hall := all_of_run _ hrun
  have hiw : ∀ x ∈ sl s, iwL x = true := fun x hx => by
    have := hall x hx
    unfold inL at this
    simp only [Bool.and_eq_true] at this
    exact this.1
  have hlow : (sl s).map lowL = sl s := by
    conv => rhs; rw [← List.map_id (sl s)]
    refine List.map_congr_left fun x hx => ?_
    have := hall x hx
    unfold inL at this
    simp only [Bool.and_eq_true, Bool.not_eq_true'] at this
    unfold lowL
    rw [this.2]
    rfl
  have hrw := runL_all1 _ hiw
  unfold toksE
  rw [if_neg (by omega)]
  cases hs : sl s with
  | nil => rw [hs] at hlen; simp at hlen; omega
  | cons c r =>
    rw [hs] at hb hlow hrw hlen
    have hb : bwL c = true := hb
    have ht : tokL (c :: r) = .ok (⟨1, c :: r, 0, 0⟩, (c :: r).length) := by
      rw [tokL_word hb]
      unfold wrdE
      rw [hrw, if_neg (by omega), List.take_length, hlow]
    rw [lexL_ok c r (bw_nbl hb) _ _ ht, List.drop_length, lexL_nil]
    rfl

/-- append of a list of tokens onto one of the call's own -/
theorem run_appT (w : World) (B : Nat) (v : Value) (l : List Tk) (hown : OwT w B v l) (hB : B ≤ w.heap.size) (a : Option Addr) (c : Nat) (rs : List Tk) (ha : LtA w a rs) (hc : a = none → c = 0) (hsz : l.length + rs.length ≤ 4294967297) (ty : TypeId) :
    ∃ v' w', (Builtin.append_ #[42, 42] ty #[v, .slice a rs.length c]).run Tryz.prog w = .ok v' w' ∧ OwT w' B v' (l ++ rs) ∧ w.grownBy w' v.ownBlock := by
  obtain ⟨i0, hi, hz0, hz1, hz2⟩ := info_parts infoTk
  rcases ha with ⟨rfl, rfl⟩ | ⟨g, rfl, hg, hcells⟩
  · rw [hc rfl]
    refine ⟨v, w, run_append_owned_none (P := Tryz.prog) (w := w) B 42 ty 47 i0 4 Tryz.underlying42 hi v l.length (tkcells l) hown, ?_, ⟨rfl, rfl, rfl, Nat.le_refl _, fun _ _ _ => rfl⟩⟩
    rw [List.append_nil]
    exact hown
  · obtain ⟨v', w', hr, h1, h2, h3⟩ := run_append_own (P := Tryz.prog) w B 42 ty 47 i0 _ 4 40 Tryz.underlying42 hi hz0 hz1 hz2 rfl (by decide) v l.length (tkcells l) hown ⟨g, 0, none⟩ rs.length c (tkcells rs) (by rw [tkcells_length]) (fun j u hj => by
      have ea : (⟨g, 0, none⟩ : Addr).add j = ⟨g, j, none⟩ := by unfold Addr.add; split <;> simp_all
      rw [ea]
      exact hcells j u hj) (tkcells_one rs) (by unfold maxLen; omega) (by omega) hB
    refine ⟨v', w', hr, ?_, h2⟩
    unfold OwT
    rw [tkcells_app, List.length_append]
    exact h1
theorem OwT.lta2 {w : World} {B : Nat} {v : Value} {l : List Tk} (h : OwT w B v l) : ∃ a cap, v = .slice a l.length cap ∧ LtA w a l ∧ (a = none → cap = 0) := by
  obtain ⟨a, cap, rfl, hf⟩ := h.form
  refine ⟨a, cap, rfl, ?_⟩
  rcases hf with ⟨h1, h2, h3⟩ | ⟨g, h1, _, h3, _, h5⟩
  · exact ⟨.inl ⟨h1, h2⟩, fun _ => h3⟩
  · exact ⟨.inr ⟨g, h1, h3, h5⟩, fun e => by rw [h1] at e; cases e⟩
theorem LtA.grown {w w' : World} {a : Option Addr} {ts : List Tk} {row : Option Nat} (h : LtA w a ts) (hg : w.grownBy w' row) (hne : ∀ b, a = some ⟨b, 0, none⟩ → row ≠ some b) : LtA w' a ts := by
  rcases h with h | ⟨g, h1, h2, h3⟩
  · exact .inl h
  · exact .inr ⟨g, h1, Nat.lt_of_lt_of_le h2 hg.size, fun j u hj => (World.cell?_of_block (a := ⟨g, j, none⟩) (hg.block g h2 (fun e => hne g h1 e.symm))).trans (h3 j u hj)⟩
theorem LtA.lt {w : World} {a : Option Addr} {ts : List Tk} (h : LtA w a ts) : ∀ b, a = some ⟨b, 0, none⟩ → b < w.heap.size := by
  intro b hb
  rcases h with ⟨h, _⟩ | ⟨g, h1, h2, h3⟩
  · rw [h] at hb; cases hb
  · rw [h1] at hb; injection hb with hb; injection hb with hb; omega
theorem lexGo_err : ∀ (n : Nat) (l : List Nat) (er : Nat), lexGo n l = .error er → 0 < er
  | 0, l, er, h => by cases h
  | n + 1, l, er, h => by
    rw [lexGo_succ] at h
    cases hd : l.drop (runL blL l) with
    | nil => rw [hd] at h; cases h
    | cons c r =>
      rw [hd] at h
      simp only at h
      cases ht : tokL (c :: r) with
      | error e =>
        rw [ht] at h
        injection h with h
        rw [← h]
        exact (tokL_err _ (by simp) e ht).1
      | ok x =>
        rw [ht] at h
        simp only at h
        cases hu : lexGo n ((c :: r).drop x.2) with
        | error e =>
          rw [hu] at h
          injection h with h
          rw [← h]
          exact lexGo_err n _ e hu
        | ok us => rw [hu] at h; cases h
theorem toksE_err (l : List Nat) (er : Nat) (h : toksE l = .error er) : 0 < er := by
  unfold toksE at h
  split at h
  · injection h with h; omega
  · exact lexGo_err _ _ _ h
theorem sl_app (s t : ByteArray) : sl (s ++ t) = sl s ++ sl t := by
  unfold sl
  rw [ByteArray.data_append, Array.toList_append, List.map_append]
theorem sl_join (s t : ByteArray) : sl (s ++ ⟨#[32]⟩ ++ t) = sl s ++ 32 :: sl t := by
  rw [sl_app, sl_app, List.append_assoc]
  rfl
theorem toks_join {a b : List Nat} {ts us : List Tk} (h1 : toksE a = .ok ts) (h2 : toksE b = .ok us) (hl : a.length + 1 + b.length ≤ 4000) : toksE (a ++ 32 :: b) = .ok (ts ++ us) := by
  unfold toksE at h1 h2 ⊢
  split at h1
  · cases h1
  · split at h2
    · cases h2
    · rw [if_neg (by simp; omega), lexL_join rfl a b ts h1, h2]

end Go.Proofs.YtkffomfbnbcgaaaGreatDoor

namespace Go.Proofs.YtkffomfbnbcgaaaGreatDoor
set_option maxRecDepth 100000
open Go.RowKit Go.Joins Go.ChangeShapes Go.WideShapes
set_option linter.unusedVariables false
set_option linter.unusedSimpArgs false

theorem RTok.open {x : Except Nat (Tk × Nat)} {i : Nat} {w w1 w2 : World} {e : Ending} (h : RTok x i w1 e w2) (hb : Below w.heap.size w w1) (hs : w.heap.size ≤ w1.heap.size) :
    ∃ k s n sc j er, e = .returned (.tuple #[Tkv k s n sc, .int .i64 j, .int .i64 er]) ∧ Below w1.heap.size w1 w2 ∧
      RTok x i w (.returned (.tuple #[Tkv k s n sc, .int .i64 j, .int .i64 er])) ((((w2.setCell ⟨w.heap.size, 0, none⟩ (.int .i64 k)).setCell ⟨w.heap.size, 1, none⟩ (.string s)).setCell ⟨w.heap.size, 2, none⟩ (.int .i64 n)).setCell ⟨w.heap.size, 3, none⟩ (.int .i64 sc)) := by
  obtain ⟨b, h⟩ := h
  have b2 := hb.trans (b.mono hs)
  cases x with
  | error er =>
    obtain ⟨j, rfl⟩ := h
    exact ⟨_, _, _, _, _, _, rfl, b, box4_below b2 (Nat.le_refl _) _ _ _ _, j, rfl⟩
  | ok y =>
    obtain ⟨t, k⟩ := y
    have h : e = _ := h
    subst h
    exact ⟨_, _, _, _, _, _, rfl, b, box4_below b2 (Nat.le_refl _) _ _ _ _, rfl⟩
theorem rtok_txt {r : List Nat} {i : Nat} {w : World} {e : Ending} {w' : World} (h : RTok (txtR r) (i + 1) w e w') : RTok (txtE r) i w e w' := by
  unfold txtR at h
  unfold txtE
  cases ht : textL r with
  | none => rw [ht] at h; exact h
  | some x =>
    rw [ht] at h
    simp only at h ⊢
    by_cases c : x.1.length > 200
    · rw [if_pos c] at h ⊢; exact h
    · rw [if_neg c] at h ⊢
      obtain ⟨h1, h2⟩ := h
      refine ⟨h1, ?_⟩
      have h2 : e = .returned (.tuple #[Tkv 4 (strB x.1) 0 0, .int .i64 ((i + 1 + x.2 : Nat) : Int), .int .i64 0]) := h2
      rw [h2, show i + 1 + x.2 = i + (x.2 + 1) by omega]
      rfl
set_option maxHeartbeats 4000000 in
theorem rnum_any (s : ByteArray) (i0 : Nat) (w : World) (hi : i0 < s.size) (hs : s.size ≤ 4294967296) (hb : bwL ((sl s).getD i0 0) = false) (hd : dgL ((sl s).getD i0 0) = true) :
    Calls Tryz.prog 36 #[.string s, .int .i64 (i0 : Int)] w (RTok (numE ((sl s).drop i0)) i0 w) := by
  have b1 : Below w.heap.size w (w.alloc (.cells #[.int .i64 0, .string ⟨#[]⟩, .int .i64 0, .int .i64 0] 47)) := (Below.refl _ _).alloc (Nat.le_refl _) _
  have hnew : TBox (w.alloc (.cells #[.int .i64 0, .string ⟨#[]⟩, .int .i64 0, .int .i64 0] 47)) w.heap.size 0 0 0 ⟨#[]⟩ := heap_alloc_new w (.cells #[.int .i64 0, .string ⟨#[]⟩, .int .i64 0, .int .i64 0] 47)
  have hsz : w.heap.size ≤ (w.alloc (.cells #[.int .i64 0, .string ⟨#[]⟩, .int .i64 0, .int .i64 0] 47)).heap.size := by simp
  have hc0 := (slx_get s i0 hi).symm
  have hc8 := slx_lt s i0
  have HC := Lib.hid (rnumber_any s i0 (w.alloc (.cells #[.int .i64 0, .string ⟨#[]⟩, .int .i64 0, .int .i64 0] 47)) hi hs hd)
  have HL0 := Lib.hid (rletter_any ((sl s).getD i0 0) (w.alloc (.cells #[.int .i64 0, .string ⟨#[]⟩, .int .i64 0, .int .i64 0] 47)) hc8)
  have HD0 := Lib.hid (rdigit_any ((sl s).getD i0 0) (w.alloc (.cells #[.int .i64 0, .string ⟨#[]⟩, .int .i64 0, .int .i64 0] 47)) hc8)
  rw [ltL_eq, hb] at HL0
  rw [hd] at HD0
  generalize (sl s).getD i0 0 = c0 at *
  have HB := Lib.hid (And.intro b1 (And.intro hnew hsz))
  generalize numE ((sl s).drop i0) = X at *
  generalize hP : RTok X i0 w = P
  have HP := Lib.hid hP
  clear hP b1 hnew hsz hb hd
  go_enter Tryz.func36, Tryz.ntmps36
  go_wp2_with (first | (go_at_call 68; refine HL0.out.mono ?_; rintro e w' ⟨rfl, rfl⟩) | (go_at_call 70; refine HD0.out.mono ?_; rintro e w' ⟨rfl, rfl⟩))
  try go_at_call 72
  refine HC.out.mono ?_
  rintro e w2 ht
  obtain ⟨k, st, n, sc, j, er, rfl, b2, hx⟩ := ht.open HB.out.1 HB.out.2.2
  rw [HP.out] at hx
  have HX := Lib.hid hx
  have hbx := HB.out.2.1.below b2
  obtain ⟨⟨e0, e1, e2, e3⟩, f0, f1, f4, f3⟩ := hbx.cells
  have HBX := Lib.hid hbx
  clear hx ht b2 hbx
  unfold Tkv at *
  go_wp2_with fail
  exact rtok_ret Tryz.results36 (box_four HBX.out _ _ _ _) rfl rfl rfl rfl HX.out
set_option maxHeartbeats 4000000 in
theorem rtxt_any (s : ByteArray) (i0 : Nat) (w : World) (hi : i0 < s.size) (hs : s.size ≤ 4294967296) (h39 : (sl s).getD i0 0 = 39) :
    Calls Tryz.prog 36 #[.string s, .int .i64 (i0 : Int)] w (RTok (txtE ((sl s).drop (i0 + 1))) i0 w) := by
  have b1 : Below w.heap.size w (w.alloc (.cells #[.int .i64 0, .string ⟨#[]⟩, .int .i64 0, .int .i64 0] 47)) := (Below.refl _ _).alloc (Nat.le_refl _) _
  have hnew : TBox (w.alloc (.cells #[.int .i64 0, .string ⟨#[]⟩, .int .i64 0, .int .i64 0] 47)) w.heap.size 0 0 0 ⟨#[]⟩ := heap_alloc_new w (.cells #[.int .i64 0, .string ⟨#[]⟩, .int .i64 0, .int .i64 0] 47)
  have hsz : w.heap.size ≤ (w.alloc (.cells #[.int .i64 0, .string ⟨#[]⟩, .int .i64 0, .int .i64 0] 47)).heap.size := by simp
  have hc0 : (s[i0]'hi).toNat = 39 := by rw [← slx_get s i0 hi]; exact h39
  have HC := Lib.hid (rtext_any s (i0 + 1) (w.alloc (.cells #[.int .i64 0, .string ⟨#[]⟩, .int .i64 0, .int .i64 0] 47)) (by omega) hs)
  have HL0 := Lib.hid (rletter_any 39 (w.alloc (.cells #[.int .i64 0, .string ⟨#[]⟩, .int .i64 0, .int .i64 0] 47)) (by decide))
  have HD0 := Lib.hid (rdigit_any 39 (w.alloc (.cells #[.int .i64 0, .string ⟨#[]⟩, .int .i64 0, .int .i64 0] 47)) (by decide))
  have HB := Lib.hid (And.intro b1 (And.intro hnew hsz))
  have w7' : IntKind.i64.wrap ((i0 : Int) + 1) = (i0 : Int) + 1 := by rw [IntKind.wrap_i64]; omega
  generalize (sl s).drop (i0 + 1) = L at *
  generalize hP : RTok (txtE L) i0 w = P
  have HP := Lib.hid hP
  clear hP b1 hnew hsz h39
  go_enter Tryz.func36, Tryz.ntmps36
  go_wp2_with (first | (go_at_call 68; refine HL0.out.mono ?_; rintro e w' ⟨rfl, rfl⟩) | (go_at_call 70; refine HD0.out.mono ?_; rintro e w' ⟨rfl, rfl⟩))
  try go_at_call 73
  refine HC.out.mono ?_
  rintro e w2 ht
  obtain ⟨k, st, n, sc, j, er, rfl, b2, hx⟩ := ht.open HB.out.1 HB.out.2.2
  have hx := rtok_txt hx
  rw [HP.out] at hx
  have HX := Lib.hid hx
  have hbx := HB.out.2.1.below b2
  obtain ⟨⟨e0, e1, e2, e3⟩, f0, f1, f4, f3⟩ := hbx.cells
  have HBX := Lib.hid hbx
  clear hx ht b2 hbx
  unfold Tkv at *
  go_wp2_with fail
  exact rtok_ret Tryz.results36 (box_four HBX.out _ _ _ _) rfl rfl rfl rfl HX.out

def sgnC : List Nat := [40, 41, 44, 46, 42, 43, 45, 47, 37, 61, 60, 62]
theorem sgn_yes : ∀ k, k < 12 → [40, 41, 44, 46, 42, 43, 45, 47, 37, 61, 60, 62].contains (sgnC.getD k 0) = true := by decide
theorem sgn_no (c : Nat) (h : ∀ j, j < 12 → sgnC.getD j 0 ≠ c) : [40, 41, 44, 46, 42, 43, 45, 47, 37, 61, 60, 62].contains c = false := by
  cases hc : [40, 41, 44, 46, 42, 43, 45, 47, 37, 61, 60, 62].contains c with
  | false => rfl
  | true =>
    have hm : c ∈ sgnC := List.contains_iff_mem.1 hc
    obtain ⟨i, hi⟩ := List.getElem?_of_mem hm
    have hlt : i < sgnC.length := (List.getElem?_eq_some_iff.1 hi).1
    exact absurd (by rw [List.getD_eq_getElem?_getD, hi]; rfl) (h i hlt)
theorem ext_strB (s : ByteArray) (i n : Nat) (h : i + n ≤ s.size) : s.extract i (i + n) = strB (((sl s).drop i).take n) := by
  have h1 : (s.extract i (i + n)).data.toList = (strB (((sl s).drop i).take n)).data.toList := by
    rw [strB_data]
    unfold sl
    rw [ByteArray.data_extract, Array.toList_extract, List.extract_eq_take_drop, ← List.map_drop, ← List.map_take, List.map_map]
    rw [show i + n - i = n by omega]
    conv => lhs; rw [← List.map_id (List.take n (List.drop i s.data.toList))]
    exact List.map_congr_left fun x _ => by simp
  have h2 := Array.toList_inj.1 h1
  cases hs : strB (((sl s).drop i).take n) with
  | mk d =>
    rw [hs] at h2
    cases hx : s.extract i (i + n) with
    | mk e => rw [hx] at h2; simp at h2; rw [h2]
theorem slice_str (s : ByteArray) (i n : Nat) (h : i + n ≤ s.size) (hi lo : Int) (hl : lo = (i : Int)) (hh : hi = (i : Int) + (n : Int)) (w : World) :
    (Instr.slice 9 (.string s) (some (.int .i64 lo)) (some (.int .i64 hi)) none).run Tryz.prog w = .ok (.string (strB (((sl s).drop i).take n))) w := by
  subst hl hh
  rw [run_slice_string (P := Tryz.prog) (w := w) 9 s .i64 .i64 _ _ Tryz.underlying9 (by omega) (by omega) (by omega), ← ext_strB s i n h]
  congr 3
theorem sgn_at : ∀ k, (h : k < 12) → ((⟨#[40, 41, 44, 46, 42, 43, 45, 47, 37, 61, 60, 62]⟩ : ByteArray)[k]'h).toNat = sgnC.getD k 0 := by decide
set_option maxHeartbeats 4000000 in
theorem rsgn_any (s : ByteArray) (i0 : Nat) (w : World) (hi : i0 < s.size) (hs : s.size ≤ 4294967296) (hb : bwL ((sl s).getD i0 0) = false) (hd : dgL ((sl s).getD i0 0) = false) (h39 : ¬ (sl s).getD i0 0 = 39) :
    Calls Tryz.prog 36 #[.string s, .int .i64 (i0 : Int)] w (RTok (sgnE ((sl s).drop i0)) i0 w) := by
  have b1 : Below w.heap.size w (w.alloc (.cells #[.int .i64 0, .string ⟨#[]⟩, .int .i64 0, .int .i64 0] 47)) := (Below.refl _ _).alloc (Nat.le_refl _) _
  have hnew : TBox (w.alloc (.cells #[.int .i64 0, .string ⟨#[]⟩, .int .i64 0, .int .i64 0] 47)) w.heap.size 0 0 0 ⟨#[]⟩ := heap_alloc_new w (.cells #[.int .i64 0, .string ⟨#[]⟩, .int .i64 0, .int .i64 0] 47)
  have hc0 := (slx_get s i0 hi).symm
  have hc8 := slx_lt s i0
  have HL0 := Lib.hid (rletter_any ((sl s).getD i0 0) (w.alloc (.cells #[.int .i64 0, .string ⟨#[]⟩, .int .i64 0, .int .i64 0] 47)) hc8)
  have HD0 := Lib.hid (rdigit_any ((sl s).getD i0 0) (w.alloc (.cells #[.int .i64 0, .string ⟨#[]⟩, .int .i64 0, .int .i64 0] 47)) hc8)
  have HA0 := Lib.hid (rat_any s (i0 + 1) (w.alloc (.cells #[.int .i64 0, .string ⟨#[]⟩, .int .i64 0, .int .i64 0] 47)))
  rw [ltL_eq, hb] at HL0
  rw [hd] at HD0
  have HDR := Lib.hid (drop_getD (sl s) i0 (by rw [sl_length]; exact hi))
  have HDR1 := Lib.hid (drop_getD (sl s) (i0 + 1))
  have HDO := Lib.hid (getD_out (sl s) (i0 + 1))
  have hd8 := slx_lt s (i0 + 1)
  obtain ⟨⟨e0, e1, e2, e3⟩, f0, f1, f4, f3⟩ := hnew.cells
  have HB := Lib.hid (And.intro b1 hnew)
  generalize hc : (sl s).getD i0 0 = c at *
  generalize hdd : (sl s).getD (i0 + 1) 0 = d at *
  have w7' : IntKind.i64.wrap ((i0 : Int) + 1) = (i0 : Int) + 1 := by rw [IntKind.wrap_i64]; omega
  have w8' : IntKind.i64.wrap ((i0 : Int) + 2) = (i0 : Int) + 2 := by rw [IntKind.wrap_i64]; omega
  generalize hP : RTok (sgnE ((sl s).drop i0)) i0 w = P
  have HP := Lib.hid hP
  have q39 : ((c : Int) == 39) = false := beq_eq_false_iff_ne.2 (by omega)
  clear hP b1 hnew hb hd hc hdd h39
  have h8 : (c = 60 ∧ d = 62 ∨ c = 60 ∧ d = 61 ∨ c = 62 ∧ d = 61 ∨ c = 124 ∧ d = 124) ∨ ¬ (c = 60 ∧ d = 62 ∨ c = 60 ∧ d = 61 ∨ c = 62 ∧ d = 61 ∨ c = 124 ∧ d = 124) := Classical.em _
  go_enter Tryz.func36, Tryz.ntmps36
  go_wp2_with (first | (go_at_call 68; refine HL0.out.mono ?_; rintro e w' ⟨rfl, rfl⟩) | (go_at_call 70; refine HD0.out.mono ?_; rintro e w' ⟨rfl, rfl⟩))
  try go_at_call 69
  refine HA0.out.mono ?_
  rintro e w' ⟨rfl, rfl⟩
  generalize w.alloc (.cells #[.int .i64 0, .string ⟨#[]⟩, .int .i64 0, .int .i64 0] 47) = w1 at *
  clear HL0 HD0 HA0
  have bB := HB.out.2
  have HZ := Lib.hid (box4_below (B := w.heap.size) HB.out.1 (Nat.le_refl _))
  rcases h8 with h8 | h8
  · have hlt : i0 + 1 < (sl s).length := by
      refine Nat.lt_of_not_le fun hle => ?_
      have := HDO.out (by omega)
      omega
    have hdr : (sl s).drop i0 = c :: d :: (sl s).drop (i0 + 2) := by rw [HDR.out, HDR1.out hlt]
    have h2 : i0 + 2 ≤ s.size := by rw [sl_length] at hlt; omega
    have hsl := slice_str s i0 2 h2 ((i0 : Int) + 2) i0 rfl rfl w1
    have hsg : signL ((sl s).drop i0) = 2 := by
      rw [hdr]
      rcases h8 with ⟨rfl, rfl⟩ | ⟨rfl, rfl⟩ | ⟨rfl, rfl⟩ | ⟨rfl, rfl⟩ <;> rfl
    have hP1 := HP.out
    unfold sgnE at hP1
    rw [hsg, if_neg (by decide)] at hP1
    obtain ⟨S, hS⟩ : ∃ S, strB (((sl s).drop i0).take 2) = S := ⟨_, rfl⟩
    rw [hS] at hsl
    have HX : Hid (P (.returned (.tuple #[Tkv 5 S 0 0, .int .i64 ((i0 : Int) + 2), .int .i64 0])) ((((w1.setCell ⟨w.heap.size, 0, none⟩ (.int .i64 5)).setCell ⟨w.heap.size, 1, none⟩ (.string S)).setCell ⟨w.heap.size, 2, none⟩ (.int .i64 0)).setCell ⟨w.heap.size, 3, none⟩ (.int .i64 0))) := Lib.hid (by
      rw [← hP1, ← hS]
      exact ⟨HZ.out _ _ _ _, by congr 1⟩)
    clear hP1 hS hsg hdr
    rcases h8 with ⟨rfl, rfl⟩ | ⟨rfl, rfl⟩ | ⟨rfl, rfl⟩ | ⟨rfl, rfl⟩
    all_goals
      go_wp2_with fail
      exact rtok_ret Tryz.results36 (box_four bB _ _ _ _) rfl rfl rfl rfl HX.out
  · have hsg : signL ((sl s).drop i0) = if [40, 41, 44, 46, 42, 43, 45, 47, 37, 61, 60, 62].contains c then 1 else 0 := by
      rw [HDR.out]
      by_cases hlt : i0 + 1 < (sl s).length
      · rw [HDR1.out hlt]
        show (if ((c == 60 && d == 62) || (c == 60 && d == 61) || (c == 62 && d == 61) || (c == 124 && d == 124)) = true then 2 else _) = _
        rw [if_neg]
        simp only [Bool.or_eq_true, Bool.and_eq_true, beq_iff_eq]
        omega
      · rw [List.drop_eq_nil_of_le (by omega)]
        rfl
    have hsl := slice_str s i0 1 (by omega) ((i0 : Int) + 1) i0 rfl rfl w1
    have hP1 := HP.out
    unfold sgnE at hP1
    rw [hsg] at hP1
    obtain ⟨S, hS⟩ : ∃ S, strB (((sl s).drop i0).take 1) = S := ⟨_, rfl⟩
    rw [hS] at hsl
    have HX1 : Hid ([40, 41, 44, 46, 42, 43, 45, 47, 37, 61, 60, 62].contains c = true → P (.returned (.tuple #[Tkv 5 S 0 0, .int .i64 ((i0 : Int) + 1), .int .i64 0])) ((((w1.setCell ⟨w.heap.size, 0, none⟩ (.int .i64 5)).setCell ⟨w.heap.size, 1, none⟩ (.string S)).setCell ⟨w.heap.size, 2, none⟩ (.int .i64 0)).setCell ⟨w.heap.size, 3, none⟩ (.int .i64 0))) := Lib.hid (by
      intro h
      rw [h, if_pos rfl, if_neg (by decide)] at hP1
      rw [← hP1, ← hS]
      exact ⟨HZ.out _ _ _ _, by congr 1⟩)
    have HX0 : Hid ([40, 41, 44, 46, 42, 43, 45, 47, 37, 61, 60, 62].contains c = false → ∀ q : Int, P (.returned (.tuple #[Tkv 0 ⟨#[]⟩ 0 0, .int .i64 q, .int .i64 120])) ((((w1.setCell ⟨w.heap.size, 0, none⟩ (.int .i64 0)).setCell ⟨w.heap.size, 1, none⟩ (.string ⟨#[]⟩)).setCell ⟨w.heap.size, 2, none⟩ (.int .i64 0)).setCell ⟨w.heap.size, 3, none⟩ (.int .i64 0))) := Lib.hid (by
      intro h q
      rw [h, if_pos (by decide)] at hP1
      rw [← hP1]
      exact ⟨HZ.out _ _ _ _, q, rfl⟩)
    clear hP1 hS hsg
    have hj : (c = 60 ∧ ((d : Int) == 62) = false ∧ ((d : Int) == 61) = false) ∨ (c = 62 ∧ ((d : Int) == 61) = false) ∨ (c = 124 ∧ ((d : Int) == 124) = false) ∨ (((c : Int) == 60) = false ∧ ((c : Int) == 62) = false ∧ ((c : Int) == 124) = false) := by
      by_cases a : c = 60
      · exact .inl ⟨a, beq_eq_false_iff_ne.2 (by omega), beq_eq_false_iff_ne.2 (by omega)⟩
      · by_cases b : c = 62
        · exact .inr (.inl ⟨b, beq_eq_false_iff_ne.2 (by omega)⟩)
        · by_cases e : c = 124
          · exact .inr (.inr (.inl ⟨e, beq_eq_false_iff_ne.2 (by omega)⟩))
          · exact .inr (.inr (.inr ⟨beq_eq_false_iff_ne.2 (by omega), beq_eq_false_iff_ne.2 (by omega), beq_eq_false_iff_ne.2 (by omega)⟩))
    clear h8 HDR HDR1 HDO
    rcases hj with ⟨rfl, j1, j2⟩ | ⟨rfl, j1⟩ | ⟨rfl, j1⟩ | ⟨j1, j2, j3⟩
    · go_wp2_with fail
      go_loopw [11] (fun i wr => ∃ k : Nat, k ≤ 12 ∧ i = .int .i64 (k : Int) ∧ Hid (∀ j, j < k → sgnC.getD j 0 ≠ 60) ∧ w1 = wr) (fun i _ => 12 - (intOf i).toNat)
      case atStart => exact ⟨0, by omega, rfl, Lib.hid (fun j h => absurd h (by omega)), by trivial⟩
      case round =>
        obtain ⟨k, hk, rfl, HJ, rfl⟩ := hrel
        by_cases hk12 : k < 12
        · have hsx := sgn_at k hk12
          have hk2 : (k : Int) < 12 := by omega
          have hy := sgn_yes k hk12
          generalize hx : sgnC.getD k 0 = x at *
          have HY := Lib.hid (And.intro hy hx)
          clear hy hx
          have w5' : IntKind.i64.wrap ((k : Int) + 1) = (k : Int) + 1 := by rw [IntKind.wrap_i64]; omega
          by_cases hxc : x = 60
          · have he : ((x : Int) == (60 : Int)) = true := by rw [hxc]; exact beq_self_eq_true _
            go_wp2_with fail
            all_goals first
              | (exfalso; omega)
              | exact rtok_ret Tryz.results36 (box_four bB _ _ _ _) rfl rfl rfl rfl (HX1.out (by have := HY.out.1; rw [hxc] at this; exact this))
          · have he : ((x : Int) == (60 : Int)) = false := beq_eq_false_iff_ne.2 (by omega)
            go_wp2_with fail
            all_goals first
              | (exfalso; omega)
              | (refine ⟨⟨k + 1, by omega, by congr 1, Lib.hid (fun j h => ?_), by trivial⟩, by simp [intOf]; omega⟩
                 by_cases hjk : j < k
                 · exact HJ.out j hjk
                 · obtain rfl : j = k := by omega
                   rw [HY.out.2]
                   exact hxc)
        · obtain rfl : k = 12 := by omega
          have hno := sgn_no 60 HJ.out
          have HXX := Lib.hid (HX0.out hno)
          clear hno
          go_wp2_with fail
          exact rtok_ret Tryz.results36 (box_four bB _ _ _ _) rfl rfl rfl rfl (HXX.out _)
    · go_wp2_with fail
      go_loopw [11] (fun i wr => ∃ k : Nat, k ≤ 12 ∧ i = .int .i64 (k : Int) ∧ Hid (∀ j, j < k → sgnC.getD j 0 ≠ 62) ∧ w1 = wr) (fun i _ => 12 - (intOf i).toNat)
      case atStart => exact ⟨0, by omega, rfl, Lib.hid (fun j h => absurd h (by omega)), by trivial⟩
      case round =>
        obtain ⟨k, hk, rfl, HJ, rfl⟩ := hrel
        by_cases hk12 : k < 12
        · have hsx := sgn_at k hk12
          have hk2 : (k : Int) < 12 := by omega
          have hy := sgn_yes k hk12
          generalize hx : sgnC.getD k 0 = x at *
          have HY := Lib.hid (And.intro hy hx)
          clear hy hx
          have w5' : IntKind.i64.wrap ((k : Int) + 1) = (k : Int) + 1 := by rw [IntKind.wrap_i64]; omega
          by_cases hxc : x = 62
          · have he : ((x : Int) == (62 : Int)) = true := by rw [hxc]; exact beq_self_eq_true _
            go_wp2_with fail
            all_goals first
              | (exfalso; omega)
              | exact rtok_ret Tryz.results36 (box_four bB _ _ _ _) rfl rfl rfl rfl (HX1.out (by have := HY.out.1; rw [hxc] at this; exact this))
          · have he : ((x : Int) == (62 : Int)) = false := beq_eq_false_iff_ne.2 (by omega)
            go_wp2_with fail
            all_goals first
              | (exfalso; omega)
              | (refine ⟨⟨k + 1, by omega, by congr 1, Lib.hid (fun j h => ?_), by trivial⟩, by simp [intOf]; omega⟩
                 by_cases hjk : j < k
                 · exact HJ.out j hjk
                 · obtain rfl : j = k := by omega
                   rw [HY.out.2]
                   exact hxc)
        · obtain rfl : k = 12 := by omega
          have hno := sgn_no 62 HJ.out
          have HXX := Lib.hid (HX0.out hno)
          clear hno
          go_wp2_with fail
          exact rtok_ret Tryz.results36 (box_four bB _ _ _ _) rfl rfl rfl rfl (HXX.out _)
    · go_wp2_with fail
      go_loopw [11] (fun i wr => ∃ k : Nat, k ≤ 12 ∧ i = .int .i64 (k : Int) ∧ Hid (∀ j, j < k → sgnC.getD j 0 ≠ 124) ∧ w1 = wr) (fun i _ => 12 - (intOf i).toNat)
      case atStart => exact ⟨0, by omega, rfl, Lib.hid (fun j h => absurd h (by omega)), by trivial⟩
      case round =>
        obtain ⟨k, hk, rfl, HJ, rfl⟩ := hrel
        by_cases hk12 : k < 12
        · have hsx := sgn_at k hk12
          have hk2 : (k : Int) < 12 := by omega
          have hy := sgn_yes k hk12
          generalize hx : sgnC.getD k 0 = x at *
          have HY := Lib.hid (And.intro hy hx)
          clear hy hx
          have w5' : IntKind.i64.wrap ((k : Int) + 1) = (k : Int) + 1 := by rw [IntKind.wrap_i64]; omega
          by_cases hxc : x = 124
          · have he : ((x : Int) == (124 : Int)) = true := by rw [hxc]; exact beq_self_eq_true _
            go_wp2_with fail
            all_goals first
              | (exfalso; omega)
              | exact rtok_ret Tryz.results36 (box_four bB _ _ _ _) rfl rfl rfl rfl (HX1.out (by have := HY.out.1; rw [hxc] at this; exact this))
          · have he : ((x : Int) == (124 : Int)) = false := beq_eq_false_iff_ne.2 (by omega)
            go_wp2_with fail
            all_goals first
              | (exfalso; omega)
              | (refine ⟨⟨k + 1, by omega, by congr 1, Lib.hid (fun j h => ?_), by trivial⟩, by simp [intOf]; omega⟩
                 by_cases hjk : j < k
                 · exact HJ.out j hjk
                 · obtain rfl : j = k := by omega
                   rw [HY.out.2]
                   exact hxc)
        · obtain rfl : k = 12 := by omega
          have hno := sgn_no 124 HJ.out
          have HXX := Lib.hid (HX0.out hno)
          clear hno
          go_wp2_with fail
          exact rtok_ret Tryz.results36 (box_four bB _ _ _ _) rfl rfl rfl rfl (HXX.out _)
    · go_wp2_with fail
      go_loopw [11] (fun i wr => ∃ k : Nat, k ≤ 12 ∧ i = .int .i64 (k : Int) ∧ Hid (∀ j, j < k → sgnC.getD j 0 ≠ c) ∧ w1 = wr) (fun i _ => 12 - (intOf i).toNat)
      case atStart => exact ⟨0, by omega, rfl, Lib.hid (fun j h => absurd h (by omega)), by trivial⟩
      case round =>
        obtain ⟨k, hk, rfl, HJ, rfl⟩ := hrel
        by_cases hk12 : k < 12
        · have hsx := sgn_at k hk12
          have hk2 : (k : Int) < 12 := by omega
          have hy := sgn_yes k hk12
          generalize hx : sgnC.getD k 0 = x at *
          have HY := Lib.hid (And.intro hy hx)
          clear hy hx
          have w5' : IntKind.i64.wrap ((k : Int) + 1) = (k : Int) + 1 := by rw [IntKind.wrap_i64]; omega
          by_cases hxc : x = c
          · have he : ((x : Int) == (c : Int)) = true := by rw [hxc]; exact beq_self_eq_true _
            go_wp2_with fail
            all_goals first
              | (exfalso; omega)
              | exact rtok_ret Tryz.results36 (box_four bB _ _ _ _) rfl rfl rfl rfl (HX1.out (by have := HY.out.1; rw [hxc] at this; exact this))
          · have he : ((x : Int) == (c : Int)) = false := beq_eq_false_iff_ne.2 (by omega)
            go_wp2_with fail
            all_goals first
              | (exfalso; omega)
              | (refine ⟨⟨k + 1, by omega, by congr 1, Lib.hid (fun j h => ?_), by trivial⟩, by simp [intOf]; omega⟩
                 by_cases hjk : j < k
                 · exact HJ.out j hjk
                 · obtain rfl : j = k := by omega
                   rw [HY.out.2]
                   exact hxc)
        · obtain rfl : k = 12 := by omega
          have hno := sgn_no c HJ.out
          have HXX := Lib.hid (HX0.out hno)
          clear hno
          go_wp2_with fail
          exact rtok_ret Tryz.results36 (box_four bB _ _ _ _) rfl rfl rfl rfl (HXX.out _)

end Go.Proofs.YtkffomfbnbcgaaaGreatDoor

namespace Go.Proofs.YtkffomfbnbcgaaaGreatDoor
set_option maxRecDepth 100000
open Go.RowKit Go.Joins Go.ChangeShapes Go.WideShapes
set_option linter.unusedVariables false
set_option linter.unusedSimpArgs false

theorem strB_app (l r : List Nat) : strB l ++ strB r = strB (l ++ r) := by
  have h : (strB l ++ strB r).data.toList = (strB (l ++ r)).data.toList := by
    rw [ByteArray.data_append, Array.toList_append, strB_data, strB_data, strB_data, List.map_append]
  have h2 := Array.toList_inj.1 h
  cases hx : strB l ++ strB r with
  | mk d => cases hy : strB (l ++ r) with
    | mk e => rw [hx, hy] at h2; simp at h2; rw [h2]
theorem one_str (w : World) (x : Nat) (z : Int) (hz : z = (x : Int)) : (convert 45 9 (.slice (some ⟨w.heap.size, 0, none⟩) 1 1)).run Tryz.prog (w.alloc (.cells #[.int .u8 z] 5)) = .ok (.string (strB [x])) (w.alloc (.cells #[.int .u8 z] 5)) := by
  subst hz
  refine run_convert_bytes_arg (w.alloc (.cells #[.int .u8 (x : Int)] 5)) 45 5 Tryz.underlying45 Tryz.underlying5 w.heap.size 0 1 1 [(x : Int)] rfl (fun i hi => ?_) 9 Tryz.underlying9
  have : i = 0 := by omega
  subst this
  rw [cell_of_block (heap_alloc_new w _)]
  rfl
set_option maxHeartbeats 2000000 in
theorem rdigits_any (n : Nat) (hn : n ≤ 9223372036854775807) (w : World) : Calls Tryz.prog 37 #[.int .i64 (n : Int)] w fun e w' => e = .returned (.string (strB (digL n))) ∧ Below w.heap.size w w' := by
  obtain ⟨R, hR⟩ : ∃ R, strB (digL n) = R := ⟨_, rfl⟩
  rw [hR]
  have HR := Lib.hid hR
  have hln := digL_len 18 n (by omega)
  clear hR
  go_enter Tryz.func37, Tryz.ntmps37
  go_wp2_with fail
  go_loopw [0, 3] (fun v s wr => ∃ (m : Nat) (acc : List Nat), m ≤ 9223372036854775807 ∧ v = .int .i64 (m : Int) ∧ s = .string (strB acc) ∧ Hid (digL n = digL m ++ acc) ∧ Below w.heap.size w wr) (fun v _ _ => (intOf v).toNat)
  case atStart => exact ⟨n, [], hn, rfl, rfl, Lib.hid (by rw [List.append_nil]), Below.refl _ _⟩
  case round =>
    obtain ⟨m, acc, hm, rfl, rfl, HD, hb⟩ := hrel
    have HB := Lib.hid hb
    have hsw := hb.size
    clear hb
    have hal : (strB acc).size ≤ 19 := by
      have := congrArg List.length HD.out
      rw [List.length_append] at this
      rw [strB_len]
      omega
    by_cases h9 : m ≤ 9
    · have k9 : decide ((9 : Int) < (m : Int)) = false := by simp; omega
      have w1' : IntKind.i64.wrap (48 + (m : Int)) = 48 + (m : Int) := by rw [IntKind.wrap_i64]; omega
      have w2' : IntKind.u8.wrap (48 + (m : Int)) = 48 + (m : Int) := by rw [IntKind.wrap_u8]; omega
      have hone := one_str wr (48 + m) (48 + (m : Int)) (by omega)
      have hap : strB [48 + m] ++ strB acc = R := by rw [strB_app, ← HR.out, HD.out, digL_small h9]
      have HB2 := Lib.hid (HB.out.alloc hsw (.cells #[.int .u8 (48 + (m : Int))] 5))
      have hA1 : (strB [48 + m]).size = 1 := strB_len _
      have hns : ¬ 9223372036854775807 < (strB [48 + m]).size + (strB acc).size := by omega
      clear hA1 hal
      generalize strB [48 + m] = A at *
      generalize strB acc = C at *
      go_wp2_with fail
      go_ret
      exact ⟨by rw [← hap]; rfl, HB2.out⟩
    · have k9 : decide ((9 : Int) < (m : Int)) = true := by simp; omega
      have hone := one_str wr (48 + m % 10) (48 + (m : Int) % 10) (by omega)
      have hap : strB [48 + m % 10] ++ strB acc = strB ((48 + m % 10) :: acc) := strB_app _ _
      have HDD := Lib.hid (show digL n = digL (m / 10) ++ ((48 + m % 10) :: acc) by rw [HD.out, digL_big h9, List.append_assoc]; rfl)
      have HB2 := Lib.hid (HB.out.alloc hsw (.cells #[.int .u8 (48 + (m : Int) % 10)] 5))
      have hA1 : (strB [48 + m % 10]).size = 1 := strB_len _
      have hns : ¬ 9223372036854775807 < (strB [48 + m % 10]).size + (strB acc).size := by omega
      clear hA1 hal
      obtain ⟨A, hA⟩ : ∃ A, strB [48 + m % 10] = A := ⟨_, rfl⟩
      obtain ⟨C, hC⟩ : ∃ C, strB acc = C := ⟨_, rfl⟩
      rw [hA] at hone hap hns
      rw [hC] at hap hns ⊢
      clear hA hC
      go_wp2_with fail
      exact ⟨⟨m / 10, (48 + m % 10) :: acc, by omega, by congr 1, rfl, HDD, HB2.out⟩, by simp [intOf]; omega⟩

theorem slice_to (s : ByteArray) (n : Nat) (h : n ≤ s.size) (hi : Int) (hh : hi = (n : Int)) (w : World) :
    (Instr.slice 9 (.string s) none (some (.int .i64 hi)) none).run Tryz.prog w = .ok (.string (strB ((sl s).take n))) w := by
  subst hh
  rw [run_slice_string_to_if (P := Tryz.prog) (w := w) 9 s .i64 (n : Int) Tryz.underlying9, if_pos ⟨by omega, by omega⟩]
  have e := ext_strB s 0 n (by omega)
  rw [Nat.zero_add, List.drop_zero] at e
  rw [← e]
  rfl
theorem slice_from (s : ByteArray) (n : Nat) (h : n ≤ s.size) (lo : Int) (hl : lo = (n : Int)) (w : World) :
    (Instr.slice 9 (.string s) (some (.int .i64 lo)) none none).run Tryz.prog w = .ok (.string (strB ((sl s).drop n))) w := by
  subst hl
  rw [run_slice_string_from_if (P := Tryz.prog) (w := w) 9 s .i64 (n : Int) Tryz.underlying9, if_pos ⟨by omega, by omega⟩]
  have e := ext_strB s n (s.size - n) (by omega)
  rw [show n + (s.size - n) = s.size by omega, List.take_of_length_le (by rw [List.length_drop, sl_length]; exact Nat.le_refl _)] at e
  rw [← e]
  rfl
/-- how the loop of a text that is written stands -/
structure WdS (w wr : World) (T : List Nat) (v : Value) (acc : List Nat) (k : Nat) (kd nn ss : Int) (S : ByteArray) : Prop where
  own : OwB wr (w.heap.size + 1) v acc
  kl : k ≤ T.length
  eq : acc = 39 :: escL (T.take k)
  al : acc.length ≤ 2 * k + 1
  bel : Below w.heap.size w wr
  sz : w.heap.size + 1 ≤ wr.heap.size
  bx : TBox wr w.heap.size kd nn ss S
theorem escL_snoc (l : List Nat) (c : Nat) : escL (l ++ [c]) = escL l ++ (if c = 39 then [39, 39] else [c]) := by
  induction l with
  | nil =>
    show (if c = 39 then 39 :: 39 :: escL [] else c :: escL []) = _
    split <;> rfl
  | cons d r ih =>
    show (if d = 39 then 39 :: 39 :: escL (r ++ [c]) else d :: escL (r ++ [c])) = (if d = 39 then 39 :: 39 :: escL r else d :: escL r) ++ _
    rw [ih]
    split <;> rfl
set_option maxHeartbeats 4000000 in
theorem rwd_any (t : Tk) (ht : TkR t) (w : World) : Calls Tryz.prog 17 #[Tkv t.kind (strB t.text) t.num t.scale] w fun e w' => e = .returned (.string (strB (wordT t))) ∧ Below w.heap.size w w' := by
  obtain ⟨h5, hnum, hsc, htl, htb⟩ := ht
  obtain ⟨W1, hW1⟩ : ∃ W1, w.alloc (.cells #[.int .i64 (t.kind : Int), .string (strB t.text), .int .i64 (t.num : Int), .int .i64 (t.scale : Int)] 47) = W1 := ⟨_, rfl⟩
  have b1 : Below w.heap.size w W1 := by rw [← hW1]; exact (Below.refl _ _).alloc (Nat.le_refl _) _
  have n1 : TBox W1 w.heap.size (t.kind : Int) (t.num : Int) (t.scale : Int) (strB t.text) := by rw [← hW1]; exact heap_alloc_new w (.cells #[.int .i64 (t.kind : Int), .string (strB t.text), .int .i64 (t.num : Int), .int .i64 (t.scale : Int)] 47)
  obtain ⟨⟨c0, c1, c2, c3⟩, f0, f1, f2, f3⟩ := n1.cells
  have HB1 := Lib.hid (And.intro b1 n1)
  clear b1 n1
  have HD := Lib.hid (rdigits_any t.num hnum W1)
  unfold Tkv
  by_cases k2 : t.kind = 2
  · have hw : wordT t = digL t.num := by unfold wordT; rw [if_pos k2]
    rw [hw]
    have q2 : ((t.kind : Int) == 2) = true := by rw [k2]; rfl
    clear k2
    go_enter Tryz.func17, Tryz.ntmps17
    go_wp2_with fail
    try go_at_call 37
    refine HD.out.mono ?_
    rintro e w2 ⟨rfl, b2⟩
    have HB2 := Lib.hid (HB1.out.1.trans (b2.mono HB1.out.1.size))
    clear b2
    go_wp2_with fail
    go_ret
    exact ⟨rfl, HB2.out⟩
  · have q2 : ((t.kind : Int) == 2) = false := beq_eq_false_iff_ne.2 (by omega)
    by_cases k3 : t.kind = 3
    · have q3 : ((t.kind : Int) == 3) = true := by rw [k3]; rfl
      obtain ⟨n, hn⟩ : ∃ n, t.num = n := ⟨_, rfl⟩
      obtain ⟨sc, hs⟩ : ∃ sc, t.scale = sc := ⟨_, rfl⟩
      have hw : wordT t = (padL n sc).take ((padL n sc).length - sc) ++ 46 :: (padL n sc).drop ((padL n sc).length - sc) := by unfold wordT; rw [if_neg k2, if_pos k3, hn, hs]
      rw [hw]
      have hd19 := digL_len 18 n (by omega)
      rw [hn] at HD c2 hnum
      rw [hs] at c3 hsc
      have HW1 : W1 = W1 := rfl
      obtain ⟨kd, hkd⟩ : ∃ kd : Int, (t.kind : Int) = kd := ⟨_, rfl⟩
      rw [hkd] at q2 q3 c0
      rw [hn, hs, hkd] at hW1 ⊢
      have HBB := HB1
      rw [hn, hs, hkd] at HB1
      clear hw hn hs k3 k2 hkd HBB HW1
      go_enter Tryz.func17, Tryz.ntmps17
      go_wp2_with fail
      try go_at_call 37
      refine HD.out.mono ?_
      rintro e w2 ⟨rfl, b2⟩
      have c3' : w2.cell? ⟨w.heap.size, 3, none⟩ = some (.int .i64 (sc : Int)) := (b2.cell (p := ⟨w.heap.size, 3, none⟩) HB1.out.2.lt).trans c3
      have HB2 := Lib.hid (HB1.out.1.trans (b2.mono HB1.out.1.size))
      clear b2 c0 c1 c2 c3 f0 f1 f2 f3 hW1
      go_wp2_with fail
      go_loopw [3] (fun v wr => ∃ j : Nat, v = .string (strB (List.replicate j 48 ++ digL n)) ∧ (j = 0 ∨ j + (digL n).length ≤ sc + 1) ∧ w2 = wr) (fun v _ => sc + 20 - (match v with | .string s => s.size | _ => 0))
      case atStart => exact ⟨0, rfl, .inl rfl, by trivial⟩
      case round =>
        obtain ⟨j, rfl, hj, rfl⟩ := hrel
        have hl : (List.replicate j 48 ++ digL n).length = j + (digL n).length := by rw [List.length_append, List.length_replicate]
        have hsz : (strB (List.replicate j 48 ++ digL n)).size = j + (digL n).length := by rw [strB_len, hl]
        by_cases hle : j + (digL n).length ≤ sc
        · have hap : (⟨#[48]⟩ : ByteArray) ++ strB (List.replicate j 48 ++ digL n) = strB (List.replicate (j + 1) 48 ++ digL n) := by
            rw [show (⟨#[48]⟩ : ByteArray) = strB [48] from rfl, strB_app]
            rfl
          have hsz2 : (strB (List.replicate (j + 1) 48 ++ digL n)).size = j + 1 + (digL n).length := by rw [strB_len, List.length_append, List.length_replicate]
          have HZ2 := Lib.hid hsz2
          have HZ := Lib.hid hsz
          have hle2 : (((strB (List.replicate j 48 ++ digL n)).size : Nat) : Int) ≤ (sc : Int) := by rw [hsz]; omega
          have hns : ¬ 9223372036854775807 < (⟨#[48]⟩ : ByteArray).size + (strB (List.replicate j 48 ++ digL n)).size := by
            have : (⟨#[48]⟩ : ByteArray).size = 1 := rfl
            omega
          clear hsz hsz2
          obtain ⟨A, hA⟩ : ∃ A, strB (List.replicate j 48 ++ digL n) = A := ⟨_, rfl⟩
          rw [hA] at hap hle2 hns HZ ⊢
          have HA := Lib.hid hA
          clear hA hl
          go_wp2_with fail
          exact ⟨⟨j + 1, rfl, .inr (by omega), by trivial⟩, by show sc + 20 - (strB _).size < sc + 20 - A.size; rw [HZ2.out, HZ.out]; omega⟩
        · have hpad : List.replicate j 48 ++ digL n = padL n sc := by
            unfold padL
            rw [show sc + 1 - (digL n).length = j by omega]
          have hgt : ¬ ((((strB (List.replicate j 48 ++ digL n)).size : Nat) : Int) ≤ (sc : Int)) := by rw [hsz]; omega
          have hpl : (padL n sc).length = j + (digL n).length := by rw [← hpad]; exact hl
          have hpb : ∀ x ∈ padL n sc, x < 256 := fun x hx => by
            rw [← hpad] at hx
            rcases List.mem_append.1 hx with g | g
            · rw [List.eq_of_mem_replicate g]; decide
            · have := (dg_iff x).1 (digL_dg n x g); omega
          rw [hpad] at hsz hgt ⊢
          have hsl := sl_strB hpb
          obtain ⟨q, hq⟩ : ∃ q, (padL n sc).length - sc = q := ⟨_, rfl⟩
          have w1' : IntKind.i64.wrap (((strB (padL n sc)).size : Int) - (sc : Int)) = (q : Int) := by rw [IntKind.wrap_i64, hsz]; omega
          have hst := fun wx : World => slice_to (strB (padL n sc)) q (by omega) (q : Int) rfl wx
          have hsf := fun wx : World => slice_from (strB (padL n sc)) q (by omega) (q : Int) rfl wx
          rw [hsl] at hst hsf
          have hz1 : (strB ((padL n sc).take q)).size ≤ 40 := by rw [strB_len, List.length_take]; omega
          have hz2 : (strB ((padL n sc).drop q)).size ≤ 40 := by rw [strB_len, List.length_drop]; omega
          have hn1 : ¬ 9223372036854775807 < (strB ((padL n sc).take q)).size + (⟨#[46]⟩ : ByteArray).size := by
            have : (⟨#[46]⟩ : ByteArray).size = 1 := rfl
            omega
          have hn2 : ¬ 9223372036854775807 < (strB ((padL n sc).take q) ++ (⟨#[46]⟩ : ByteArray)).size + (strB ((padL n sc).drop q)).size := by
            rw [ByteArray.size_append]
            have : (⟨#[46]⟩ : ByteArray).size = 1 := rfl
            omega
          have hfin : strB ((padL n sc).take q) ++ (⟨#[46]⟩ : ByteArray) ++ strB ((padL n sc).drop q) = strB ((padL n sc).take ((padL n sc).length - sc) ++ 46 :: (padL n sc).drop ((padL n sc).length - sc)) := by
            rw [hq, show (⟨#[46]⟩ : ByteArray) = strB [46] from rfl, strB_app, strB_app, List.append_assoc]
            rfl
          have HF := Lib.hid hfin
          clear hfin hpad hpl hpb hsl hq hl hz1 hz2 hsz hj
          generalize strB ((padL n sc).take q) = A at *
          generalize strB ((padL n sc).drop q) = C at *
          generalize strB (padL n sc) = D at *
          go_wp2_with fail
          go_quiet (fail)
          go_wp2_with fail
          go_ret
          exact ⟨by rw [← HF.out]; rfl, HB2.out.trans ⟨rfl, rfl, rfl, Nat.le_refl _, fun _ _ => rfl⟩⟩
    · have q3 : ((t.kind : Int) == 3) = false := beq_eq_false_iff_ne.2 (by omega)
      by_cases k4 : t.kind = 4
      · have q4 : ((t.kind : Int) == 4) = true := by rw [k4]; rfl
        have hw : wordT t = 39 :: (escL t.text ++ [39]) := by unfold wordT; rw [if_neg k2, if_neg k3, if_pos k4]
        rw [hw]
        obtain ⟨T, hT⟩ : ∃ T, t.text = T := ⟨_, rfl⟩
        obtain ⟨kd, hkd⟩ : ∃ kd : Int, (t.kind : Int) = kd := ⟨_, rfl⟩
        obtain ⟨nn, hnn⟩ : ∃ nn : Int, (t.num : Int) = nn := ⟨_, rfl⟩
        obtain ⟨ss, hss⟩ : ∃ ss : Int, (t.scale : Int) = ss := ⟨_, rfl⟩
        rw [hT] at c1 htl htb
        rw [hkd] at q2 q3 q4 c0
        rw [hT, hkd, hnn, hss] at HB1 hW1 ⊢
        clear hw hT hkd hnn hss k2 k3 k4 HD
        have hTl : (strB T).size = T.length := strB_len T
        have hgx : ∀ (k : Nat) (h : k < (strB T).size), ((strB T)[k]'h).toNat = T.getD k 0 := fun k h => by rw [← slx_get _ _ h, sl_strB htb]
        have HGX := Lib.hid hgx
        have HTL := Lib.hid hTl
        have htb' : ∀ k, T.getD k 0 < 256 := fun k => by
          by_cases hk : k < T.length
          · rw [List.getD_eq_getElem?_getD, List.getElem?_eq_getElem hk]; exact htb _ (List.getElem_mem hk)
          · rw [getD_out T k hk]; decide
        generalize hS : strB T = S at *
        have hown0 : OwB (W1.alloc (.cells #[.int .u8 39] 5)) (w.heap.size + 1) (.slice (some ⟨W1.heap.size, 0, none⟩) 1 1) [39] :=
          ⟨⟨rfl, .inr ⟨W1.heap.size, 1, #[.int .u8 39], rfl, HB1.out.2.lt, heap_alloc_new W1 (.cells #[.int .u8 39] 5), Nat.le_refl _, by decide, rfl, rfl⟩⟩, by simp⟩
        have HS0 : Hid (WdS w (W1.alloc (.cells #[.int .u8 39] 5)) T (.slice (some ⟨W1.heap.size, 0, none⟩) 1 1) [39] 0 kd nn ss S) := Lib.hid ⟨hown0, Nat.zero_le _, by simp [escL], by simp, HB1.out.1.alloc HB1.out.1.size _, by have := HB1.out.2.lt; simp; omega, HB1.out.2.below ((Below.refl _ _).alloc (Nat.le_refl _) _)⟩
        clear hown0 hTl hgx c0 c1 c2 c3 f0 f1 f2 f3
        obtain ⟨⟨c0, c1, c2, c3⟩, f0, f1, f2, f3⟩ := HB1.out.2.cells
        go_enter Tryz.func17, Tryz.ntmps17
        go_wp2_with fail
        go_loopw [4, 5] (fun v i wr => ∃ (k : Nat) (acc : List Nat), i = .int .i64 (k : Int) ∧ WdS w wr T v acc k kd nn ss S) (fun _ i _ => T.length - (intOf i).toNat)
        case atStart => exact ⟨0, [39], rfl, HS0.out⟩
        case round =>
          obtain ⟨k, acc, rfl, hs⟩ := hrel
          have HS := Lib.hid hs
          have hkl := hs.kl
          obtain ⟨⟨x0, x1, x2, x3⟩, y0, y1, y2, y3⟩ := hs.bx.cells
          clear hs c0 c1 c2 c3 f0 f1 f2 f3
          by_cases hk : k < T.length
          · have hkS : k < S.size := by rw [HTL.out]; exact hk
            have hki : (k : Int) < (S.size : Int) := by omega
            have hsx := HGX.out k hkS
            have hc8 := htb' k
            have hsn := take_snoc T k hk
            generalize T.getD k 0 = c at *
            have HSN := Lib.hid hsn
            have w5' : IntKind.i64.wrap ((k : Int) + 1) = (k : Int) + 1 := by rw [IntKind.wrap_i64]; omega
            clear hsn
            by_cases h39 : c = 39
            · subst h39
              go_wp2_with (first | (at_builtin; refine wp_push rfl _ _ rfl (w.heap.size + 1) u4 acc rfl (HS.out.own.alloc _) ⟨wr.heap.size, 0, none⟩ 1 1 [39] rfl rfl (news1' wr 39 _ (by first | rfl | simp)) (by have := HS.out.al; omega) (by have := HS.out.sz; simp; omega) ?_; intro v2 w2 own2 gr2; have HX2 := Lib.hid (And.intro own2 gr2); have HX3 := Lib.hid (And.intro ((HS.out.bel.alloc (by have := HS.out.sz; omega) (.cells #[.int .u8 (39 : Int)] 5)).grown gr2 (by have := HS.out.sz; simp; omega) (fun g hg => by have := (HS.out.own.lt g hg).1; omega)) ((HS.out.bx.below ((Below.refl _ _).alloc (Nat.le_refl _) (.cells #[.int .u8 (39 : Int)] 5))).grown gr2 (fun g hg => by have := (HS.out.own.lt g hg).1; omega))); have hs2 : w.heap.size + 1 ≤ w2.heap.size := (by have h1 := gr2.size; have h2 := HS.out.sz; simp at h1; omega); obtain ⟨⟨z0, z1, z2, z3⟩, _⟩ := HX3.out.2.cells; clear own2 gr2) | (at_builtin; refine wp_push rfl _ _ rfl (w.heap.size + 1) v2 (acc ++ [39]) rfl (HX2.out.1.alloc _) ⟨w2.heap.size, 0, none⟩ 1 1 [39] rfl rfl (news1' w2 39 _ (by first | rfl | simp)) (by have := HS.out.al; simp; omega) (by simp; omega) ?_; intro v5 w5 own5 gr5; have HX5 := Lib.hid (And.intro own5 gr5); clear own5 gr5))
              have hs5 := HX5.out.2.size
              refine ⟨⟨k + 1, acc ++ [39] ++ [39], by congr 1, ⟨HX5.out.1, by omega, ?_, by have := HS.out.al; simp; omega, ?_, by simp at hs5; omega, ?_⟩⟩, by simp [intOf]; omega⟩
              · rw [HSN.out, escL_snoc, if_pos rfl, HS.out.eq]; simp
              · exact (HX3.out.1.alloc (by omega) _).grown HX5.out.2 (by simp; omega) (fun g hg => by have := (HX2.out.1.lt g hg).1; omega)
              · exact (HX3.out.2.below ((Below.refl _ _).alloc (Nat.le_refl _) _)).grown HX5.out.2 (fun g hg => by have := (HX2.out.1.lt g hg).1; omega)
            · have q39 : ((c : Int) == 39) = false := beq_eq_false_iff_ne.2 (by omega)
              go_wp2_with (first | (at_builtin; refine wp_push rfl _ _ rfl (w.heap.size + 1) u4 acc rfl (HS.out.own.alloc _) ⟨wr.heap.size, 0, none⟩ 1 1 [c] rfl rfl (news1' wr c _ (by first | rfl | simp)) (by have := HS.out.al; omega) (by have := HS.out.sz; simp; omega) ?_; intro v2 w2 own2 gr2; have HX2 := Lib.hid (And.intro own2 gr2); have HX3 := Lib.hid (And.intro ((HS.out.bel.alloc (by have := HS.out.sz; omega) (.cells #[.int .u8 (c : Int)] 5)).grown gr2 (by have := HS.out.sz; simp; omega) (fun g hg => by have := (HS.out.own.lt g hg).1; omega)) ((HS.out.bx.below ((Below.refl _ _).alloc (Nat.le_refl _) (.cells #[.int .u8 (c : Int)] 5))).grown gr2 (fun g hg => by have := (HS.out.own.lt g hg).1; omega))); have hs2 : w.heap.size + 1 ≤ w2.heap.size := (by have h1 := gr2.size; have h2 := HS.out.sz; simp at h1; omega); obtain ⟨⟨z0, z1, z2, z3⟩, _⟩ := HX3.out.2.cells; clear own2 gr2))
              refine ⟨⟨k + 1, acc ++ [c], by congr 1, ⟨HX2.out.1, by omega, ?_, by have := HS.out.al; simp; omega, HX3.out.1, hs2, HX3.out.2⟩⟩, by simp [intOf]; omega⟩
              rw [HSN.out, escL_snoc, if_neg h39, HS.out.eq]; simp
          · have hki : decide ((k : Int) < (S.size : Int)) = false := by rw [HTL.out]; simp; omega
            have hki2 : decide (k < S.size) = false := by rw [HTL.out]; simp; omega
            have hki3 : ¬ k < S.size := by rw [HTL.out]; omega
            have hki4 : ¬ (k : Int) < (S.size : Int) := by rw [HTL.out]; omega
            have heq := HS.out.eq
            rw [List.take_of_length_le (by omega)] at heq
            have HEQ := Lib.hid heq
            clear heq
            go_wp2_with (first | (at_builtin; refine wp_push rfl _ _ rfl (w.heap.size + 1) u4 acc rfl (HS.out.own.alloc _) ⟨wr.heap.size, 0, none⟩ 1 1 [39] rfl rfl (news1' wr 39 _ (by first | rfl | simp)) (by have := HS.out.al; omega) (by have := HS.out.sz; simp; omega) ?_; intro v2 w2 own2 gr2; have HX2 := Lib.hid (And.intro own2 ((HS.out.bel.alloc (by have := HS.out.sz; omega) (.cells #[.int .u8 (39 : Int)] 5)).grown gr2 (by have := HS.out.sz; simp; omega) (fun g hg => by have := (HS.out.own.lt g hg).1; omega))); have hstr := str_own own2; clear own2 gr2))
            go_ret
            exact ⟨by rw [HEQ.out]; rfl, HX2.out.2⟩
      · have q4 : ((t.kind : Int) == 4) = false := beq_eq_false_iff_ne.2 (by omega)
        have hw : wordT t = t.text := by unfold wordT; rw [if_neg k2, if_neg k3, if_neg k4]
        rw [hw]
        generalize strB t.text = S at *
        go_enter Tryz.func17, Tryz.ntmps17
        go_wp2_with fail
        go_ret
        exact ⟨rfl, HB1.out.1⟩

end Go.Proofs.YtkffomfbnbcgaaaGreatDoor

namespace Go.Proofs.YtkffomfbnbcgaaaGreatDoor
set_option maxRecDepth 100000
open Go.RowKit Go.Joins Go.ChangeShapes Go.WideShapes
set_option linter.unusedVariables false
set_option linter.unusedSimpArgs false

theorem open_u8 {W : World} {r : Reach} {b0 : Nat} {v : Value} (o : Value.okWide Tryz.prog W r b0 5 v) : ∃ n : Nat, v = .int .u8 (n : Int) ∧ n < 256 := by
  have o2 : Cell.okWide Tryz.prog W r b0 5 v := by
    unfold Value.okWide at o
    rw [Tryz.underlying5] at o
    exact o
  cases v <;> simp [Cell.okWide, Cell.ok, Tryz.underlying5] at o2
  rename_i k n
  obtain ⟨rfl, h⟩ := o2
  simp [IntKind.has, IntKind.min, IntKind.max, IntKind.signed, IntKind.bits] at h
  refine ⟨n.toNat, ?_, by omega⟩
  congr 1
  omega
theorem escL_le : ∀ l : List Nat, (escL l).length ≤ 2 * l.length
  | [] => by simp [escL]
  | c :: r => by
    have := escL_le r
    show (if c = 39 then 39 :: 39 :: escL r else c :: escL r).length ≤ _
    split <;> simp <;> omega
theorem escL_lt : ∀ l : List Nat, (∀ x ∈ l, x < 256) → ∀ x ∈ escL l, x < 256
  | [], _, x, hx => by simp [escL] at hx
  | c :: r, h, x, hx => by
    have ih := escL_lt r (fun y hy => h y (List.mem_cons_of_mem _ hy)) x
    have hx : x ∈ (if c = 39 then 39 :: 39 :: escL r else c :: escL r) := hx
    split at hx
    · simp only [List.mem_cons] at hx
      rcases hx with e | e | e
      · omega
      · omega
      · exact ih e
    · rcases List.mem_cons.1 hx with e | e
      · rw [e]; exact h c (List.mem_cons_self ..)
      · exact ih e
theorem pad_dg (n sc : Nat) : ∀ x ∈ padL n sc, dgL x = true := by
  intro x hx
  unfold padL at hx
  rcases List.mem_append.1 hx with g | g
  · rw [List.eq_of_mem_replicate g]; rfl
  · exact digL_dg n x g
theorem word_ok (t : Tk) (h : TkR t) : (wordT t).length ≤ 402 ∧ ∀ x ∈ wordT t, x < 256 := by
  obtain ⟨h5, hnum, hsc, htl, htb⟩ := h
  have hd := digL_len 18 t.num (by omega)
  unfold wordT
  split
  · exact ⟨by omega, fun x hx => by have := (dg_iff x).1 (digL_dg _ x hx); omega⟩
  · split
    · have hp : (padL t.num t.scale).length ≤ 40 := by
        unfold padL
        rw [List.length_append, List.length_replicate]
        omega
      have hpd := pad_dg t.num t.scale
      refine ⟨by simp only [List.length_append, List.length_take, List.length_cons, List.length_drop]; omega, fun x hx => ?_⟩
      rcases List.mem_append.1 hx with g | g
      · have := (dg_iff x).1 (hpd x (List.mem_of_mem_take g)); omega
      · rcases List.mem_cons.1 g with g | g
        · omega
        · have := (dg_iff x).1 (hpd x (List.mem_of_mem_drop g)); omega
    · split
      · have := escL_le t.text
        refine ⟨by simp; omega, fun x hx => ?_⟩
        rcases List.mem_cons.1 hx with g | g
        · omega
        · rcases List.mem_append.1 g with g | g
          · exact escL_lt _ htb x g
          · simp at g; omega
      · exact ⟨by omega, htb⟩
/-- tokens written, a blank ahead of each -/
def wrt (e : Nat) (ts : List Tk) : List Nat := ts.flatMap fun t => e :: wordT t
theorem wrt_snoc (e : Nat) (ts : List Tk) (t : Tk) : wrt e (ts ++ [t]) = wrt e ts ++ [e] ++ wordT t := by
  unfold wrt
  rw [List.flatMap_append]
  simp
theorem wrt_ok (e : Nat) (he : e < 256) : ∀ ts : List Tk, (∀ t ∈ ts, TkR t) → (wrt e ts).length ≤ ts.length * 403 ∧ ∀ x ∈ wrt e ts, x < 256
  | [], _ => ⟨by simp [wrt], fun x hx => by simp [wrt] at hx⟩
  | t :: r, h => by
    obtain ⟨h1, h2⟩ := wrt_ok e he r (fun x hx => h x (List.mem_cons_of_mem _ hx))
    obtain ⟨g1, g2⟩ := word_ok t (h t (List.mem_cons_self ..))
    have e1 : wrt e (t :: r) = (e :: wordT t) ++ wrt e r := by unfold wrt; rw [List.flatMap_cons]
    rw [e1]
    refine ⟨by simp only [List.length_append, List.length_cons]; omega, fun x hx => ?_⟩
    rcases List.mem_append.1 hx with k | k
    · rcases List.mem_cons.1 k with k | k
      · omega
      · exact g2 x k
    · exact h2 x k
theorem toks_wrt {e : Nat} (he : blL e = true) {l : List Nat} {ts : List Tk} (h : lexL l = .ok ts) (hl : (wrt e ts).length ≤ 4000) : toksE (wrt e ts) = .ok ts := by
  unfold toksE
  rw [if_neg (by omega)]
  exact lexL_words he ts (lexL_good l ts h)
/-- how the loop that writes the tokens stands -/
structure LtS (W wr : World) (v : Value) (acc : List Nat) (k n : Nat) : Prop where
  own : OwB wr W.heap.size v acc
  kl : k ≤ n
  bel : Below W.heap.size W wr
  sz : W.heap.size ≤ wr.heap.size
theorem and3 : ∀ b : Nat, b < 256 → bits .and .u8 (b : Int) 3 = ((b % 4 : Nat) : Int) := by decide
theorem bl_at : ∀ m : Nat, ∀ h : m < 4, ∃ e, (((⟨#[32, 9, 10, 13]⟩ : ByteArray)[m]'h).toNat = e) ∧ blL e = true ∧ e < 256
  | 0, _ => ⟨32, rfl, rfl, by decide⟩
  | 1, _ => ⟨9, rfl, rfl, by decide⟩
  | 2, _ => ⟨10, rfl, rfl, by decide⟩
  | 3, _ => ⟨13, rfl, rfl, by decide⟩

end Go.Proofs.YtkffomfbnbcgaaaGreatDoor

namespace Go.Proofs.YtkffomfbnbcgaaaGreatDoor
set_option maxRecDepth 100000
open Go.RowKit Go.Joins Go.ChangeShapes Go.WideShapes
set_option linter.unusedVariables false
set_option linter.unusedSimpArgs false

theorem rone_any (s : ByteArray) (i0 : Nat) (w : World) (hi : i0 < s.size) (hs : s.size ≤ 4294967296) :
    Calls Tryz.prog 36 #[.string s, .int .i64 (i0 : Int)] w (RTok (tokL ((sl s).drop i0)) i0 w) := by
  have hdr := drop_getD (sl s) i0 (by rw [sl_length]; exact hi)
  cases hb : bwL ((sl s).getD i0 0) with
  | true =>
    have := rword_any s i0 w hi hs hb
    rw [hdr, ← tokL_word hb, ← hdr] at this
    exact this
  | false =>
    cases hd : dgL ((sl s).getD i0 0) with
    | true =>
      have := rnum_any s i0 w hi hs hb hd
      rw [hdr, ← tokL_num hb hd, ← hdr] at this
      exact this
    | false =>
      by_cases h39 : (sl s).getD i0 0 = 39
      · have := rtxt_any s i0 w hi hs h39
        rw [← tokL_txt, ← h39, ← hdr] at this
        exact this
      · have := rsgn_any s i0 w hi hs hb hd h39
        rw [hdr, ← tokL_sgn hb hd h39, ← hdr] at this
        exact this
/-- what the document's Tokens answers -/
def RTks (x : Except Nat (List Tk)) (w : World) (e : Ending) (w' : World) : Prop := Below w.heap.size w w' ∧ match x with
  | .error er => ∃ v, e = .returned (.tuple #[v, .int .i64 (er : Int)]) ∧ OwT w' w.heap.size v []
  | .ok ts => ∃ v, e = .returned (.tuple #[v, .int .i64 0]) ∧ OwT w' w.heap.size v ts
structure RkS (w wr : World) (l : List Nat) (v : Value) (ts : List Tk) (k : Nat) : Prop where
  own : OwT wr (w.heap.size + 1) v ts
  non : wr.heap[w.heap.size]? = some (.cells #[] 47 (0, 0))
  kl : k ≤ l.length
  al : ts.length ≤ k
  eq : lexL l = preT ts (lexL (l.drop k))
  bel : Below w.heap.size w wr
  sz : w.heap.size + 1 ≤ wr.heap.size
set_option maxHeartbeats 4000000 in
theorem rtokens_any (s : ByteArray) (w : World) :
    Calls Tryz.prog 16 #[.string s] w (RTks (toksE (sl s)) w) := by
  have b1 : Below w.heap.size w (w.alloc (.cells #[] 47)) := (Below.refl _ _).alloc (Nat.le_refl _) _
  have hn1 := heap_alloc_new w (.cells #[] 47)
  have b2 : Below w.heap.size w ((w.alloc (.cells #[] 47)).alloc (.cells #[] 47)) := b1.alloc (by simp) _
  have hn2 : ((w.alloc (.cells #[] 47)).alloc (.cells #[] 47)).heap[w.heap.size]? = some (.cells #[] 47 (0, 0)) := (((Below.refl _ _).alloc (Nat.le_refl _) (.cells #[] 47)).block _ (by simp)).trans hn1
  have hnon : ∀ wx : World, wx.heap[w.heap.size]? = some (.cells #[] 47 (0, 0)) → OwT wx w.heap.size (.slice (some ⟨w.heap.size, 0, none⟩) 0 0) [] := fun wx h => ⟨rfl, .inr ⟨_, 0, #[], rfl, Nat.le_refl _, h, Nat.le_refl _, by decide, rfl, rfl⟩⟩
  have HNON := Lib.hid hnon
  have HS0 : Hid (RkS w ((w.alloc (.cells #[] 47)).alloc (.cells #[] 47)) (sl s) (.slice (some ⟨w.heap.size + 1, 0, none⟩) 0 0) [] 0) := Lib.hid
    ⟨by
      have := World.ownsRow_made (w.alloc (.cells #[] 47)) #[] 0 (base := w.heap.size + 1) (e := 47) (size := 4) (by simp) (by decide) rfl
      simpa [OwT, tkcells] using this, hn2, Nat.zero_le _, Nat.zero_le _, by rw [preT_nil]; rfl, b2, by simp⟩
  generalize hP : RTks (toksE (sl s)) w = P
  have HP := Lib.hid hP
  have HB2 := Lib.hid (And.intro b2 hn2)
  clear hP b1 hn1 b2 hn2 hnon
  by_cases hlong : s.size > 4000
  · have hX : P (.returned (.tuple #[.slice (some ⟨w.heap.size, 0, none⟩) 0 0, .int .i64 1])) ((w.alloc (.cells #[] 47)).alloc (.cells #[] 47)) := by
      rw [← HP.out]
      unfold toksE
      rw [sl_length, if_pos hlong]
      exact ⟨HB2.out.1, _, rfl, HNON.out _ HB2.out.2⟩
    have HX := Lib.hid hX
    have k1 : decide ((4000 : Int) < (s.size : Int)) = true := by simp; omega
    clear hX
    go_enter Tryz.func16, Tryz.ntmps16
    go_wp2_with fail
    exact HX.out
  · have k1 : decide ((4000 : Int) < (s.size : Int)) = false := by simp; omega
    have hTE : toksE (sl s) = lexL (sl s) := by unfold toksE; rw [sl_length, if_neg hlong]
    rw [hTE] at HP
    clear hTE
    go_enter Tryz.func16, Tryz.ntmps16
    go_wp2_with fail
    go_loopw [5, 6] (fun v i wr => ∃ (k : Nat) (ts : List Tk), i = .int .i64 (k : Int) ∧ RkS w wr (sl s) v ts k) (fun _ i _ => s.size - (intOf i).toNat)
    case atStart => exact ⟨0, [], rfl, by simpa using HS0.out⟩
    case round =>
      obtain ⟨k, ts, rfl, hs⟩ := hrel
      have HS := Lib.hid hs
      have hkl : k ≤ s.size := by have := hs.kl; rw [sl_length] at this; exact this
      clear hs
      by_cases hk : k < s.size
      · have hki : (k : Int) < (s.size : Int) := by omega
        have hsx := (slx_get s k hk).symm
        have hdr := drop_getD (sl s) k (by rw [sl_length]; exact hk)
        have hc8 := slx_lt s k
        have HC := Lib.hid (rone_any s k wr hk (by omega))
        generalize (sl s).getD k 0 = c at *
        have HDR := Lib.hid hdr
        have w7' : IntKind.i64.wrap ((k : Int) + 1) = (k : Int) + 1 := by rw [IntKind.wrap_i64]; omega
        clear hdr
        have hj : (blL c = true ∧ (c = 32 ∨ c = 9 ∨ c = 10 ∨ c = 13)) ∨ (blL c = false ∧ ((c : Int) == 32) = false ∧ ((c : Int) == 9) = false ∧ ((c : Int) == 10) = false ∧ ((c : Int) == 13) = false) := by
          cases hb : blL c with
          | true => exact .inl ⟨rfl, blk_cases hb⟩
          | false =>
            right
            unfold blL at hb
            simp only [Bool.or_eq_false_iff, beq_eq_false_iff_ne] at hb
            exact ⟨rfl, beq_eq_false_iff_ne.2 (by omega), beq_eq_false_iff_ne.2 (by omega), beq_eq_false_iff_ne.2 (by omega), beq_eq_false_iff_ne.2 (by omega)⟩
        rcases hj with ⟨hb, hj⟩ | ⟨hb, j1, j2, j3, j4⟩
        · have hnx : Hid (RkS w wr (sl s) u5 ts (k + 1)) := Lib.hid ⟨HS.out.own, HS.out.non, by rw [sl_length]; omega, by have := HS.out.al; omega, by rw [HS.out.eq, HDR.out, lexL_blank c _ hb], HS.out.bel, HS.out.sz⟩
          clear HC HDR hb
          rcases hj with rfl | rfl | rfl | rfl
          all_goals
            go_wp2_with fail
            all_goals first
              | (exfalso; omega)
              | exact ⟨⟨k + 1, ts, by congr 1, hnx.out⟩, by simp [intOf]; omega⟩
        · have hlt := lexL_tok c ((sl s).drop (k + 1)) hb
          rw [← HDR.out] at hlt
          have HLT := Lib.hid hlt
          have hne : (sl s).drop k ≠ [] := by rw [HDR.out]; simp
          clear hlt hb
          cases htk : tokL ((sl s).drop k) with
          | error er =>
            rw [htk] at HC HLT
            have her := tokL_err _ hne er htk
            have hne2 : ((er : Int) != 0) = true := by simp; omega
            go_wp2_with fail
            all_goals first | (exfalso; omega) | skip
            try go_at_call 36
            refine HC.out.mono ?_
            rintro ee w2 ⟨hb2, j, rfl⟩
            have hX : P (.returned (.tuple #[.slice (some ⟨w.heap.size, 0, none⟩) 0 0, .int .i64 (er : Int)])) (w2.alloc (.cells #[.int .i64 0, .string ⟨#[]⟩, .int .i64 0, .int .i64 0] 47)) := by
              rw [← HP.out, HS.out.eq, HLT.out]
              have hbb := (HS.out.bel.trans (hb2.mono (by have := HS.out.sz; omega))).alloc (by have := HS.out.sz; have := hb2.size; omega) (.cells #[.int .i64 0, .string ⟨#[]⟩, .int .i64 0, .int .i64 0] 47)
              refine ⟨hbb, _, rfl, HNON.out _ ?_⟩
              exact (((hb2.trans (((Below.refl _ _).alloc (Nat.le_refl _) _).mono hb2.size)).block _ (by have := HS.out.sz; omega))).trans HS.out.non
            have HX := Lib.hid hX
            clear hX hb2
            unfold Tkv
            go_wp2_with fail
            exact HX.out
          | ok x =>
            obtain ⟨t, k2⟩ := x
            rw [htk] at HC HLT
            obtain ⟨hk2, hk0⟩ := tokL_len _ t k2 htk
            rw [List.length_drop, sl_length] at hk2
            go_wp2_with fail
            all_goals first | (exfalso; omega) | skip
            try go_at_call 36
            refine HC.out.mono ?_
            rintro ee w6 ⟨hb6, he⟩
            have he : ee = _ := he
            subst he
            have hs6 := hb6.size
            have hsr := HS.out.sz
            obtain ⟨w7, hw7⟩ : ∃ w7, w6.alloc (.cells #[.int .i64 (t.kind : Int), .string (strB t.text), .int .i64 (t.num : Int), .int .i64 (t.scale : Int)] 47) = w7 := ⟨_, rfl⟩
            have b7 : Below w6.heap.size w6 w7 := by rw [← hw7]; exact (Below.refl _ _).alloc (Nat.le_refl _) _
            have n7 : TBox w7 w6.heap.size (t.kind : Int) (t.num : Int) (t.scale : Int) (strB t.text) := by rw [← hw7]; exact heap_alloc_new w6 (.cells #[.int .i64 (t.kind : Int), .string (strB t.text), .int .i64 (t.num : Int), .int .i64 (t.scale : Int)] 47)
            obtain ⟨⟨x0, x1, x2, x3⟩, y0, y1, y2, y3⟩ := n7.cells
            obtain ⟨w8, hw8⟩ : ∃ w8, w7.alloc (.cells #[.int .i64 (t.kind : Int), .string (strB t.text), .int .i64 (t.num : Int), .int .i64 (t.scale : Int)] 47) = w8 := ⟨_, rfl⟩
            have b8 : Below w7.heap.size w7 w8 := by rw [← hw8]; exact (Below.refl _ _).alloc (Nat.le_refl _) _
            have hnews : ∀ j x, (tkcells [t])[j]? = some x → w8.cell? ((⟨w7.heap.size, 0, none⟩ : Addr).add j) = some x := by rw [← hw8]; exact newsT w7 t
            have b68 : Below wr.heap.size wr w8 := hb6.trans ((b7.trans (b8.mono b7.size)).mono hs6)
            have HNW := Lib.hid hnews
            have HO8 := Lib.hid (HS.out.own.below b68)
            have HB8 := Lib.hid (HS.out.bel.trans (b68.mono (by omega)))
            have HN8 := Lib.hid ((b68.block _ (by omega)).trans HS.out.non)
            have hs8 := b68.size
            have hal : ts.length + 1 ≤ 4294967297 := by have := HS.out.al; omega
            clear b7 n7 b8 hnews b68 hb6
            unfold Tkv
            go_wp2_with (first | (at_builtin; refine wp_pushT rfl _ _ rfl (w.heap.size + 1) u5 ts rfl HO8.out (by omega) ⟨w7.heap.size, 0, none⟩ 1 1 [t] rfl rfl HNW.out hal ?_; intro v9 w9 own9 gr9; have HX9 := Lib.hid (And.intro own9 gr9); clear own9 gr9))
            have hs9 := HX9.out.2.size
            refine ⟨⟨k + k2, ts ++ [t], by congr 1, ⟨HX9.out.1, ?_, by rw [sl_length]; omega, by have := HS.out.al; simp; omega, ?_, ?_, by omega⟩⟩, by simp [intOf]; omega⟩
            · exact (HX9.out.2.block _ (by omega) (fun e => by have := (HO8.out.lt _ e.symm).1; omega)).trans HN8.out
            · rw [HS.out.eq, HLT.out, ← List.drop_drop]
              show preT ts (preT [t] _) = _
              rw [preT_preT]
            · exact HB8.out.grown HX9.out.2 (by omega) (fun g hg => by have := (HO8.out.lt g hg).1; omega)
      · have hki : decide ((k : Int) < (s.size : Int)) = false := by simp; omega
        have hX : P (.returned (.tuple #[u5, .int .i64 0])) wr := by
          rw [← HP.out, HS.out.eq, List.drop_eq_nil_of_le (by rw [sl_length]; omega), lexL_nil]
          refine ⟨HS.out.bel, u5, rfl, ?_⟩
          have := HS.out.own.le (B' := w.heap.size) (by omega)
          simpa using this
        have HX := Lib.hid hX
        clear hX
        go_wp2_with fail
        exact HX.out

end Go.Proofs.YtkffomfbnbcgaaaGreatDoor

namespace Go.Proofs.YtkffomfbnbcgaaaGreatDoor
set_option maxRecDepth 100000
open Go.RowKit Go.Joins Go.ChangeShapes Go.WideShapes
set_option linter.unusedVariables false
set_option linter.unusedSimpArgs false

def wrt2 (e : Nat) (ts : List Tk) : List Nat := ts.flatMap fun t => wordT t ++ [e]
theorem wrt2_snoc (e : Nat) (ts : List Tk) (t : Tk) : wrt2 e (ts ++ [t]) = wrt2 e ts ++ wordT t ++ [e] := by
  unfold wrt2
  rw [List.flatMap_append]
  simp
theorem wrt2_eq (e : Nat) : ∀ ts : List Tk, e :: wrt2 e ts = wrt e ts ++ [e]
  | [] => rfl
  | t :: ts => by
    have ih := wrt2_eq e ts
    show e :: (wordT t ++ [e] ++ wrt2 e ts) = e :: wordT t ++ wrt e ts ++ [e]
    rw [List.append_assoc, List.singleton_append, ih]
    simp
theorem wrt2_ok (e : Nat) (he : e < 256) (ts : List Tk) (h : ∀ t ∈ ts, TkR t) : (wrt2 e ts).length ≤ ts.length * 403 ∧ ∀ x ∈ wrt2 e ts, x < 256 := by
  obtain ⟨h1, h2⟩ := wrt_ok e he ts h
  have hq := wrt2_eq e ts
  have hl := congrArg List.length hq
  simp only [List.length_cons, List.length_append, List.length_nil] at hl
  refine ⟨by omega, fun x hx => ?_⟩
  have : x ∈ wrt e ts ++ [e] := by rw [← hq]; exact List.mem_cons_of_mem _ hx
  rcases List.mem_append.1 this with g | g
  · exact h2 x g
  · rw [List.mem_singleton.1 g]; exact he
theorem toks_wrt2 {e : Nat} (he : blL e = true) {l : List Nat} {ts : List Tk} (h : lexL l = .ok ts) (hl : (wrt2 e ts).length ≤ 4000) : toksE (wrt2 e ts) = .ok ts := by
  unfold toksE
  rw [if_neg (by omega), ← lexL_blank e _ he, wrt2_eq]
  have h1 := lexL_join he (wrt e ts) [] ts (lexL_words he ts (lexL_good l ts h))
  rw [h1, lexL_nil]
  simp

end Go.Proofs.YtkffomfbnbcgaaaGreatDoor

namespace Go.Proofs.YtkffomfbnbcgaaaGreatDoor
set_option maxRecDepth 100000
end Go.Proofs.YtkffomfbnbcgaaaGreatDoor
