/-
  Texts of mine put together, in build order.
  Conditions: as each declaration says.
-/
import Derived.Deep.QuietTactic
import Derived.Deep.DeepCutAuto
import Derived.Deep.WholeRow
import Derived.Great.Walk
import Derived.Great.BuildSlice
import Derived.Laws.Strings3
import Derived.Test.YtofnkfjhmjecjaaGreatDoorZp2
import Derived.Test.YtofnkfjhmjecjaaGreatDoorZp3
import Derived.Test.YtofnkfjhmjecjaaGreatDoorZp6
import Derived.Test.YtofnkfjhmjecjaaGreatDoorZp7
import Derived.Test.YtofnkfjhmjecjaaGreatDoorZp15
import Derived.Test.YtofnkfjhmjecjaaGreatDoorZp18
import Derived.Test.YtofnkfjhmjecjaaGreatDoorZp19
namespace Go.Proofs.YtofnkfjhmjecjaaGreatDoor
set_option maxRecDepth 100000
open Go.RowKit Go.Joins Go.ChangeShapes Go.WideShapes Go.Great
set_option linter.unusedVariables false
set_option linter.unusedSimpArgs false
def resV : Array Value := (resW.map fun l => Value.string ⟨l.toArray⟩).toArray
theorem res_cell {W1 : World} {g : Nat} (hn : W1.heap[g]? = some (.cells resV 180 (0, 0))) (k : Nat) (hk : k < 37) : W1.cell? ⟨g, k, none⟩ = some (.string ⟨(resW.getD k []).toArray⟩) := by
 rw [cell_of_block hn]
 unfold resV
 have hl : k < resW.length := hk
 rw [List.getElem?_toArray, List.getElem?_map, List.getElem?_eq_getElem hl, List.getD_eq_getElem?_getD, List.getElem?_eq_getElem hl]
 rfl
theorem res_eq (s : ByteArray) (l : List UInt8) : (l == s.toList) = (s.toList == l) := by
 rw [Bool.eq_iff_iff]
 simp only [beq_iff_eq]
 exact ⟨fun h => h.symm, fun h => h.symm⟩
theorem res_yes (s : ByteArray) (k : Nat) (hk : k < 37) (h : (s.toList == resW.getD k []) = true) : resB s = true := by
 unfold resB
 refine List.any_eq_true.2 ⟨resW.getD k [], ?_, h⟩
 have hl : k < resW.length := hk
 rw [List.getD_eq_getElem?_getD, List.getElem?_eq_getElem hl]
 exact List.getElem_mem hl
theorem res_no (s : ByteArray) (h : ∀ j, j < 37 → (s.toList == resW.getD j []) = false) : resB s = false := by
 unfold resB
 refine List.any_eq_false.2 fun x hx => ?_
 obtain ⟨i, hi⟩ := List.getElem?_of_mem hx
 have hl : i < resW.length := (List.getElem?_eq_some_iff.1 hi).1
 have := h i hl
 rw [List.getD_eq_getElem?_getD, hi] at this
 simpa using this
set_option maxHeartbeats 1000000 in
theorem rres_any (s : ByteArray) (w : World) : Calls Tryz.prog 124 #[.string s] w fun e w' => e = .returned (.bool (resB s)) ∧ Below w.heap.size w w' := by
 go_enter Tryz.func124, Tryz.ntmps124
 go_upto_region 1 with fail
 refine wp_region_lit ?_
 refine wpList_buildTo rfl 180 _ rfl (some 5) rfl resV (by kernel_rfl) ?_
 refine wpList_allocTo rfl (some 3) rfl (.pointer (some ⟨w.heap.size, 0, none⟩)) (.cells (List.replicate 37 (Value.string ByteArray.empty)).toArray 180) (by kernel_rfl) ?_
 refine wpList_store_rowOf rfl 180 (.tmp 3) (.tmp 5) rfl w.heap.size rfl rfl 180 (List.replicate 37 (Value.string ByteArray.empty)).toArray (heap_alloc_new w _) (by kernel_rfl) (by kernel_rfl) (by kernel_rfl) ?_
 rw [show ∀ (x : Array Value), (w.alloc (.cells (List.replicate 37 (Value.string ByteArray.empty)).toArray 180)).setRow w.heap.size x = w.alloc (.cells x 180) from fun x => World.setRow_alloc_new w _ x _]
 refine wpList_frame (a' := ⟨#[.string s, undef, .bool false, .pointer (some ⟨w.heap.size, 0, none⟩), undef, .agg resV, undef, undef, undef, undef, undef, undef, undef, undef, undef], []⟩) (by kernel_rfl) ?_
 refine wpList_nil ?_
 show _
 generalize hW : w.alloc (.cells _ 180) = W1
 have hn := heap_alloc_new w (.cells resV 180)
 have hb := (Below.refl w.heap.size w).alloc (Nat.le_refl _) (.cells resV 180)
 change w.alloc (.cells resV 180) = W1 at hW
 rw [hW] at hn hb
 have HN := Lib.hid hn
 have HB := Lib.hid hb
 clear hW hn hb
 go_wp2_with fail
 go_loopw [4] (fun i wr => ∃ k : Nat, k ≤ 37 ∧ i = .int .i64 (k : Int) ∧ Hid (∀ j, j < k → (s.toList == resW.getD j []) = false) ∧ W1 = wr) (fun i _ => 37 - (intOf i).toNat)
 case atStart => exact ⟨0, by omega, rfl, Lib.hid (fun j h => absurd h (by omega)), by trivial⟩
 case round =>
  obtain ⟨k, hk, rfl, HJ, rfl⟩ := hrel
  by_cases hkn : k < 37
  ·have hk2 : (k : Int) < 37 := by omega
   have hc := res_cell HN.out k hkn
   have he := res_eq s (resW.getD k [])
   have hyes := res_yes s k hkn
   obtain ⟨l, hl⟩ : ∃ l, resW.getD k [] = l := ⟨_, rfl⟩
   rw [hl] at hc he hyes
   have HY := Lib.hid (And.intro hyes hl)
   clear hyes hl
   have w5' : IntKind.i64.wrap ((k : Int) + 1) = (k : Int) + 1 := by rw [IntKind.wrap_i64]; omega
   obtain ⟨b, hb⟩ : ∃ b, (s.toList == l) = b := ⟨_, rfl⟩
   rw [hb] at he
   have HB2 := Lib.hid hb
   clear hb
   cases b with
   | true =>
    go_wp2_with fail
    go_ret
    exact ⟨by rw [HY.out.1 HB2.out]; rfl, HB.out⟩
   | false =>
    go_wp2_with fail
    refine ⟨⟨k + 1, by omega, by congr 1, Lib.hid (fun j hj => ?_), by trivial⟩, by simp [intOf]; omega⟩
    by_cases hjk : j < k
    ·exact HJ.out j hjk
    ·obtain rfl : j = k := by omega
     rw [HY.out.2]
     exact HB2.out
  ·obtain rfl : k = 37 := by omega
   have hno := res_no s HJ.out
   have HNO := Lib.hid hno
   clear hno
   go_wp2_with fail
   go_ret
   exact ⟨by rw [HNO.out]; rfl, HB.out⟩
end Go.Proofs.YtofnkfjhmjecjaaGreatDoor

namespace Go.Proofs.YtofnkfjhmjecjaaGreatDoor
set_option maxRecDepth 100000
open Go.RowKit Go.Joins Go.ChangeShapes Go.WideShapes
set_option linter.unusedVariables false
set_option linter.unusedSimpArgs false
end Go.Proofs.YtofnkfjhmjecjaaGreatDoor

namespace Go.Proofs.YtofnkfjhmjecjaaGreatDoor
set_option maxRecDepth 100000
open Go.RowKit Go.Joins Go.ChangeShapes Go.WideShapes
set_option linter.unusedVariables false
set_option linter.unusedSimpArgs false
theorem RTok.open {x : Except Nat (Tk × Nat)} {i : Nat} {w w1 w2 : World} {e : Ending} (h : RTok x i w1 e w2) (hb : Below w.heap.size w w1) (hs : w.heap.size ≤ w1.heap.size) :
  ∃ k s n sc j er, e = .returned (.tuple #[Tkv k s n sc, .int .i64 j, .int .i64 er]) ∧ Below w1.heap.size w1 w2 ∧
   RTok x i w (.returned (.tuple #[Tkv k s n sc, .int .i64 j, .int .i64 er])) ((((w2.setCell ⟨w.heap.size, 0, none⟩ (.int .i64 k)).setCell ⟨w.heap.size, 1, none⟩ (.string s)).setCell ⟨w.heap.size, 2, none⟩ (.int .i64 n)).setCell ⟨w.heap.size, 3, none⟩ (.int .i64 sc)) := by
 obtain ⟨b, h⟩ := h
 have b2 := hb.trans (b.mono hs)
 cases x with
 | error er =>
  obtain ⟨j, rfl⟩ := h
  exact ⟨_, _, _, _, _, _, rfl, b, box4_below b2 (Nat.le_refl _) _ _ _ _, j, rfl⟩
 | ok y =>
  obtain ⟨t, k⟩ := y
  have h : e = _ := h
  subst h
  exact ⟨_, _, _, _, _, _, rfl, b, box4_below b2 (Nat.le_refl _) _ _ _ _, rfl⟩
theorem rtok_txt {r : List Nat} {i : Nat} {w : World} {e : Ending} {w' : World} (h : RTok (txtR r) (i + 1) w e w') : RTok (txtE r) i w e w' := by
 unfold txtR at h
 unfold txtE
 cases ht : textL r with
 | none => rw [ht] at h; exact h
 | some x =>
  rw [ht] at h
  simp only at h ⊢
  by_cases c : x.1.length > 200
  ·rw [if_pos c] at h ⊢; exact h
  ·rw [if_neg c] at h ⊢
   obtain ⟨h1, h2⟩ := h
   refine ⟨h1, ?_⟩
   have h2 : e = .returned (.tuple #[Tkv 4 (strB x.1) 0 0, .int .i64 ((i + 1 + x.2 : Nat) : Int), .int .i64 0]) := h2
   rw [h2, show i + 1 + x.2 = i + (x.2 + 1) by omega]
   rfl
set_option maxHeartbeats 4000000 in
theorem rnum_any (s : ByteArray) (i0 : Nat) (w : World) (hi : i0 < s.size) (hs : s.size ≤ 4294967296) (hb : bwL ((sl s).getD i0 0) = false) (hd : dgL ((sl s).getD i0 0) = true) :
  Calls Tryz.prog 47 #[.string s, .int .i64 (i0 : Int)] w (RTok (numE ((sl s).drop i0)) i0 w) := by
 have b1 : Below w.heap.size w (w.alloc (.cells #[.int .i64 0, .string ⟨#[]⟩, .int .i64 0, .int .i64 0] 84)) := (Below.refl _ _).alloc (Nat.le_refl _) _
 have hnew : TBox (w.alloc (.cells #[.int .i64 0, .string ⟨#[]⟩, .int .i64 0, .int .i64 0] 84)) w.heap.size 0 0 0 ⟨#[]⟩ := heap_alloc_new w (.cells #[.int .i64 0, .string ⟨#[]⟩, .int .i64 0, .int .i64 0] 84)
 have hsz : w.heap.size ≤ (w.alloc (.cells #[.int .i64 0, .string ⟨#[]⟩, .int .i64 0, .int .i64 0] 84)).heap.size := by simp
 have hc0 := (slx_get s i0 hi).symm
 have hc8 := slx_lt s i0
 have HC := Lib.hid (rnumber_any s i0 (w.alloc (.cells #[.int .i64 0, .string ⟨#[]⟩, .int .i64 0, .int .i64 0] 84)) hi hs hd)
 have HL0 := Lib.hid (rletter_any ((sl s).getD i0 0) (w.alloc (.cells #[.int .i64 0, .string ⟨#[]⟩, .int .i64 0, .int .i64 0] 84)) hc8)
 have HD0 := Lib.hid (rdigit_any ((sl s).getD i0 0) (w.alloc (.cells #[.int .i64 0, .string ⟨#[]⟩, .int .i64 0, .int .i64 0] 84)) hc8)
 rw [ltL_eq, hb] at HL0
 rw [hd] at HD0
 generalize (sl s).getD i0 0 = c0 at *
 have HB := Lib.hid (And.intro b1 (And.intro hnew hsz))
 generalize numE ((sl s).drop i0) = X at *
 generalize hP : RTok X i0 w = P
 have HP := Lib.hid hP
 clear hP b1 hnew hsz hb hd
 go_enter Tryz.func47, Tryz.ntmps47
 go_wp2_with (first | (go_at_call 117; refine HL0.out.mono ?_; rintro e w' ⟨rfl, rfl⟩) | (go_at_call 119; refine HD0.out.mono ?_; rintro e w' ⟨rfl, rfl⟩))
 try go_at_call 121
 refine HC.out.mono ?_
 rintro e w2 ht
 obtain ⟨k, st, n, sc, j, er, rfl, b2, hx⟩ := ht.open HB.out.1 HB.out.2.2
 rw [HP.out] at hx
 have HX := Lib.hid hx
 have hbx := HB.out.2.1.below b2
 obtain ⟨⟨e0, e1, e2, e3⟩, f0, f1, f4, f3⟩ := hbx.cells
 have HBX := Lib.hid hbx
 clear hx ht b2 hbx
 unfold Tkv at *
 go_wp2_with fail
 exact rtok_ret Tryz.results47 (box_four HBX.out _ _ _ _) rfl rfl rfl rfl HX.out
set_option maxHeartbeats 4000000 in
theorem rtxt_any (s : ByteArray) (i0 : Nat) (w : World) (hi : i0 < s.size) (hs : s.size ≤ 4294967296) (h39 : (sl s).getD i0 0 = 39) :
  Calls Tryz.prog 47 #[.string s, .int .i64 (i0 : Int)] w (RTok (txtE ((sl s).drop (i0 + 1))) i0 w) := by
 have b1 : Below w.heap.size w (w.alloc (.cells #[.int .i64 0, .string ⟨#[]⟩, .int .i64 0, .int .i64 0] 84)) := (Below.refl _ _).alloc (Nat.le_refl _) _
 have hnew : TBox (w.alloc (.cells #[.int .i64 0, .string ⟨#[]⟩, .int .i64 0, .int .i64 0] 84)) w.heap.size 0 0 0 ⟨#[]⟩ := heap_alloc_new w (.cells #[.int .i64 0, .string ⟨#[]⟩, .int .i64 0, .int .i64 0] 84)
 have hsz : w.heap.size ≤ (w.alloc (.cells #[.int .i64 0, .string ⟨#[]⟩, .int .i64 0, .int .i64 0] 84)).heap.size := by simp
 have hc0 : (s[i0]'hi).toNat = 39 := by rw [← slx_get s i0 hi]; exact h39
 have HC := Lib.hid (rtext_any s (i0 + 1) (w.alloc (.cells #[.int .i64 0, .string ⟨#[]⟩, .int .i64 0, .int .i64 0] 84)) (by omega) hs)
 have HL0 := Lib.hid (rletter_any 39 (w.alloc (.cells #[.int .i64 0, .string ⟨#[]⟩, .int .i64 0, .int .i64 0] 84)) (by decide))
 have HD0 := Lib.hid (rdigit_any 39 (w.alloc (.cells #[.int .i64 0, .string ⟨#[]⟩, .int .i64 0, .int .i64 0] 84)) (by decide))
 have HB := Lib.hid (And.intro b1 (And.intro hnew hsz))
 have w7' : IntKind.i64.wrap ((i0 : Int) + 1) = (i0 : Int) + 1 := by rw [IntKind.wrap_i64]; omega
 generalize (sl s).drop (i0 + 1) = L at *
 generalize hP : RTok (txtE L) i0 w = P
 have HP := Lib.hid hP
 clear hP b1 hnew hsz h39
 go_enter Tryz.func47, Tryz.ntmps47
 go_wp2_with (first | (go_at_call 117; refine HL0.out.mono ?_; rintro e w' ⟨rfl, rfl⟩) | (go_at_call 119; refine HD0.out.mono ?_; rintro e w' ⟨rfl, rfl⟩))
 try go_at_call 122
 refine HC.out.mono ?_
 rintro e w2 ht
 obtain ⟨k, st, n, sc, j, er, rfl, b2, hx⟩ := ht.open HB.out.1 HB.out.2.2
 have hx := rtok_txt hx
 rw [HP.out] at hx
 have HX := Lib.hid hx
 have hbx := HB.out.2.1.below b2
 obtain ⟨⟨e0, e1, e2, e3⟩, f0, f1, f4, f3⟩ := hbx.cells
 have HBX := Lib.hid hbx
 clear hx ht b2 hbx
 unfold Tkv at *
 go_wp2_with fail
 exact rtok_ret Tryz.results47 (box_four HBX.out _ _ _ _) rfl rfl rfl rfl HX.out
def sgnC : List Nat := [40, 41, 44, 46, 42, 43, 45, 47, 37, 61, 60, 62]
theorem sgn_yes : ∀ k, k < 12 → [40, 41, 44, 46, 42, 43, 45, 47, 37, 61, 60, 62].contains (sgnC.getD k 0) = true := by decide
theorem sgn_no (c : Nat) (h : ∀ j, j < 12 → sgnC.getD j 0 ≠ c) : [40, 41, 44, 46, 42, 43, 45, 47, 37, 61, 60, 62].contains c = false := by
 cases hc : [40, 41, 44, 46, 42, 43, 45, 47, 37, 61, 60, 62].contains c with
 | false => rfl
 | true =>
  have hm : c ∈ sgnC := List.contains_iff_mem.1 hc
  obtain ⟨i, hi⟩ := List.getElem?_of_mem hm
  have hlt : i < sgnC.length := (List.getElem?_eq_some_iff.1 hi).1
  exact absurd (by rw [List.getD_eq_getElem?_getD, hi]; rfl) (h i hlt)
theorem ext_strB (s : ByteArray) (i n : Nat) (h : i + n ≤ s.size) : s.extract i (i + n) = strB (((sl s).drop i).take n) := by
 have h1 : (s.extract i (i + n)).data.toList = (strB (((sl s).drop i).take n)).data.toList := by
  rw [strB_data]
  unfold sl
  rw [ByteArray.data_extract, Array.toList_extract, List.extract_eq_take_drop, ← List.map_drop, ← List.map_take, List.map_map]
  rw [show i + n - i = n by omega]
  conv => lhs; rw [← List.map_id (List.take n (List.drop i s.data.toList))]
  exact List.map_congr_left fun x _ => by simp
 have h2 := Array.toList_inj.1 h1
 cases hs : strB (((sl s).drop i).take n) with
 | mk d =>
  rw [hs] at h2
  cases hx : s.extract i (i + n) with
  | mk e => rw [hx] at h2; simp at h2; rw [h2]
theorem slice_str (s : ByteArray) (i n : Nat) (h : i + n ≤ s.size) (hi lo : Int) (hl : lo = (i : Int)) (hh : hi = (i : Int) + (n : Int)) (w : World) :
  (Instr.slice 9 (.string s) (some (.int .i64 lo)) (some (.int .i64 hi)) none).run Tryz.prog w = .ok (.string (strB (((sl s).drop i).take n))) w := by
 subst hl hh
 rw [run_slice_string (P := Tryz.prog) (w := w) 9 s .i64 .i64 _ _ Tryz.underlying9 (by omega) (by omega) (by omega), ← ext_strB s i n h]
 congr 3
theorem sgn_at : ∀ k, (h : k < 12) → ((⟨#[40, 41, 44, 46, 42, 43, 45, 47, 37, 61, 60, 62]⟩ : ByteArray)[k]'h).toNat = sgnC.getD k 0 := by decide
set_option maxHeartbeats 4000000 in
theorem rsgn_any (s : ByteArray) (i0 : Nat) (w : World) (hi : i0 < s.size) (hs : s.size ≤ 4294967296) (hb : bwL ((sl s).getD i0 0) = false) (hd : dgL ((sl s).getD i0 0) = false) (h39 : ¬ (sl s).getD i0 0 = 39) :
    Calls Tryz.prog 47 #[.string s, .int .i64 (i0 : Int)] w (RTok (sgnE ((sl s).drop i0)) i0 w) := by
  have b1 : Below w.heap.size w (w.alloc (.cells #[.int .i64 0, .string ⟨#[]⟩, .int .i64 0, .int .i64 0] 84)) := (Below.refl _ _).alloc (Nat.le_refl _) _
  have hnew : TBox (w.alloc (.cells #[.int .i64 0, .string ⟨#[]⟩, .int .i64 0, .int .i64 0] 84)) w.heap.size 0 0 0 ⟨#[]⟩ := heap_alloc_new w (.cells #[.int .i64 0, .string ⟨#[]⟩, .int .i64 0, .int .i64 0] 84)
  have hc0 := (slx_get s i0 hi).symm
  have hc8 := slx_lt s i0
  have HL0 := Lib.hid (rletter_any ((sl s).getD i0 0) (w.alloc (.cells #[.int .i64 0, .string ⟨#[]⟩, .int .i64 0, .int .i64 0] 84)) hc8)
  have HD0 := Lib.hid (rdigit_any ((sl s).getD i0 0) (w.alloc (.cells #[.int .i64 0, .string ⟨#[]⟩, .int .i64 0, .int .i64 0] 84)) hc8)
  have HA0 := Lib.hid (rat_any s (i0 + 1) (w.alloc (.cells #[.int .i64 0, .string ⟨#[]⟩, .int .i64 0, .int .i64 0] 84)))
  rw [ltL_eq, hb] at HL0
  rw [hd] at HD0
  have HDR := Lib.hid (drop_getD (sl s) i0 (by rw [sl_length]; exact hi))
  have HDR1 := Lib.hid (drop_getD (sl s) (i0 + 1))
  have HDO := Lib.hid (getD_out (sl s) (i0 + 1))
  have hd8 := slx_lt s (i0 + 1)
  obtain ⟨⟨e0, e1, e2, e3⟩, f0, f1, f4, f3⟩ := hnew.cells
  have HB := Lib.hid (And.intro b1 hnew)
  generalize hc : (sl s).getD i0 0 = c at *
  generalize hdd : (sl s).getD (i0 + 1) 0 = d at *
  have w7' : IntKind.i64.wrap ((i0 : Int) + 1) = (i0 : Int) + 1 := by rw [IntKind.wrap_i64]; omega
  have w8' : IntKind.i64.wrap ((i0 : Int) + 2) = (i0 : Int) + 2 := by rw [IntKind.wrap_i64]; omega
  generalize hP : RTok (sgnE ((sl s).drop i0)) i0 w = P
  have HP := Lib.hid hP
  have q39 : ((c : Int) == 39) = false := beq_eq_false_iff_ne.2 (by omega)
  clear hP b1 hnew hb hd hc hdd h39
  have h8 : (c = 60 ∧ d = 62 ∨ c = 60 ∧ d = 61 ∨ c = 62 ∧ d = 61 ∨ c = 124 ∧ d = 124) ∨ ¬ (c = 60 ∧ d = 62 ∨ c = 60 ∧ d = 61 ∨ c = 62 ∧ d = 61 ∨ c = 124 ∧ d = 124) := Classical.em _
  go_enter Tryz.func47, Tryz.ntmps47
  go_wp2_with (first | (go_at_call 117; refine HL0.out.mono ?_; rintro e w' ⟨rfl, rfl⟩) | (go_at_call 119; refine HD0.out.mono ?_; rintro e w' ⟨rfl, rfl⟩))
  try go_at_call 118
  refine HA0.out.mono ?_
  rintro e w' ⟨rfl, rfl⟩
  generalize w.alloc (.cells #[.int .i64 0, .string ⟨#[]⟩, .int .i64 0, .int .i64 0] 84) = w1 at *
  clear HL0 HD0 HA0
  have bB := HB.out.2
  have HZ := Lib.hid (box4_below (B := w.heap.size) HB.out.1 (Nat.le_refl _))
  rcases h8 with h8 | h8
  · have hlt : i0 + 1 < (sl s).length := by
      refine Nat.lt_of_not_le fun hle => ?_
      have := HDO.out (by omega)
      omega
    have hdr : (sl s).drop i0 = c :: d :: (sl s).drop (i0 + 2) := by rw [HDR.out, HDR1.out hlt]
    have h2 : i0 + 2 ≤ s.size := by rw [sl_length] at hlt; omega
    have hsl := slice_str s i0 2 h2 ((i0 : Int) + 2) i0 rfl rfl w1
    have hsg : signL ((sl s).drop i0) = 2 := by
      rw [hdr]
      rcases h8 with ⟨rfl, rfl⟩ | ⟨rfl, rfl⟩ | ⟨rfl, rfl⟩ | ⟨rfl, rfl⟩ <;> rfl
    have hP1 := HP.out
    unfold sgnE at hP1
    rw [hsg, if_neg (by decide)] at hP1
    obtain ⟨S, hS⟩ : ∃ S, strB (((sl s).drop i0).take 2) = S := ⟨_, rfl⟩
    rw [hS] at hsl
    have HX : Hid (P (.returned (.tuple #[Tkv 5 S 0 0, .int .i64 ((i0 : Int) + 2), .int .i64 0])) ((((w1.setCell ⟨w.heap.size, 0, none⟩ (.int .i64 5)).setCell ⟨w.heap.size, 1, none⟩ (.string S)).setCell ⟨w.heap.size, 2, none⟩ (.int .i64 0)).setCell ⟨w.heap.size, 3, none⟩ (.int .i64 0))) := Lib.hid (by
      rw [← hP1, ← hS]
      exact ⟨HZ.out _ _ _ _, by congr 1⟩)
    clear hP1 hS hsg hdr
    rcases h8 with ⟨rfl, rfl⟩ | ⟨rfl, rfl⟩ | ⟨rfl, rfl⟩ | ⟨rfl, rfl⟩
    all_goals
      go_wp2_with fail
      exact rtok_ret Tryz.results47 (box_four bB _ _ _ _) rfl rfl rfl rfl HX.out
  · have hsg : signL ((sl s).drop i0) = if [40, 41, 44, 46, 42, 43, 45, 47, 37, 61, 60, 62].contains c then 1 else 0 := by
      rw [HDR.out]
      by_cases hlt : i0 + 1 < (sl s).length
      · rw [HDR1.out hlt]
        show (if ((c == 60 && d == 62) || (c == 60 && d == 61) || (c == 62 && d == 61) || (c == 124 && d == 124)) = true then 2 else _) = _
        rw [if_neg]
        simp only [Bool.or_eq_true, Bool.and_eq_true, beq_iff_eq]
        omega
      · rw [List.drop_eq_nil_of_le (by omega)]
        rfl
    have hsl := slice_str s i0 1 (by omega) ((i0 : Int) + 1) i0 rfl rfl w1
    have hP1 := HP.out
    unfold sgnE at hP1
    rw [hsg] at hP1
    obtain ⟨S, hS⟩ : ∃ S, strB (((sl s).drop i0).take 1) = S := ⟨_, rfl⟩
    rw [hS] at hsl
    have HX1 : Hid ([40, 41, 44, 46, 42, 43, 45, 47, 37, 61, 60, 62].contains c = true → P (.returned (.tuple #[Tkv 5 S 0 0, .int .i64 ((i0 : Int) + 1), .int .i64 0])) ((((w1.setCell ⟨w.heap.size, 0, none⟩ (.int .i64 5)).setCell ⟨w.heap.size, 1, none⟩ (.string S)).setCell ⟨w.heap.size, 2, none⟩ (.int .i64 0)).setCell ⟨w.heap.size, 3, none⟩ (.int .i64 0))) := Lib.hid (by
      intro h
      rw [h, if_pos rfl, if_neg (by decide)] at hP1
      rw [← hP1, ← hS]
      exact ⟨HZ.out _ _ _ _, by congr 1⟩)
    have HX0 : Hid ([40, 41, 44, 46, 42, 43, 45, 47, 37, 61, 60, 62].contains c = false → ∀ q : Int, P (.returned (.tuple #[Tkv 0 ⟨#[]⟩ 0 0, .int .i64 q, .int .i64 120])) ((((w1.setCell ⟨w.heap.size, 0, none⟩ (.int .i64 0)).setCell ⟨w.heap.size, 1, none⟩ (.string ⟨#[]⟩)).setCell ⟨w.heap.size, 2, none⟩ (.int .i64 0)).setCell ⟨w.heap.size, 3, none⟩ (.int .i64 0))) := Lib.hid (by
      intro h q
      rw [h, if_pos (by decide)] at hP1
      rw [← hP1]
      exact ⟨HZ.out _ _ _ _, q, rfl⟩)
    clear hP1 hS hsg
    have hj : (c = 60 ∧ ((d : Int) == 62) = false ∧ ((d : Int) == 61) = false) ∨ (c = 62 ∧ ((d : Int) == 61) = false) ∨ (c = 124 ∧ ((d : Int) == 124) = false) ∨ (((c : Int) == 60) = false ∧ ((c : Int) == 62) = false ∧ ((c : Int) == 124) = false) := by
      by_cases a : c = 60
      · exact .inl ⟨a, beq_eq_false_iff_ne.2 (by omega), beq_eq_false_iff_ne.2 (by omega)⟩
      · by_cases b : c = 62
        · exact .inr (.inl ⟨b, beq_eq_false_iff_ne.2 (by omega)⟩)
        · by_cases e : c = 124
          · exact .inr (.inr (.inl ⟨e, beq_eq_false_iff_ne.2 (by omega)⟩))
          · exact .inr (.inr (.inr ⟨beq_eq_false_iff_ne.2 (by omega), beq_eq_false_iff_ne.2 (by omega), beq_eq_false_iff_ne.2 (by omega)⟩))
    clear h8 HDR HDR1 HDO
    rcases hj with ⟨rfl, j1, j2⟩ | ⟨rfl, j1⟩ | ⟨rfl, j1⟩ | ⟨j1, j2, j3⟩
    · go_wp2_with fail
      go_loopw [11] (fun i wr => ∃ k : Nat, k ≤ 12 ∧ i = .int .i64 (k : Int) ∧ Hid (∀ j, j < k → sgnC.getD j 0 ≠ 60) ∧ w1 = wr) (fun i _ => 12 - (intOf i).toNat)
      case atStart => exact ⟨0, by omega, rfl, Lib.hid (fun j h => absurd h (by omega)), by trivial⟩
      case round =>
        obtain ⟨k, hk, rfl, HJ, rfl⟩ := hrel
        by_cases hk12 : k < 12
        · have hsx := sgn_at k hk12
          have hk2 : (k : Int) < 12 := by omega
          have hy := sgn_yes k hk12
          generalize hx : sgnC.getD k 0 = x at *
          have HY := Lib.hid (And.intro hy hx)
          clear hy hx
          have w5' : IntKind.i64.wrap ((k : Int) + 1) = (k : Int) + 1 := by rw [IntKind.wrap_i64]; omega
          by_cases hxc : x = 60
          · have he : ((x : Int) == (60 : Int)) = true := by rw [hxc]; exact beq_self_eq_true _
            go_wp2_with fail
            all_goals first
              | (exfalso; omega)
              | exact rtok_ret Tryz.results47 (box_four bB _ _ _ _) rfl rfl rfl rfl (HX1.out (by have := HY.out.1; rw [hxc] at this; exact this))
          · have he : ((x : Int) == (60 : Int)) = false := beq_eq_false_iff_ne.2 (by omega)
            go_wp2_with fail
            all_goals first
              | (exfalso; omega)
              | (refine ⟨⟨k + 1, by omega, by congr 1, Lib.hid (fun j h => ?_), by trivial⟩, by simp [intOf]; omega⟩
                 by_cases hjk : j < k
                 · exact HJ.out j hjk
                 · obtain rfl : j = k := by omega
                   rw [HY.out.2]
                   exact hxc)
        · obtain rfl : k = 12 := by omega
          have hno := sgn_no 60 HJ.out
          have HXX := Lib.hid (HX0.out hno)
          clear hno
          go_wp2_with fail
          exact rtok_ret Tryz.results47 (box_four bB _ _ _ _) rfl rfl rfl rfl (HXX.out _)
    · go_wp2_with fail
      go_loopw [11] (fun i wr => ∃ k : Nat, k ≤ 12 ∧ i = .int .i64 (k : Int) ∧ Hid (∀ j, j < k → sgnC.getD j 0 ≠ 62) ∧ w1 = wr) (fun i _ => 12 - (intOf i).toNat)
      case atStart => exact ⟨0, by omega, rfl, Lib.hid (fun j h => absurd h (by omega)), by trivial⟩
      case round =>
        obtain ⟨k, hk, rfl, HJ, rfl⟩ := hrel
        by_cases hk12 : k < 12
        · have hsx := sgn_at k hk12
          have hk2 : (k : Int) < 12 := by omega
          have hy := sgn_yes k hk12
          generalize hx : sgnC.getD k 0 = x at *
          have HY := Lib.hid (And.intro hy hx)
          clear hy hx
          have w5' : IntKind.i64.wrap ((k : Int) + 1) = (k : Int) + 1 := by rw [IntKind.wrap_i64]; omega
          by_cases hxc : x = 62
          · have he : ((x : Int) == (62 : Int)) = true := by rw [hxc]; exact beq_self_eq_true _
            go_wp2_with fail
            all_goals first
              | (exfalso; omega)
              | exact rtok_ret Tryz.results47 (box_four bB _ _ _ _) rfl rfl rfl rfl (HX1.out (by have := HY.out.1; rw [hxc] at this; exact this))
          · have he : ((x : Int) == (62 : Int)) = false := beq_eq_false_iff_ne.2 (by omega)
            go_wp2_with fail
            all_goals first
              | (exfalso; omega)
              | (refine ⟨⟨k + 1, by omega, by congr 1, Lib.hid (fun j h => ?_), by trivial⟩, by simp [intOf]; omega⟩
                 by_cases hjk : j < k
                 · exact HJ.out j hjk
                 · obtain rfl : j = k := by omega
                   rw [HY.out.2]
                   exact hxc)
        · obtain rfl : k = 12 := by omega
          have hno := sgn_no 62 HJ.out
          have HXX := Lib.hid (HX0.out hno)
          clear hno
          go_wp2_with fail
          exact rtok_ret Tryz.results47 (box_four bB _ _ _ _) rfl rfl rfl rfl (HXX.out _)
    · go_wp2_with fail
      go_loopw [11] (fun i wr => ∃ k : Nat, k ≤ 12 ∧ i = .int .i64 (k : Int) ∧ Hid (∀ j, j < k → sgnC.getD j 0 ≠ 124) ∧ w1 = wr) (fun i _ => 12 - (intOf i).toNat)
      case atStart => exact ⟨0, by omega, rfl, Lib.hid (fun j h => absurd h (by omega)), by trivial⟩
      case round =>
        obtain ⟨k, hk, rfl, HJ, rfl⟩ := hrel
        by_cases hk12 : k < 12
        · have hsx := sgn_at k hk12
          have hk2 : (k : Int) < 12 := by omega
          have hy := sgn_yes k hk12
          generalize hx : sgnC.getD k 0 = x at *
          have HY := Lib.hid (And.intro hy hx)
          clear hy hx
          have w5' : IntKind.i64.wrap ((k : Int) + 1) = (k : Int) + 1 := by rw [IntKind.wrap_i64]; omega
          by_cases hxc : x = 124
          · have he : ((x : Int) == (124 : Int)) = true := by rw [hxc]; exact beq_self_eq_true _
            go_wp2_with fail
            all_goals first
              | (exfalso; omega)
              | exact rtok_ret Tryz.results47 (box_four bB _ _ _ _) rfl rfl rfl rfl (HX1.out (by have := HY.out.1; rw [hxc] at this; exact this))
          · have he : ((x : Int) == (124 : Int)) = false := beq_eq_false_iff_ne.2 (by omega)
            go_wp2_with fail
            all_goals first
              | (exfalso; omega)
              | (refine ⟨⟨k + 1, by omega, by congr 1, Lib.hid (fun j h => ?_), by trivial⟩, by simp [intOf]; omega⟩
                 by_cases hjk : j < k
                 · exact HJ.out j hjk
                 · obtain rfl : j = k := by omega
                   rw [HY.out.2]
                   exact hxc)
        · obtain rfl : k = 12 := by omega
          have hno := sgn_no 124 HJ.out
          have HXX := Lib.hid (HX0.out hno)
          clear hno
          go_wp2_with fail
          exact rtok_ret Tryz.results47 (box_four bB _ _ _ _) rfl rfl rfl rfl (HXX.out _)
    · go_wp2_with fail
      go_loopw [11] (fun i wr => ∃ k : Nat, k ≤ 12 ∧ i = .int .i64 (k : Int) ∧ Hid (∀ j, j < k → sgnC.getD j 0 ≠ c) ∧ w1 = wr) (fun i _ => 12 - (intOf i).toNat)
      case atStart => exact ⟨0, by omega, rfl, Lib.hid (fun j h => absurd h (by omega)), by trivial⟩
      case round =>
        obtain ⟨k, hk, rfl, HJ, rfl⟩ := hrel
        by_cases hk12 : k < 12
        · have hsx := sgn_at k hk12
          have hk2 : (k : Int) < 12 := by omega
          have hy := sgn_yes k hk12
          generalize hx : sgnC.getD k 0 = x at *
          have HY := Lib.hid (And.intro hy hx)
          clear hy hx
          have w5' : IntKind.i64.wrap ((k : Int) + 1) = (k : Int) + 1 := by rw [IntKind.wrap_i64]; omega
          by_cases hxc : x = c
          · have he : ((x : Int) == (c : Int)) = true := by rw [hxc]; exact beq_self_eq_true _
            go_wp2_with fail
            all_goals first
              | (exfalso; omega)
              | exact rtok_ret Tryz.results47 (box_four bB _ _ _ _) rfl rfl rfl rfl (HX1.out (by have := HY.out.1; rw [hxc] at this; exact this))
          · have he : ((x : Int) == (c : Int)) = false := beq_eq_false_iff_ne.2 (by omega)
            go_wp2_with fail
            all_goals first
              | (exfalso; omega)
              | (refine ⟨⟨k + 1, by omega, by congr 1, Lib.hid (fun j h => ?_), by trivial⟩, by simp [intOf]; omega⟩
                 by_cases hjk : j < k
                 · exact HJ.out j hjk
                 · obtain rfl : j = k := by omega
                   rw [HY.out.2]
                   exact hxc)
        · obtain rfl : k = 12 := by omega
          have hno := sgn_no c HJ.out
          have HXX := Lib.hid (HX0.out hno)
          clear hno
          go_wp2_with fail
          exact rtok_ret Tryz.results47 (box_four bB _ _ _ _) rfl rfl rfl rfl (HXX.out _)
end Go.Proofs.YtofnkfjhmjecjaaGreatDoor

namespace Go.Proofs.YtofnkfjhmjecjaaGreatDoor
set_option maxRecDepth 100000
open Go.RowKit Go.Joins Go.ChangeShapes Go.WideShapes
set_option linter.unusedVariables false
set_option linter.unusedSimpArgs false
end Go.Proofs.YtofnkfjhmjecjaaGreatDoor

namespace Go.Proofs.YtofnkfjhmjecjaaGreatDoor
set_option maxRecDepth 100000
open Go.RowKit Go.Joins Go.ChangeShapes Go.WideShapes
set_option linter.unusedVariables false
set_option linter.unusedSimpArgs false
end Go.Proofs.YtofnkfjhmjecjaaGreatDoor

namespace Go.Proofs.YtofnkfjhmjecjaaGreatDoor
set_option maxRecDepth 100000
open Go.RowKit Go.Joins Go.ChangeShapes Go.WideShapes
set_option linter.unusedVariables false
set_option linter.unusedSimpArgs false
theorem rone_any (s : ByteArray) (i0 : Nat) (w : World) (hi : i0 < s.size) (hs : s.size ≤ 4294967296) :
  Calls Tryz.prog 47 #[.string s, .int .i64 (i0 : Int)] w (RTok (tokL ((sl s).drop i0)) i0 w) := by
 have hdr := drop_getD (sl s) i0 (by rw [sl_length]; exact hi)
 cases hb : bwL ((sl s).getD i0 0) with
 | true =>
  have := rword_any s i0 w hi hs hb
  rw [hdr, ← tokL_word hb, ← hdr] at this
  exact this
 | false =>
  cases hd : dgL ((sl s).getD i0 0) with
  | true =>
   have := rnum_any s i0 w hi hs hb hd
   rw [hdr, ← tokL_num hb hd, ← hdr] at this
   exact this
  | false =>
   by_cases h39 : (sl s).getD i0 0 = 39
   ·have := rtxt_any s i0 w hi hs h39
    rw [← tokL_txt, ← h39, ← hdr] at this
    exact this
   ·have := rsgn_any s i0 w hi hs hb hd h39
    rw [hdr, ← tokL_sgn hb hd h39, ← hdr] at this
    exact this
def RTks (x : Except Nat (List Tk)) (w : World) (e : Ending) (w' : World) : Prop := Below w.heap.size w w' ∧ match x with
 | .error er => ∃ v, e = .returned (.tuple #[v, .int .i64 (er : Int)]) ∧ OwT w' w.heap.size v []
 | .ok ts => ∃ v, e = .returned (.tuple #[v, .int .i64 0]) ∧ OwT w' w.heap.size v ts
structure RkS (w wr : World) (l : List Nat) (v : Value) (ts : List Tk) (k : Nat) : Prop where
 own : OwT wr (w.heap.size + 1) v ts
 non : wr.heap[w.heap.size]? = some (.cells #[] 84 (0, 0))
 kl : k ≤ l.length
 al : ts.length ≤ k
 eq : lexL l = preT ts (lexL (l.drop k))
 bel : Below w.heap.size w wr
 sz : w.heap.size + 1 ≤ wr.heap.size
set_option maxHeartbeats 4000000 in
theorem rtokens_any (s : ByteArray) (w : World) :
  Calls Tryz.prog 22 #[.string s] w (RTks (toksE (sl s)) w) := by
 have b1 : Below w.heap.size w (w.alloc (.cells #[] 84)) := (Below.refl _ _).alloc (Nat.le_refl _) _
 have hn1 := heap_alloc_new w (.cells #[] 84)
 have b2 : Below w.heap.size w ((w.alloc (.cells #[] 84)).alloc (.cells #[] 84)) := b1.alloc (by simp) _
 have hn2 : ((w.alloc (.cells #[] 84)).alloc (.cells #[] 84)).heap[w.heap.size]? = some (.cells #[] 84 (0, 0)) := (((Below.refl _ _).alloc (Nat.le_refl _) (.cells #[] 84)).block _ (by simp)).trans hn1
 have hnon : ∀ wx : World, wx.heap[w.heap.size]? = some (.cells #[] 84 (0, 0)) → OwT wx w.heap.size (.slice (some ⟨w.heap.size, 0, none⟩) 0 0) [] := fun wx h => ⟨rfl, .inr ⟨_, 0, #[], rfl, Nat.le_refl _, h, Nat.le_refl _, by decide, rfl, rfl⟩⟩
 have HNON := Lib.hid hnon
 have HS0 : Hid (RkS w ((w.alloc (.cells #[] 84)).alloc (.cells #[] 84)) (sl s) (.slice (some ⟨w.heap.size + 1, 0, none⟩) 0 0) [] 0) := Lib.hid
  ⟨by
   have := World.ownsRow_made (w.alloc (.cells #[] 84)) #[] 0 (base := w.heap.size + 1) (e := 84) (size := 4) (by simp) (by decide) rfl
   simpa [OwT, tkcells] using this, hn2, Nat.zero_le _, Nat.zero_le _, by rw [preT_nil]; rfl, b2, by simp⟩
 generalize hP : RTks (toksE (sl s)) w = P
 have HP := Lib.hid hP
 have HB2 := Lib.hid (And.intro b2 hn2)
 clear hP b1 hn1 b2 hn2 hnon
 by_cases hlong : s.size > 4000
 ·have hX : P (.returned (.tuple #[.slice (some ⟨w.heap.size, 0, none⟩) 0 0, .int .i64 1])) ((w.alloc (.cells #[] 84)).alloc (.cells #[] 84)) := by
   rw [← HP.out]
   unfold toksE
   rw [sl_length, if_pos hlong]
   exact ⟨HB2.out.1, _, rfl, HNON.out _ HB2.out.2⟩
  have HX := Lib.hid hX
  have k1 : decide ((4000 : Int) < (s.size : Int)) = true := by simp; omega
  clear hX
  go_enter Tryz.func22, Tryz.ntmps22
  go_wp2_with fail
  exact HX.out
 ·have k1 : decide ((4000 : Int) < (s.size : Int)) = false := by simp; omega
  have hTE : toksE (sl s) = lexL (sl s) := by unfold toksE; rw [sl_length, if_neg hlong]
  rw [hTE] at HP
  clear hTE
  go_enter Tryz.func22, Tryz.ntmps22
  go_wp2_with fail
  go_loopw [5, 6] (fun v i wr => ∃ (k : Nat) (ts : List Tk), i = .int .i64 (k : Int) ∧ RkS w wr (sl s) v ts k) (fun _ i _ => s.size - (intOf i).toNat)
  case atStart => exact ⟨0, [], rfl, by simpa using HS0.out⟩
  case round =>
   obtain ⟨k, ts, rfl, hs⟩ := hrel
   have HS := Lib.hid hs
   have hkl : k ≤ s.size := by have := hs.kl; rw [sl_length] at this; exact this
   clear hs
   by_cases hk : k < s.size
   ·have hki : (k : Int) < (s.size : Int) := by omega
    have hsx := (slx_get s k hk).symm
    have hdr := drop_getD (sl s) k (by rw [sl_length]; exact hk)
    have hc8 := slx_lt s k
    have HC := Lib.hid (rone_any s k wr hk (by omega))
    generalize (sl s).getD k 0 = c at *
    have HDR := Lib.hid hdr
    have w7' : IntKind.i64.wrap ((k : Int) + 1) = (k : Int) + 1 := by rw [IntKind.wrap_i64]; omega
    clear hdr
    have hj : (blL c = true ∧ (c = 32 ∨ c = 9 ∨ c = 10 ∨ c = 13)) ∨ (blL c = false ∧ ((c : Int) == 32) = false ∧ ((c : Int) == 9) = false ∧ ((c : Int) == 10) = false ∧ ((c : Int) == 13) = false) := by
     cases hb : blL c with
     | true => exact .inl ⟨rfl, blk_cases hb⟩
     | false =>
      right
      unfold blL at hb
      simp only [Bool.or_eq_false_iff, beq_eq_false_iff_ne] at hb
      exact ⟨rfl, beq_eq_false_iff_ne.2 (by omega), beq_eq_false_iff_ne.2 (by omega), beq_eq_false_iff_ne.2 (by omega), beq_eq_false_iff_ne.2 (by omega)⟩
    rcases hj with ⟨hb, hj⟩ | ⟨hb, j1, j2, j3, j4⟩
    ·have hnx : Hid (RkS w wr (sl s) u5 ts (k + 1)) := Lib.hid ⟨HS.out.own, HS.out.non, by rw [sl_length]; omega, by have := HS.out.al; omega, by rw [HS.out.eq, HDR.out, lexL_blank c _ hb], HS.out.bel, HS.out.sz⟩
     clear HC HDR hb
     rcases hj with rfl | rfl | rfl | rfl
     all_goals
      go_wp2_with fail
      all_goals first
       | (exfalso; omega)
       | exact ⟨⟨k + 1, ts, by congr 1, hnx.out⟩, by simp [intOf]; omega⟩
    ·have hlt := lexL_tok c ((sl s).drop (k + 1)) hb
     rw [← HDR.out] at hlt
     have HLT := Lib.hid hlt
     have hne : (sl s).drop k ≠ [] := by rw [HDR.out]; simp
     clear hlt hb
     cases htk : tokL ((sl s).drop k) with
     | error er =>
      rw [htk] at HC HLT
      have her := tokL_err _ hne er htk
      have hne2 : ((er : Int) != 0) = true := by simp; omega
      go_wp2_with fail
      all_goals first | (exfalso; omega) | skip
      try go_at_call 47
      refine HC.out.mono ?_
      rintro ee w2 ⟨hb2, j, rfl⟩
      have hX : P (.returned (.tuple #[.slice (some ⟨w.heap.size, 0, none⟩) 0 0, .int .i64 (er : Int)])) (w2.alloc (.cells #[.int .i64 0, .string ⟨#[]⟩, .int .i64 0, .int .i64 0] 84)) := by
       rw [← HP.out, HS.out.eq, HLT.out]
       have hbb := (HS.out.bel.trans (hb2.mono (by have := HS.out.sz; omega))).alloc (by have := HS.out.sz; have := hb2.size; omega) (.cells #[.int .i64 0, .string ⟨#[]⟩, .int .i64 0, .int .i64 0] 84)
       refine ⟨hbb, _, rfl, HNON.out _ ?_⟩
       exact (((hb2.trans (((Below.refl _ _).alloc (Nat.le_refl _) _).mono hb2.size)).block _ (by have := HS.out.sz; omega))).trans HS.out.non
      have HX := Lib.hid hX
      clear hX hb2
      unfold Tkv
      go_wp2_with fail
      exact HX.out
     | ok x =>
      obtain ⟨t, k2⟩ := x
      rw [htk] at HC HLT
      obtain ⟨hk2, hk0⟩ := tokL_len _ t k2 htk
      rw [List.length_drop, sl_length] at hk2
      go_wp2_with fail
      all_goals first | (exfalso; omega) | skip
      try go_at_call 47
      refine HC.out.mono ?_
      rintro ee w6 ⟨hb6, he⟩
      have he : ee = _ := he
      subst he
      have hs6 := hb6.size
      have hsr := HS.out.sz
      obtain ⟨w7, hw7⟩ : ∃ w7, w6.alloc (.cells #[.int .i64 (t.kind : Int), .string (strB t.text), .int .i64 (t.num : Int), .int .i64 (t.scale : Int)] 84) = w7 := ⟨_, rfl⟩
      have b7 : Below w6.heap.size w6 w7 := by rw [← hw7]; exact (Below.refl _ _).alloc (Nat.le_refl _) _
      have n7 : TBox w7 w6.heap.size (t.kind : Int) (t.num : Int) (t.scale : Int) (strB t.text) := by rw [← hw7]; exact heap_alloc_new w6 (.cells #[.int .i64 (t.kind : Int), .string (strB t.text), .int .i64 (t.num : Int), .int .i64 (t.scale : Int)] 84)
      obtain ⟨⟨x0, x1, x2, x3⟩, y0, y1, y2, y3⟩ := n7.cells
      obtain ⟨w8, hw8⟩ : ∃ w8, w7.alloc (.cells #[.int .i64 (t.kind : Int), .string (strB t.text), .int .i64 (t.num : Int), .int .i64 (t.scale : Int)] 84) = w8 := ⟨_, rfl⟩
      have b8 : Below w7.heap.size w7 w8 := by rw [← hw8]; exact (Below.refl _ _).alloc (Nat.le_refl _) _
      have hnews : ∀ j x, (tkcells [t])[j]? = some x → w8.cell? ((⟨w7.heap.size, 0, none⟩ : Addr).add j) = some x := by rw [← hw8]; exact newsT w7 t
      have b68 : Below wr.heap.size wr w8 := hb6.trans ((b7.trans (b8.mono b7.size)).mono hs6)
      have HNW := Lib.hid hnews
      have HO8 := Lib.hid (HS.out.own.below b68)
      have HB8 := Lib.hid (HS.out.bel.trans (b68.mono (by omega)))
      have HN8 := Lib.hid ((b68.block _ (by omega)).trans HS.out.non)
      have hs8 := b68.size
      have hal : ts.length + 1 ≤ 4294967297 := by have := HS.out.al; omega
      clear b7 n7 b8 hnews b68 hb6
      unfold Tkv
      go_wp2_with (first | (at_builtin; refine wp_pushT rfl _ _ rfl (w.heap.size + 1) u5 ts rfl HO8.out (by omega) ⟨w7.heap.size, 0, none⟩ 1 1 [t] rfl rfl HNW.out hal ?_; intro v9 w9 own9 gr9; have HX9 := Lib.hid (And.intro own9 gr9); clear own9 gr9))
      have hs9 := HX9.out.2.size
      refine ⟨⟨k + k2, ts ++ [t], by congr 1, ⟨HX9.out.1, ?_, by rw [sl_length]; omega, by have := HS.out.al; simp; omega, ?_, ?_, by omega⟩⟩, by simp [intOf]; omega⟩
      ·exact (HX9.out.2.block _ (by omega) (fun e => by have := (HO8.out.lt _ e.symm).1; omega)).trans HN8.out
      ·rw [HS.out.eq, HLT.out, ← List.drop_drop]
       show preT ts (preT [t] _) = _
       rw [preT_preT]
      ·exact HB8.out.grown HX9.out.2 (by omega) (fun g hg => by have := (HO8.out.lt g hg).1; omega)
   ·have hki : decide ((k : Int) < (s.size : Int)) = false := by simp; omega
    have hX : P (.returned (.tuple #[u5, .int .i64 0])) wr := by
     rw [← HP.out, HS.out.eq, List.drop_eq_nil_of_le (by rw [sl_length]; omega), lexL_nil]
     refine ⟨HS.out.bel, u5, rfl, ?_⟩
     have := HS.out.own.le (B' := w.heap.size) (by omega)
     simpa using this
    have HX := Lib.hid hX
    clear hX
    go_wp2_with fail
    exact HX.out
end Go.Proofs.YtofnkfjhmjecjaaGreatDoor

namespace Go.Proofs.YtofnkfjhmjecjaaGreatDoor
set_option maxRecDepth 100000
open Go.RowKit Go.Joins Go.ChangeShapes Go.WideShapes
set_option linter.unusedVariables false
set_option linter.unusedSimpArgs false
end Go.Proofs.YtofnkfjhmjecjaaGreatDoor

namespace Go.Proofs.YtofnkfjhmjecjaaGreatDoor
set_option maxRecDepth 100000
set_option linter.unusedVariables false
set_option linter.unusedSimpArgs false
structure DS where
 i : Nat
 opn : Nat
 e : Nat
 most : Nat
section
variable (ts : List Tk)
def dFail (c : Nat) (s : DS) : DS := if s.e = 0 then { s with e := c } else s
def DS.next (s : DS) : DS := { s with i := s.i + 1 }
def dIs (k : Nat) (w : List Nat) (s : DS) : Bool := s.e == 0 && (match ts[s.i]? with
 | some t => t.kind == k && t.text == w
 | none => false)
def dGot (k : Nat) (w : List Nat) (s : DS) : Bool × DS := if dIs ts k w s = true then (true, s.next) else (false, s)
def dMust (k : Nat) (w : List Nat) (s : DS) : DS := if dIs ts k w s = true then s.next else dFail 130 s
def dNm (s : DS) : Option (List Nat) := if s.e = 0 then (match ts[s.i]? with
 | some t => if t.kind = 1 ∧ resB (strB t.text) = false then some t.text else none
 | none => none) else none
def dName (s : DS) : List Nat × DS := match dNm ts s with
 | some w => (w, s.next)
 | none => ([], dFail 130 s)
def dMore (n most : Nat) (s : DS) : Bool × DS := if dIs ts 5 [44] s = true then (if n = most then (false, dFail 151 s) else (true, s.next)) else (false, s)
def lvlD : Nat → List (Nat × List Nat × Nat)
 | 0 => [(1, wOr, 18)]
 | 1 => [(1, wAnd, 17)]
 | 4 => [(5, [43], 7), (5, [45], 8), (5, [124, 124], 12)]
 | 5 => [(5, [42], 9), (5, [47], 10), (5, [37], 11)]
 | _ => []
def dWhich : List (Nat × List Nat × Nat) → DS → Nat × DS
 | [], s => (0, s)
 | (k, w, op) :: r, s => if dIs ts k w s = true then (op, s.next) else dWhich r s
def dLevel (lvl : Nat) (s : DS) : Nat × DS := dWhich ts (lvlD lvl) s
def cmpD : List (Nat × List Nat × Nat) := [(5, [61], 1), (5, [60, 62], 2), (5, [60], 3), (5, [60, 61], 4), (5, [62], 5), (5, [62, 61], 6)]
def dCount (k : Nat) (w : List Nat) : Nat → DS → Nat × DS
 | 0, s => (0, s)
 | m + 1, s => if dIs ts k w s = true then ((dCount k w m s.next).1 + 1, (dCount k w m s.next).2) else (0, s)
def wrapN (op : Nat) : Nat → Ex → Ex
 | 0, e => e
 | n + 1, e => wrapN op n (mk1 op e)
def bindD {β : Type} (x : Option (Ex × DS)) (f : Ex → DS → Option β) : Option β := match x with
 | none => none
 | some (e, s) => f e s
def dNull (op : Nat) (e : Ex) (s : DS) : Ex × DS := (mk1 op e, dMust ts 1 wNull s)
mutual
/-- an expression of a level -/
def dX : Nat → Nat → DS → Option (Ex × DS)
 | 0, _, _ => none
 | n + 1, lvl, s => if s.e ≠ 0 then some (zE, s) else
  if lvl = 2 ∨ lvl = 6 then
   let c := dCount ts (if lvl = 2 then 1 else 5) (if lvl = 2 then wNot else [45]) (ts.length + 1) s
   bindD (dX n (lvl + 1) c.2) fun e s1 => some (wrapN (if lvl = 6 then 13 else 16) c.1 e, s1)
  else if lvl = 3 then dT n s
  else if lvl = 7 then dO n s
  else bindD (dX n (lvl + 1) s) fun e s1 => dC n lvl e s1
def dC : Nat → Nat → Ex → DS → Option (Ex × DS)
 | 0, _, _, _ => none
 | n + 1, lvl, e, s =>
  let o := dLevel ts lvl s
  if o.1 = 0 then some (e, o.2) else bindD (dX n (lvl + 1) o.2) fun f s1 => dC n lvl (mk2 o.1 e f) s1
/-- a test -/
def dT : Nat → DS → Option (Ex × DS)
 | 0, _ => none
 | n + 1, s => bindD (dX n 4 s) fun e s1 =>
  let o := dWhich ts cmpD s1
  if o.1 ≠ 0 then bindD (dX n 4 o.2) fun f s2 => some (mk2 o.1 e f, s2)
  else
   let g := dGot ts 1 wIs s1
   if g.1 = true then
    let h := dGot ts 1 wNot g.2
    some (dNull ts (if h.1 = true then 20 else 19) e h.2)
   else some (e, g.2)
/-- between parentheses -/
def dP : Nat → DS → Option (Ex × DS)
 | 0, _ => none
 | n + 1, s =>
  let s0 := if dIs ts 5 [40] s = true ∧ s.opn = 40 then dFail 5 s else s
  let s1 := dMust ts 5 [40] s0
  bindD (dX n 0 { s1 with opn := s1.opn + 1 }) fun e s2 => some (e, dMust ts 5 [41] { s2 with opn := s2.opn - 1 })
/-- a constant, a column, a call, parentheses -/
def dO : Nat → DS → Option (Ex × DS)
 | 0, _ => none
 | n + 1, s => match ts[s.i]? with
  | none => some (zE, dFail 130 s)
  | some t =>
   if 2 ≤ t.kind ∧ t.kind ≤ 4 then some (cst t.kind t.num t.scale (strB t.text), s.next)
   else if dIs ts 1 wNull s = true then some (cst 0 0 0 ⟨#[]⟩, s.next)
   else if dIs ts 1 wTrue s = true then some (cst 1 1 0 ⟨#[]⟩, s.next)
   else if dIs ts 1 wFalse s = true then some (cst 1 0 0 ⟨#[]⟩, s.next)
   else if dIs ts 1 wNan s = true then some (cst 3 0 (-1) ⟨#[]⟩, s.next)
   else if dIs ts 1 wInf s = true then some (cst 3 0 (-2) ⟨#[]⟩, s.next)
   else if dIs ts 1 wInt s = true then bindD (dP n s.next) fun e s1 => some (mk1 14 e, s1)
   else if dIs ts 1 wReal s = true then bindD (dP n s.next) fun e s1 => some (mk1 15 e, s1)
   else if t.kind = 5 then dP n s
   else
    let m := dName ts s
    let g := dGot ts 5 [46] m.2
    if g.1 = true then
     let q := dName ts g.2
     some (.mk 22 0 0 0 (strB q.1) (strB m.1) [], q.2)
    else some (.mk 22 0 0 0 (strB m.1) ⟨#[]⟩ [], g.2)
end
end
end Go.Proofs.YtofnkfjhmjecjaaGreatDoor

namespace Go.Proofs.YtofnkfjhmjecjaaGreatDoor
set_option maxRecDepth 100000
open Go.RowKit Go.Joins Go.ChangeShapes Go.WideShapes
set_option linter.unusedVariables false
set_option linter.unusedSimpArgs false
structure DsM (w : World) (pb : Nat) (ts : List Tk) (s : DS) : Prop where
 hd : ∃ a cap, Bx w pb #[.slice a ts.length cap, .int .i64 (s.i : Int), .int .i64 (s.opn : Int), .int .i64 (s.e : Int), .int .i64 (s.most : Int)] 70 ∧ ts.length ≤ cap ∧ cap ≤ maxLen ∧
  (ts = [] ∨ ∃ g o, a = some ⟨g, o, none⟩ ∧ g < pb ∧ ∀ j u, (tkcells ts)[j]? = some u → w.cell? ⟨g, o + j, none⟩ = some u)
 rt : ∀ t ∈ ts, TkR t
 ln : ts.length ≤ 4000
 ii : s.i ≤ ts.length
 on : s.opn ≤ 41
 ms : s.most ≤ 4294967296
 er : s.e ≤ 1000
theorem DsM.lt {w : World} {pb : Nat} {ts : List Tk} {s : DS} (h : DsM w pb ts s) : pb < w.heap.size := by
 obtain ⟨a, cap, h1, -⟩ := h.hd
 exact h1.lt
theorem DsM.frm {F : Bl} {w w1 : World} {pb : Nat} {ts : List Tk} {s : DS} (h : DsM w pb ts s) (f : Frm F w w1) (hF : ∀ k, k ≤ pb → ¬ F k) : DsM w1 pb ts s := by
 obtain ⟨a, cap, h1, h2, h3, h4⟩ := h.hd
 refine ⟨⟨a, cap, h1.frm f (hF _ (Nat.le_refl _)), h2, h3, ?_⟩, h.rt, h.ln, h.ii, h.on, h.ms, h.er⟩
 rcases h4 with h4 | ⟨g, o, e1, e2, e4⟩
 ·exact .inl h4
 ·exact .inr ⟨g, o, e1, e2, fun j u hj => (f.cell (Nat.lt_trans e2 h.lt) (hF _ (Nat.le_of_lt e2)) _).trans (e4 j u hj)⟩
theorem DsM.below {w w1 : World} {pb : Nat} {ts : List Tk} {s : DS} (h : DsM w pb ts s) (hb : Below w.heap.size w w1) : DsM w1 pb ts s := h.frm (Frm.of_below (F := fun _ => False) hb) (fun _ _ e => e)
structure Dp (w w' : World) (pb : Nat) (ts : List Tk) (s : DS) : Prop where
 fr : Frm (PF pb) w w'
 ds : DsM w' pb ts s
theorem Dp.refl {w : World} {pb : Nat} {ts : List Tk} {s : DS} (h : DsM w pb ts s) : Dp w w pb ts s := ⟨Frm.refl _ _, h⟩
theorem Dp.below {w w1 w2 : World} {pb : Nat} {ts : List Tk} {s : DS} (h : Dp w w1 pb ts s) (hb : Below w1.heap.size w1 w2) : Dp w w2 pb ts s :=
 ⟨h.fr.trans (Frm.of_below (F := PF pb) hb) (fun k hk => .inl hk), h.ds.below hb⟩
theorem Dp.trans {w w1 w2 : World} {pb : Nat} {ts : List Tk} {s s2 : DS} (h : Dp w w1 pb ts s) (h2 : Dp w1 w2 pb ts s2) : Dp w w2 pb ts s2 :=
 ⟨h.fr.trans h2.fr (fun k hk => .inl hk), h2.ds⟩
theorem tok_cells {w : World} {pb : Nat} {ts : List Tk} {s : DS} (h : DsM w pb ts s) {k : Nat} {t : Tk} (hk : ts[k]? = some t) : ∃ g o cap, Bx w pb #[.slice (some ⟨g, o, none⟩) ts.length cap, .int .i64 (s.i : Int), .int .i64 (s.opn : Int), .int .i64 (s.e : Int), .int .i64 (s.most : Int)] 70 ∧ ts.length ≤ cap ∧ cap ≤ maxLen ∧
  w.cell? ⟨g, o + k * 4, none⟩ = some (.int .i64 (t.kind : Int)) ∧ w.cell? ⟨g, o + k * 4 + 1, none⟩ = some (.string (strB t.text)) ∧ w.cell? ⟨g, o + k * 4 + 2, none⟩ = some (.int .i64 (t.num : Int)) ∧ w.cell? ⟨g, o + k * 4 + 3, none⟩ = some (.int .i64 (t.scale : Int)) := by
 obtain ⟨a, cap, h1, h2, h3, h4⟩ := h.hd
 rcases h4 with h4 | ⟨g, o, rfl, e2, e4⟩
 ·rw [h4] at hk; simp at hk
 ·have key : ∀ (l : List Tk) (k : Nat) (t : Tk), l[k]? = some t → (tkcells l)[k * 4]? = some (.int .i64 (t.kind : Int)) ∧ (tkcells l)[k * 4 + 1]? = some (.string (strB t.text)) ∧ (tkcells l)[k * 4 + 2]? = some (.int .i64 (t.num : Int)) ∧ (tkcells l)[k * 4 + 3]? = some (.int .i64 (t.scale : Int)) := by
   intro l
   induction l with
   | nil => intro k t h; simp at h
   | cons x r ih =>
    intro k t h
    match k, h with
    | 0, h =>
     simp at h
     subst h
     exact ⟨rfl, rfl, rfl, rfl⟩
    | k + 1, h =>
     obtain ⟨a1, a2, a3, a4⟩ := ih k t (by simpa using h)
     have e : ∀ j, (tkcells (x :: r))[(k + 1) * 4 + j]? = (tkcells r)[k * 4 + j]? := fun j => by
      rw [show (k + 1) * 4 + j = k * 4 + j + 4 by omega]
      rfl
     exact ⟨(e 0).trans a1, (e 1).trans a2, (e 2).trans a3, (e 3).trans a4⟩
  obtain ⟨a1, a2, a3, a4⟩ := key ts k t hk
  refine ⟨g, o, cap, h1, h2, h3, e4 _ _ a1, ?_, ?_, ?_⟩
  ·rw [Nat.add_assoc]; exact e4 _ _ a2
  ·rw [Nat.add_assoc]; exact e4 _ _ a3
  ·rw [Nat.add_assoc]; exact e4 _ _ a4
theorem DsM.put {w : World} {pb : Nat} {ts : List Tk} {s : DS} (h : DsM w pb ts s) (s' : DS) (j : Nat) (v : Value)
  (hj : (j = 1 ∧ v = .int .i64 (s'.i : Int) ∧ s' = { s with i := s'.i }) ∨ (j = 2 ∧ v = .int .i64 (s'.opn : Int) ∧ s' = { s with opn := s'.opn }) ∨ (j = 3 ∧ v = .int .i64 (s'.e : Int) ∧ s' = { s with e := s'.e }) ∨ (j = 4 ∧ v = .int .i64 (s'.most : Int) ∧ s' = { s with most := s'.most }))
  (h1 : s'.i ≤ ts.length) (h2 : s'.opn ≤ 41) (h3 : s'.most ≤ 4294967296) (h4 : s'.e ≤ 1000) : Dp w (w.setCell ⟨pb, j, none⟩ v) pb ts s' := by
 obtain ⟨a, cap, b1, b2, b3, b4⟩ := h.hd
 have hb : Bx (w.setCell ⟨pb, j, none⟩ v) pb #[.slice a ts.length cap, .int .i64 (s'.i : Int), .int .i64 (s'.opn : Int), .int .i64 (s'.e : Int), .int .i64 (s'.most : Int)] 70 := by
  have hz := box_set b1 j v
  rcases hj with ⟨rfl, rfl, hs⟩ | ⟨rfl, rfl, hs⟩ | ⟨rfl, rfl, hs⟩ | ⟨rfl, rfl, hs⟩ <;> (rw [hs]; exact hz)
 have hf : Frm (PF pb) w (w.setCell ⟨pb, j, none⟩ v) := (Frm.refl (PF pb) w).setCell (.inl rfl) j v
 refine ⟨hf, ⟨a, cap, hb, b2, b3, ?_⟩, h.rt, h.ln, h1, h2, h3, h4⟩
 rcases b4 with b4 | ⟨g, o, e1, e2, e4⟩
 ·exact .inl b4
 ·exact .inr ⟨g, o, e1, e2, fun i u hi => (hf.cell (Nat.lt_trans e2 h.lt) (fun e => by have : g = pb := e; omega) _).trans (e4 i u hi)⟩
end Go.Proofs.YtofnkfjhmjecjaaGreatDoor
