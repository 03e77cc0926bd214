/-
  LocksRow answers true at any list of numbers, of a bulk of at most 1048576: those that wait for one thing in X get it one after the other, in the order in which they asked.
  Conditions: none but the row's own; the listed variables hold what the program's text lays (the card ties them).
-/
import Derived.Test.YtochopjcdlblmaaDoorZl8
import Derived.Test.YtochopjcdlblmaaDoorCards
import Derived.Test.YtochopjcdlblmaaDoorTie
import Derived.WalkKit
import Derived.ProofKit
import Derived.OpenShut
import Derived.ShutString
import Derived.ChangeOld
import Derived.Below
import Derived.Carry
import Derived.Deep.DeepHandedRow
import Derived.Deep.DeepWitnessRowRef
import Derived.Lib.LaidTab
namespace Go.Proofs.YtochopjcdlblmaaDoor.locksRow
open Go.ChangeShapes Go.WideShapes Go.ChangeAt Go.RowKit
open Go.Joins
open Go.MapKept
set_option linter.unusedVariables false

theorem own : ownKnob Tryd.prog.godebug = none := by kernel_rfl
theorem laidOut : laidOutB Tryd.prog = true := by kernel_rfl

set_option maxRecDepth 100000 in

set_option maxHeartbeats 8000000 in
theorem walk {H : Type} {enc : TypeId × Value → H} (base : Nat) (v0 : Value) (d0 : DataW H) (p0 : List MemPlace) (W : World)
    (o0 : Value.okWide Tryd.prog W .any base 29 v0) (h0 : DataW.Trod enc Tryd.prog W 0 (fun _ => true) true 29 v0 d0 p0)
    (hk : Rows.uptoSmall H [d0] = true)
    (hL : laidMetH Tryd.prog Rows.locksRowUptoRow.laid W) :
    Calls Tryd.prog 7 #[v0] W fun e w' => e = .returned (.bool true) ∧ Below W.heap.size W w' := by
  obtain ⟨a0, cap, ord, rfl, hm, hI, hwf⟩ := open_intsR o0 h0 (up_arg hk (by simp))
  have hT : Tabs W := tabs_of_laid hL
  have HS := Lib.hid (speaks10_any W hT)
  have HWF := Lib.hid hwf
  obtain ⟨n, hn⟩ : ∃ n, ord.length = n := ⟨_, rfl⟩
  rw [hn] at hm ⊢
  have HN := Lib.hid hn
  clear o0 h0 hk hwf hn hL
  go_enter Tryd.func7, Tryd.ntmps7
  go_wp2_with fail
  refine HS.out.mono ?_
  rintro x w0 ⟨rfl, b0⟩
  have HI0 := Lib.hid (hI.below b0)
  have HB0 := Lib.hid b0
  have HNEW := Lib.hid (ta_new w0 (hT.below b0))
  clear HS hI b0 hT
  go_wp2_with fail
  refine HNEW.out.mono ?_
  rintro e w1 ⟨b, F1, rfl, hA1, hb1, hlo1⟩
  obtain ⟨W2, hW2⟩ : ∃ W2, w1.alloc (.cells #[] 3) = W2 := ⟨_, rfl⟩
  obtain ⟨W3, hW3⟩ : ∃ W3, W2.alloc (.map #[] 0) = W3 := ⟨_, rfl⟩
  have hb2 : Below w1.heap.size w1 W2 := by rw [← hW2]; exact (Below.refl _ _).alloc (Nat.le_refl _) _
  have hb3 : Below W2.heap.size W2 W3 := by rw [← hW3]; exact (Below.refl _ _).alloc (Nat.le_refl _) _
  have hq2 : QI W2 w0.heap.size (.slice (some ⟨w1.heap.size, 0, none⟩) 0 0) [] := .inr ⟨w1.heap.size, 0, 0, #[], rfl, hb1.size, by rw [← hW2]; exact heap_alloc_new w1 _, Nat.le_refl _, by decide, by simp, fun i u hu => by simp [icells] at hu⟩
  obtain ⟨a, ha⟩ : ∃ x, W2.heap.size = x := ⟨_, rfl⟩
  have hc3 : CntM W3 a (fun _ => 0) := by rw [← hW3]; exact cntm_made W2 a ha
  have hmk : (Instr.makeMap 35 none).run Tryd.prog W2 = .ok (.map (some a)) W3 := by rw [← hW3, ← ha]; rfl
  have h21 : w1.heap.size < W2.heap.size := by rw [← hW2]; simp
  have HLR := Lib.hid (show Lr w0 W3 b a F1 (rowT ([97] : RS) 6 []) (.slice (some ⟨w1.heap.size, 0, none⟩) 0 0) [] (fun _ => 0) from
    ⟨(hA1.below hb2).below hb3, hc3, hq2.step (F := fun _ => False) (Frm.of_below hb3) (fun _ _ e => e), fun c => by have := hA1.hi c; omega, fun k hk c => by
      simp only [Value.ownBlock, Option.some.injEq] at hk
      have := hA1.hi c; omega, by rw [← ha]; exact Nat.le_trans hb1.size hb2.size⟩)
  clear HNEW hA1 hb1 hlo1 hb2 hb3 hq2 hc3 h21
  go_upto_region 6 with fail
  go_wp2_with fail
  go_loopw [4, 21] (fun v4 i wx => ∃ (k : Nat) (xs : List Int) (A : Int → Nat) (F : Bl), k ≤ n ∧ i = .int .i64 k ∧ xs.length ≤ k ∧ Hid (Lr w0 wx b a F (rowT ([97] : RS) 6 xs) v4 xs A) ∧ Hid (xs.Nodup ∧ (∀ z, A z = 0 ↔ z ∉ xs) ∧ ∀ z, A z ≤ k)) (fun _ i _ => n - (intOf i).toNat)
  case atStart => exact ⟨0, [], _, F1, Nat.zero_le _, rfl, Nat.zero_le _, HLR, Lib.hid ⟨List.nodup_nil, fun z => by simp, fun z => Nat.le_refl _⟩⟩
  case round =>
    obtain ⟨k, xs, A, F, hkn, rfl, hxl, HX, HA⟩ := hrel
    clear hmk hW2 hW3 ha HLR
    by_cases c : k < n
    · have c1 : (k : Int) < (n : Int) := by omega
      obtain ⟨x, hx⟩ : ∃ x, ord[k]? = some x := ⟨_, List.getElem?_eq_getElem (by rw [HN.out]; exact c)⟩
      obtain ⟨gb, go', rfl, g0⟩ := (HI0.out.below HX.out.tb.bel).at hx
      have hl1 := HX.out.mp.look x
      have hAk := HA.out.2.2 x
      obtain ⟨z, hz⟩ : ∃ z, A x = z := ⟨_, rfl⟩
      rw [hz] at hl1 hAk
      obtain ⟨w4, hpu, hX4⟩ := HX.out.put x (z + 1)
      have hl2 := hX4.mp.look x
      rw [show setA A x (z + 1) x = z + 1 by unfold setA; rw [if_pos rfl]] at hl2
      have HX4 := Lib.hid hX4
      have hkw : IntKind.i64.wrap ((k : Int) + 1) = ((k + 1 : Nat) : Int) := by rw [IntWalk.i64_in _ (by omega)]; omega
      have HZ := Lib.hid hz
      have HOK := Lib.hid (show okB x [97] from ⟨HWF.out x (List.mem_of_getElem? hx), by unfold maxLen; decide⟩)
      have HSZ := Lib.hid (show sizT (rowT ([97] : RS) 6 xs) ≤ 4294967200 by have := siz_row xs; omega)
      clear hx hX4 hz
      by_cases hz0 : z = 0
      · subst hz0
        have hxn : x ∉ xs := (HA.out.2.1 x).1 HZ.out
        have HA2 := Lib.hid (show (xs ++ [x]).Nodup ∧ (∀ y, setA A x (0 + 1) y = 0 ↔ y ∉ xs ++ [x]) ∧ ∀ y, setA A x (0 + 1) y ≤ k + 1 by
          refine ⟨List.nodup_append.2 ⟨HA.out.1, by simp, fun p hp q hq e => hxn (by simp at hq; rw [← hq, ← e]; exact hp)⟩, fun y => ?_, fun y => ?_⟩
          · unfold setA
            by_cases cy : y = x
            · rw [if_pos cy]; simp [cy]
            · rw [if_neg cy, HA.out.2.1]; simp [cy]
          · unfold setA
            split
            · omega
            · have := HA.out.2.2 y; omega)
        have hask := TbA.ask HX4.out.tb HSZ.out HOK.out 6
        simp only [row_ask10 hxn] at hask
        obtain ⟨m, hm4⟩ : ∃ m, xs.length = m := ⟨_, rfl⟩
        obtain ⟨xa, xc, hxe, -, -⟩ := QR.form HX4.out.row
        rw [icells_length, hm4] at hxe
        subst hxe
        replace hl1 : (Instr.lookup 35 (.map (some a)) (.int .i64 x) false).run Tryd.prog wr = .ok (.int .i64 0) wr := hl1
        replace hl2 : (Instr.lookup 35 (.map (some a)) (.int .i64 x) false).run Tryd.prog w4 = .ok (.int .i64 1) w4 := hl2
        replace hpu : (Instr.mapUpdate 35 (.map (some a)) (.int .i64 x) (.int .i64 1)).run Tryd.prog wr = .ok () w4 := hpu
        have HLN := Lib.hid (show xs.length + 1 ≤ 8796093022208 by omega)
        have HXL := Lib.hid (show (xs ++ [x]).length ≤ k + 1 by rw [List.length_append]; have : ([x] : List Int).length = 1 := rfl; omega)
        by_cases hxs : xs = []
        · rw [if_pos hxs] at hask
          have hm0 : m = 0 := by rw [← hm4, hxs]; rfl
          subst hm0
          have HASK := Lib.hid hask
          clear hask hxn hxs hm4 hxl
          go_wp2_with fail
          refine HASK.out.mono ?_
          rintro e w5 ⟨rfl, F5, hT5, hf5, hn5⟩
          have hX5 := HX4.out.went hT5 hf5 hn5
          have hb6 : Below w5.heap.size w5 (w5.alloc (.cells #[.int .i64 x] 3)) := (Below.refl _ _).alloc (Nat.le_refl _) _
          have HX6 := Lib.hid (hX5.below hb6)
          have HSZ6 := Lib.hid HX6.out.tb.bel.size
          have HY := Lib.hid (show (w5.alloc (.cells #[.int .i64 x] 3)).cell? ⟨w5.heap.size, 0, none⟩ = some (.int .i64 x) by rw [cell_of_block (heap_alloc_new w5 _)]; rfl)
          clear hX5 hb6 hT5 hf5 hn5 HASK
          go_wp2_with (first | (at_builtin; refine wp_pushQ rfl _ _ rfl w0.heap.size _ xs rfl HX6.out.row HSZ6.out ⟨_, 0, none⟩ 1 x rfl HY.out HLN.out ?_; intro v' w6 q6 g6 n6; have HK6 := Lib.hid (HX6.out.push q6 g6 n6); clear q6 g6 n6))
          go_roundw
          case rel => exact ⟨k + 1, xs ++ [x], _, F5, by omega, by first | rfl | go_num, HXL.out, HK6, HA2⟩
          case measure => simp [intOf]; omega
        · rw [if_neg hxs] at hask
          have hm0 : ¬ m = 0 := fun e => hxs (List.eq_nil_of_length_eq_zero (hm4.trans e))
          have hm1 : decide ((m : Int) = 0) = false := by simp [hm0]
          have HASK := Lib.hid hask
          clear hask hxn hxs hm4 hxl
          go_wp2_with fail
          refine HASK.out.mono ?_
          rintro e w5 ⟨rfl, F5, hT5, hf5, hn5⟩
          have hX5 := HX4.out.went hT5 hf5 hn5
          have hb6 : Below w5.heap.size w5 (w5.alloc (.cells #[.int .i64 x] 3)) := (Below.refl _ _).alloc (Nat.le_refl _) _
          have HX6 := Lib.hid (hX5.below hb6)
          have HSZ6 := Lib.hid HX6.out.tb.bel.size
          have HY := Lib.hid (show (w5.alloc (.cells #[.int .i64 x] 3)).cell? ⟨w5.heap.size, 0, none⟩ = some (.int .i64 x) by rw [cell_of_block (heap_alloc_new w5 _)]; rfl)
          clear hX5 hb6 hT5 hf5 hn5 HASK
          go_wp2_with (first | (at_builtin; refine wp_pushQ rfl _ _ rfl w0.heap.size _ xs rfl HX6.out.row HSZ6.out ⟨_, 0, none⟩ 1 x rfl HY.out HLN.out ?_; intro v' w6 q6 g6 n6; have HK6 := Lib.hid (HX6.out.push q6 g6 n6); clear q6 g6 n6))
          go_roundw
          case rel => exact ⟨k + 1, xs ++ [x], _, F5, by omega, by first | rfl | go_num, HXL.out, HK6, HA2⟩
          case measure => simp [intOf]; omega
      · obtain ⟨p, hp⟩ : ∃ p : Int, (z : Int) = p := ⟨_, rfl⟩
        obtain ⟨q, hq⟩ : ∃ q : Int, p + 1 = q := ⟨_, rfl⟩
        have hzq : ((z + 1 : Nat) : Int) = q := by omega
        rw [hzq] at hpu hl2
        rw [hp] at hl1
        have hpw : IntKind.i64.wrap (p + 1) = q := by rw [IntWalk.i64_in _ (by omega)]; exact hq
        have hq1 : 1 < q := by omega
        have hxi : x ∈ xs := Classical.byContradiction fun c => hz0 (HZ.out.symm.trans ((HA.out.2.1 x).2 c))
        have HA2 := Lib.hid (show xs.Nodup ∧ (∀ y, setA A x (z + 1) y = 0 ↔ y ∉ xs) ∧ ∀ y, setA A x (z + 1) y ≤ k + 1 by
          refine ⟨HA.out.1, fun y => ?_, fun y => ?_⟩
          · unfold setA
            by_cases cy : y = x
            · rw [if_pos cy, cy]; simp [hxi]
            · rw [if_neg cy, HA.out.2.1]
          · unfold setA
            split
            · omega
            · have := HA.out.2.2 y; omega)
        clear hxi hq hp hzq hAk
        go_wp2_with fail
        go_roundw
        case rel => exact ⟨k + 1, xs, _, F, by omega, by first | rfl | go_num, by omega, HX4, HA2⟩
        case measure => simp [intOf]; omega
    · obtain rfl : k = n := by omega
      have cf : decide ((k : Int) < (k : Int)) = false := by simp
      obtain ⟨m, hm4⟩ : ∃ m, xs.length = m := ⟨_, rfl⟩
      obtain ⟨xa, xc, hxe, hxc, hxm, -⟩ := QR.form HX.out.row
      rw [icells_length, hm4] at hxe hxc
      subst hxe
      have HM := Lib.hid hm4
      have HND := Lib.hid HA.out.1
      have hmk : m ≤ 1048576 := by omega
      have HXC := Lib.hid hxc
      unfold maxLen at hxm
      clear hm4 HA hxl
      go_wp2_with fail
      go_loopw [48] (fun i wx => ∃ (j : Nat) (F : Bl), j ≤ m ∧ i = .int .i64 j ∧ Hid (Lr w0 wx b a F (rowT ([97] : RS) 6 (xs.drop j)) (.slice xa m xc) xs A)) (fun i _ => m - (intOf i).toNat)
      case atStart => exact ⟨0, F, Nat.zero_le _, rfl, HX⟩
      case round =>
        clear HX
        obtain ⟨j, F, hj, rfl, HX⟩ := hrel
        by_cases cj : j < m
        · have cj1 : (j : Int) < (m : Int) := by omega
          obtain ⟨x, hx⟩ : ∃ x, xs[j]? = some x := ⟨_, List.getElem?_eq_getElem (by rw [HM.out]; exact cj)⟩
          have hrow := HX.out.row
          obtain ⟨g2, o2, cap2, e1, -, -, -, -, -, hcell⟩ := QR.at hrow (by rw [icells_length, HM.out]; omega)
          injection e1 with e1 e2 e3
          subst e1
          have a0 : wr.cell? ⟨g2, o2 + j, none⟩ = some (.int .i64 x) := hcell j (.int .i64 x) (icells_at hx)
          have hlt := (List.getElem?_eq_some_iff.1 hx).1
          have hd : xs.drop j = x :: xs.drop (j + 1) := by
            rw [List.drop_eq_getElem_cons hlt]
            congr 1
            rw [List.getElem?_eq_getElem hlt] at hx
            injection hx
          have hnd : (x :: xs.drop (j + 1)).Nodup := by rw [← hd]; exact HND.out.sublist (List.drop_sublist _ _)
          have hT := HX.out.tb
          rw [hd] at hT
          have hdr := hT.drop (by have := siz_row (x :: xs.drop (j + 1)); rw [← hd, List.length_drop, HM.out] at this; rw [← hd]; omega) x
          simp only [row_drop10 hnd] at hdr
          have hj1 : IntKind.i64.wrap ((j : Int) + 1) = (j : Int) + 1 := by rw [IntWalk.i64_in _ (by omega)]
          have hj2 : IntKind.i64.wrap ((j : Int) + 2) = (j : Int) + 2 := by rw [IntWalk.i64_in _ (by omega)]
          clear hrow hcell e2 e3 hx hnd hT hd
          by_cases cl : j + 1 < m
          · have cl1 : (j : Int) + 1 < (m : Int) := by omega
            obtain ⟨y, hy⟩ : ∃ y, xs[j + 1]? = some y := ⟨_, List.getElem?_eq_getElem (by rw [HM.out]; exact cl)⟩
            have ht1 : (xs.drop (j + 1)).take 1 = [y] := by
              have hlt := (List.getElem?_eq_some_iff.1 hy).1
              rw [List.drop_eq_getElem_cons hlt, List.take_succ_cons, List.take_zero]
              rw [List.getElem?_eq_getElem hlt] at hy
              injection hy with hy
              rw [hy]
            rw [ht1] at hdr
            have HDR := Lib.hid hdr
            have HY := Lib.hid hy
            have k1 : (j : Int) + 1 ≤ (j : Int) + 2 := by omega
            have k2 : (j : Int) + 2 ≤ (xc : Int) := by omega
            clear hdr ht1 hy
            go_wp2_with fail
            refine HDR.out.mono ?_
            rintro e w5 ⟨vg, F5, rfl, hT5, hf5, hn5, hq5, hv5⟩
            have HX5 := Lib.hid (HX.out.went hT5 hf5 hn5)
            have hss := sames_any w5 _ _ vg _ [y] [y] hq5 (HX5.out.row.one HY.out)
            rw [decide_eq_true (rfl : ([y] : List Int) = [y])] at hss
            have HSS := Lib.hid hss
            clear hT5 hf5 hn5 hq5 hv5 hss HDR
            go_wp2_with fail
            refine HSS.out.mono ?_
            rintro e w6 ⟨rfl, hb6⟩
            have HX6 := Lib.hid (HX5.out.below hb6)
            clear hb6 HSS HX5
            go_wp2_with fail
            go_roundw
            case rel => exact ⟨j + 1, F5, by omega, by first | rfl | go_num, HX6⟩
            case measure => simp [intOf]; omega
          · have cl1 : ¬ (j : Int) + 1 < (m : Int) := by omega
            have hjm : (j : Int) + 1 = (m : Int) := by omega
            have ht1 : (xs.drop (j + 1)).take 1 = [] := by rw [List.drop_eq_nil_of_le (by rw [HM.out]; omega)]; rfl
            rw [ht1] at hdr
            have HDR := Lib.hid hdr
            clear hdr ht1
            go_wp2_with fail
            refine HDR.out.mono ?_
            rintro e w5 ⟨vg, F5, rfl, hT5, hf5, hn5, hq5, hv5⟩
            have HX5 := Lib.hid (HX.out.went hT5 hf5 hn5)
            obtain ⟨ga, gc, hge, -, -, -⟩ := QR.form hq5
            replace hge : vg = .slice ga 0 gc := hge
            subst hge
            clear hT5 hf5 hn5 hq5 hv5 HDR
            go_wp2_with fail
            have HX6 := HX5
            rw [show j + 1 = m by omega] at HX6
            go_roundw
            case rel => exact ⟨m, F5, Nat.le_refl _, rfl, HX6⟩
            case measure => simp [intOf]; omega
        · obtain rfl : j = m := by omega
          have cf2 : decide ((j : Int) < (j : Int)) = false := by simp
          have hT := HX.out.tb
          rw [List.drop_eq_nil_of_le (Nat.le_of_eq HM.out)] at hT
          have HLK := Lib.hid (hT.locks (by decide))
          clear hT
          go_wp2_with fail
          refine HLK.out.mono ?_
          rintro e w5 ⟨vl, rfl, hol, hb5⟩
          obtain ⟨la, lc, rfl, -, -⟩ := hol.sl
          rw [show (rowT ([97] : RS) 6 []).hv.length = 0 from rfl]
          have HB5 := Lib.hid (HB0.out.trans ((HX.out.below hb5).tb.bel.mono HB0.out.size))
          clear hol hb5 HLK
          go_wp2_with fail
          go_ret
          exact ⟨rfl, HB5.out⟩

/-- a world for the witness: the listed variables hold what is laid -/
noncomputable def laidWorld (os : Os) : World :=
  { World.holding Tryd.prog os ⟨#[], #[], []⟩ with heap := (((World.holding Tryd.prog os ⟨#[], #[], []⟩).heap.modify 1 fun
      | .cells _ t frozen => .cells #[.bool true, .bool true, .bool true, .bool true, .bool true, .bool true, .bool true, .bool true, .bool true, .bool true, .bool true, .bool true, .bool true, .bool false, .bool true, .bool true, .bool true, .bool false, .bool false, .bool false, .bool false, .bool true, .bool true, .bool false, .bool true, .bool false, .bool true, .bool false, .bool true, .bool true, .bool false, .bool false, .bool false, .bool false, .bool false, .bool true, .bool true, .bool false, .bool true, .bool false, .bool false, .bool false, .bool true, .bool false, .bool false, .bool false, .bool false, .bool false, .bool false] t frozen
      | o => o).modify 0 fun
      | .cells _ t frozen => .cells #[.bool true, .bool false, .bool false, .bool false, .bool false, .bool false, .bool false, .bool true, .bool true, .bool false, .bool false, .bool false, .bool false, .bool false, .bool true, .bool true, .bool true, .bool false, .bool false, .bool false, .bool false, .bool true, .bool true, .bool false, .bool true, .bool false, .bool false, .bool false, .bool true, .bool true, .bool true, .bool true, .bool true, .bool false, .bool false, .bool true, .bool true, .bool false, .bool true, .bool false, .bool true, .bool false, .bool true, .bool true, .bool true, .bool true, .bool true, .bool true, .bool true] t frozen
      | o => o) }
theorem laid_met (os : Os) : laidMetH Tryd.prog Rows.locksRowUptoRow.laid ((laidWorld os).forCall (fun _ _ => 0) ⟨#[], #[.slice none 0 0], []⟩).memory :=
  laidMet_of_run' 8 (by kernel_rfl) (by kernel_rfl)
theorem reads (os : Os) {H : Type} (enc : TypeId × Value → H) : ∃ places, DataW.whole enc Tryd.prog ((laidWorld os).forCall (fun _ _ => 0) ⟨#[], #[.slice none 0 0], []⟩).memory Tryd.f7.params.toList Rows.locksRowSpec.vars false (#[.slice none 0 0] : Array Value).toList 8 = some ([.nil], [], places) :=
  ⟨[], by kernel_rfl⟩

set_option maxRecDepth 100000 in
theorem lifted (os : Os) (started : os.Started) (H : Type) (enc : TypeId × Value → H) (F : Stop.Interp) :
    ReturnsInHanded {} Tryd.checked os 7 .any ((Rows.OpenSpec.upto Rows.locksRowSpec).preRow enc Tryd.prog Tryd.f7 Rows.locksRowUptoRow.domain false Rows.locksRowUptoRow.laid) (((Rows.OpenSpec.upto Rows.locksRowSpec).at F).post enc Tryd.prog Tryd.f7 false true false false) := by
  obtain ⟨places, hx⟩ := reads os enc
  refine returnsInHanded_of_row (C := Tryd.checked) (s := (Rows.OpenSpec.upto Rows.locksRowSpec)) own started (by kernel_rfl) Tryd.func7
    (witness_row_at (enc := enc) (C := Tryd.checked) false (laidWorld os) #[.slice none 0 0] rfl (by kernel_rfl) (by kernel_rfl) (by kernel_rfl)
      (OpenSpec.preRow_of_cond 8 hx (by kernel_rfl) (fun k hk => by cases hk; kernel_rfl) (by kernel_rfl) (laid_met os))) ?_
  intro W base args ds gs before hval0 hW _ hcond _ hL _ _
  have hval : ∀ (j : Nat) t v, Tryd.f7.params[j]? = some t → args[j]? = some v → Value.okWide Tryd.prog W .any base t v := hval0
  have hW' := hW
  obtain ⟨p, q, hA0, hV, rfl, hfz, hnd⟩ := hW
  have hA : DataW.TrodAll enc Tryd.prog W 0 (fun _ => true) true Tryd.f7.params.toList args.toList ds p := hA0
  rw [Tryd.params7] at hA hval
  obtain ⟨v0, vs0, d0, ds0, p0, q0, hargs, rfl, rfl, h0, r0⟩ := trodAll_cons hA
  obtain ⟨rfl, rfl, rfl⟩ := trodAll_nil r0
  obtain rfl : args = #[v0] := by cases args; simp_all
  obtain ⟨rfl, rfl⟩ := trodVars_none hV
  have hk : Rows.uptoSmall H [d0] = true := hcond _ rfl
  have lt0 : ∀ x ∈ p0, x.block < W.heap.size := by obtain ⟨m, hm⟩ := h0; exact DataW.trod_lt m _ _ _ hm
  refine (walk (enc := enc) base v0 d0 p0 W (hval 0 29 v0 rfl rfl) h0 hk hL).mono fun e W' ⟨he, bel⟩ => ?_
  subst he
  exact ⟨_, rfl, _, _, _, [], _, [], hW', trodAll_mk1 (shut_bool Tryd.underlying4 _), (trodAll_cons_mk (Below.trod laidOut (by kernel_rfl) (of_decide_eq_true (by kernel_rfl)) h0 bel lt0) trodAll_mk0), rfl, bel.frame _, fun h => by cases h⟩

theorem said : Rows.LocksRowUptoSaid :=
  OpenClaim.holds_of_cond 7 Tryd.f7 rfl rfl rfl rfl rfl rfl rfl ⟨rfl, rfl, rfl, rfl, rfl⟩ rfl rfl rfl rfl rfl (by kernel_rfl) Tryd.func7 (by kernel_rfl)
    (of_decide_eq_true (by kernel_rfl)) (by unfold Func.isWrapper; first | (rw [if_pos (by decide +kernel)]; kernel_rfl) | (rw [if_neg (by decide +kernel)]; exact ⟨rfl, rfl⟩))
    (fun os started H enc _ F => by rw [OpenClaim.pre_eq_preRow]; exact lifted os started H enc F)
theorem plain (f : FuncId) (fn : Func) (hf : Tryd.pinned.checked.prog.funcNamed "hasp/hasplaw10.LocksRow" = some f) (hfn : Tryd.pinned.checked.prog.funcs[f]? = some fn) :
    false = Tryd.pinned.checked.prog.looks [] ∧ ∀ (j : Nat) t, fn.params[j]? = some t → Tryd.pinned.checked.prog.wantsStandIn t = false := by
  obtain rfl : f = 7 := Option.some.inj ((show Tryd.prog.funcNamed "hasp/hasplaw10.LocksRow" = some 7 by kernel_rfl).symm.trans hf) |>.symm
  obtain rfl : fn = Tryd.f7 := (Option.some.inj (Tryd.func7.symm.trans hfn)).symm
  refine ⟨by kernel_rfl, fun j t ht => ?_⟩
  rw [Tryd.params7] at ht
  have hm : t ∈ ([29] : List TypeId) := by simpa using Array.mem_of_getElem? ht
  have hall : (([29] : List TypeId).all fun u => !Tryd.prog.wantsStandIn u) = true := by kernel_rfl
  exact (show Tryd.prog.wantsStandIn t = false by simpa using List.all_eq_true.1 hall t hm)

theorem proved : Rows.LocksRowUptoCardSaid :=
  Claim7.holds_tied_plain_at .later [] _ _ _ _ said (fun _ h => by cases h) (by kernel_rfl) (fun _ h => by cases h) locksRowUpto_row_tie rfl ⟨rfl, rfl⟩ (by kernel_rfl) rfl plain (by kernel_rfl)
end Go.Proofs.YtochopjcdlblmaaDoor.locksRow
