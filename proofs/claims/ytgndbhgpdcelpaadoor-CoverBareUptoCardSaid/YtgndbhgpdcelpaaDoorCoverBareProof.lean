/-
  CoverBare answers true at any plan of a bulk of at most 1048576: a covered plan that opens a table isn't covered any more without its locks.
  Conditions: none but the row's own; the listed variables hold what the program's text lays (the card ties them).
-/
import Derived.Test.YtgndbhgpdcelpaaDoorCv20
import Derived.Test.YtgndbhgpdcelpaaDoorCards
import Derived.Test.YtgndbhgpdcelpaaDoorTie
import Derived.WalkKit
import Derived.ProofKit
import Derived.OpenShut
import Derived.ShutString
import Derived.ChangeOld
import Derived.Below
import Derived.Carry
import Derived.Deep.DeepHandedRow
import Derived.Deep.DeepWitnessRowRef
import Derived.Lib.LaidTab
namespace Go.Proofs.YtgndbhgpdcelpaaDoor.coverBare
open Go.ChangeShapes Go.WideShapes Go.ChangeAt Go.RowKit
open Go.Joins
set_option linter.unusedVariables false

theorem own : ownKnob Tryd.prog.godebug = none := by kernel_rfl
theorem laidOut : laidOutB Tryd.prog = true := by kernel_rfl

set_option maxRecDepth 100000 in

set_option maxHeartbeats 16000000 in
theorem walk {H : Type} {enc : TypeId × Value → H} (base : Nat) (v0 : Value) (d0 : DataW H) (p0 : List MemPlace) (W : World)
    (o0 : Value.okWide Tryd.prog W .any base 25 v0) (h0 : DataW.Trod enc Tryd.prog W 0 (fun _ => true) true 25 v0 d0 p0)
    (hk : Rows.uptoSmall H [d0] = true)
    (hL : laidMetH Tryd.prog Rows.coverBareUptoRow.laid W) :
    Calls Tryd.prog 6 #[v0] W fun e w' => e = .returned (.bool true) ∧ Below W.heap.size W w' := by
  obtain ⟨tb, a, cap, q, rfl, hr, hq, hcap⟩ := open_plan o0 h0 (up_arg hk (by simp))
  have hT := tabs_of_laid hL
  clear o0 h0 hk hL
  obtain ⟨n, hn⟩ : ∃ n, q.length = n := ⟨_, rfl⟩
  obtain ⟨W1, hW1⟩ : ∃ W1, W.alloc (.cells #[.string tb, .slice a n cap] 25) = W1 := ⟨_, rfl⟩
  obtain ⟨HB1, z0, z1, hz1, hbx1⟩ := ck_box hW1
  have HS := Lib.hid (speaks22_any W1 (hT.below HB1.out))
  have HT := Lib.hid (fun (V : World) (hV : Below W.heap.size W V) => hT.below hV)
  have HRA := Lib.hid (fun (V : World) (hV : Below W.heap.size W V) => hr.below hV)
  have HCK := Lib.hid (fun (V : World) (hV : Below W.heap.size W V) => check_any V (hT.below hV) tb a cap q (hr.below hV) (by omega) (by omega))
  have HCK2 := Lib.hid (fun (V : World) (hV : Below W.heap.size W V) (a' : Option Addr) (c' : Nat) (L : List Ins) (h : RowA V a' L) (hm : L.length ≤ 1048576) (hc : L.length ≤ c') => check_any V (hT.below hV) tb a' c' L h hm hc)
  rw [hn] at HCK hq hcap ⊢
  have HN := Lib.hid hn
  have HX1 := Lib.hid hbx1
  clear hT hr hn hbx1 z0 z1
  go_enter Tryd.func6, Tryd.ntmps6
  go_wp2_with fail
  refine HS.out.mono ?_
  rintro e w2 ⟨rfl, hb2⟩
  have HB2 := Lib.hid (btr HB1.out hb2 HB1.out.size)
  have HX2 := Lib.hid (HX1.out.below hb2)
  have x0 : w2.cell? ⟨W.heap.size, 0, none⟩ = some (.string tb) := HX2.out.cell rfl
  have x1 : w2.cell? ⟨W.heap.size, 1, none⟩ = some (.slice a n cap) := HX2.out.cell rfl
  obtain ⟨w3, hst, hb3, hbx3⟩ := put_P w2 tb none 0 0
  have HST := Lib.hid hst
  have HQ3 := Lib.hid (QS.start hbx3)
  have HW3 := Lib.hid (btr HB2.out hb3 HB2.out.size)
  have HX3 := Lib.hid (HX2.out.below hb3)
  have y3 : w3.cell? ⟨W.heap.size, 0, none⟩ = some (.string tb) := HX3.out.cell rfl
  have y4 : w3.cell? ⟨W.heap.size, 1, none⟩ = some (.slice a n cap) := HX3.out.cell rfl
  have HLT := Lib.hid (show W.heap.size < w2.heap.size by have := HX2.out.lt; exact this)
  have HFL := Lib.hid (show (q.take n).filter (fun x => !(x.op == 1)) = q.filter (fun x => !(x.op == 1)) by rw [← HN.out, List.take_length])
  obtain ⟨g, hg⟩ : ∃ g, w2.heap.size = g := ⟨_, rfl⟩
  rw [hg] at HST HQ3 HLT
  clear hb2 HS hbx3 hst hb3
  go_wp2_with (refine wpSt rfl _ _ rfl rfl rfl HST.out ?_; clear HST)
  go_loopw [3, 5, 17] (fun o m i wr => ∃ (k : Nat) (v : Value), k ≤ n ∧ i = .int .i64 k ∧ o = .int .i64 (cnL [2] (q.take k)) ∧ m = .int .i64 (cnL [1] (q.take k)) ∧ Hid (QS w3 wr g tb v ((q.take k).filter nlB))) (fun _ _ i _ => n - (intOf i).toNat)
  case atStart => exact ⟨0, _, Nat.zero_le _, rfl, rfl, rfl, HQ3⟩
  case round =>
    obtain ⟨k, v, hk, rfl, rfl, rfl, HQ⟩ := hrel
    have hle1 := Nat.le_trans (cnL_le [1] (q.take k)) (List.length_take_le k q)
    have hle2 := Nat.le_trans (cnL_le [2] (q.take k)) (List.length_take_le k q)
    have HLL := Lib.hid (Nat.le_trans (List.length_filter_le nlB (q.take k)) (List.length_take_le k q))
    obtain ⟨M1, hM1⟩ : ∃ M, cnL [1] (q.take k) = M := ⟨_, rfl⟩
    obtain ⟨M2, hM2⟩ : ∃ M, cnL [2] (q.take k) = M := ⟨_, rfl⟩
    obtain ⟨L, hL⟩ : ∃ L, (q.take k).filter nlB = L := ⟨_, rfl⟩
    rw [hM1] at hle1 ⊢
    rw [hM2] at hle2 ⊢
    rw [hL] at HQ HLL
    have HM1 := Lib.hid hM1
    have HM2 := Lib.hid hM2
    have HL := Lib.hid hL
    have HBW := Lib.hid (HQ.out.bel HW3.out (Nat.le_of_lt HLT.out))
    clear hM1 hM2 hL
    by_cases c : k < n
    · have c1 : (k : Int) < (n : Int) := by omega
      obtain ⟨x, hl⟩ : ∃ l, q[k]? = some l := ⟨_, List.getElem?_eq_getElem (by rw [HN.out]; exact c)⟩
      obtain ⟨gb, off, rfl, -, hra⟩ := RowA.at (HRA.out wr HBW.out) hl
      have HLD := Lib.hid (ld_I hra)
      obtain ⟨wz, hst, hbz, hbx⟩ := put_I wr x
      have HST := Lib.hid hst
      have HQZ := Lib.hid (HQ.out.below hbz)
      obtain ⟨f0, -, -, -, -, -, -⟩ := n14 hbx
      have HLX := Lib.hid (ld_I (b := wr.heap.size) (o := 0) (x := x) fun j v hj => by rw [Nat.zero_add]; exact hbx.cell (by simpa using hj))
      have HTK := Lib.hid (take_snoc' hl)
      have HC1 := Lib.hid (cnL_snoc [1] x (q.take k))
      have HC2 := Lib.hid (cnL_snoc [2] x (q.take k))
      have HNL := Lib.hid (nl_snoc x (q.take k))
      have g0 : wz.cell? ⟨g, 0, none⟩ = some (.string tb) := HQZ.out.bx.cell rfl
      have g1 : wz.cell? ⟨g, 1, none⟩ = some v := HQZ.out.bx.cell rfl
      have hb1 : (M1 : Int) ≤ 100000 := by omega
      have hb2 : (M2 : Int) ≤ 100000 := by omega
      obtain ⟨X, hX⟩ : ∃ X, x.val = X := ⟨_, rfl⟩
      rw [hX] at HST HLD
      unfold Ins.val at HLX
      clear hl hra hX hst hbz hbx
      cases h1 : x.op == 1 with
      | true =>
        have e1 : cnL [1] (q.take (k + 1)) = M1 + 1 := by rw [HTK.out, HC1.out, one_any, h1, HM1.out]; rfl
        have e2 : cnL [2] (q.take (k + 1)) = M2 := by
          have h2 : (x.op == 2) = false := by rw [beq_iff_eq] at h1; rw [h1]; rfl
          rw [HTK.out, HC2.out, one_any, h2, HM2.out]; rfl
        have e3 : (q.take (k + 1)).filter nlB = L := by rw [HTK.out, HNL.out, HL.out, nlB, h1]; rfl
        have E1 := Lib.hid e1
        have E2 := Lib.hid e2
        have E3 := Lib.hid e3
        clear e1 e2 e3
        go_wp2_with (first | (refine wpLd rfl _ rfl rfl HLD.out ?_; clear HLD) | (refine wpSt rfl _ _ rfl rfl rfl HST.out ?_; clear HST))
        go_roundw
        case rel => exact ⟨k + 1, v, by omega, by go_num, by rw [E2.out], by rw [E1.out]; go_num, by rw [E3.out]; exact HQZ⟩
        case measure => simp [intOf]; omega
      | false =>
        have HBC := Lib.hid (HQZ.out.below (show Below wz.heap.size wz (wz.alloc (.cells #[.int .i64 x.op, .int .i64 x.c, .int .i64 x.jt, .int .i64 x.mode, .int .i64 x.part, .string x.tab, .int .i64 x.idx, .slice x.lo.a x.lo.n x.lo.c, .slice x.hi.a x.hi.n x.hi.c, .bool x.lx, .bool x.hx, .slice x.e.a x.e.n x.e.c, .int .i64 x.n, .slice x.ds.a x.ds.n x.ds.c] 33)) from (Below.refl _ _).alloc (Nat.le_refl _) _))
        have HNW := Lib.hid (ins_new wz x)
        have HSZ := Lib.hid HBC.out.fr.size
        have HLN := Lib.hid (show L.length + 1 ≤ 4294967297 by have := HLL.out; omega)
        have e1 : cnL [1] (q.take (k + 1)) = M1 := by rw [HTK.out, HC1.out, one_any, h1, HM1.out]; rfl
        have e3 : (q.take (k + 1)).filter nlB = L ++ [x] := by rw [HTK.out, HNL.out, HL.out, nlB, h1]; rfl
        have E1 := Lib.hid e1
        have E3 := Lib.hid e3
        clear e1 e3
        cases h2 : x.op == 2 with
        | true =>
          have E2 := Lib.hid (show cnL [2] (q.take (k + 1)) = M2 + 1 by rw [HTK.out, HC2.out, one_any, h2, HM2.out]; rfl)
          go_wp2_with (first | (refine wpLd rfl _ rfl rfl HLD.out ?_; clear HLD) | (refine wpSt rfl _ _ rfl rfl rfl HST.out ?_; clear HST) | (refine wpLd rfl _ rfl rfl HLX.out ?_; clear HLX) | (at_builtin; refine OwR.wp (K := KI) rfl _ _ rfl w3.heap.size v _ rfl HBC.out.own HSZ.out ⟨_, 0, none⟩ 1 _ [x] rfl rfl HNW.out HLN.out ?_; intro v' w6 q6 g6 n6; obtain ⟨va, vc, hve, -, -⟩ := q6.sl; rw [List.length_append, show [x].length = 1 from rfl] at hve; subst hve; have hm6 := HBC.out.mid g6; have k0 : w6.cell? ⟨g, 0, none⟩ = some (.string tb) := hm6.cell rfl; have k1 : w6.cell? ⟨g, 1, none⟩ = some v := hm6.cell rfl; have k2 : w6.frozen? ⟨g, 1, none⟩ = false := hm6.frz 1; have HK6 := Lib.hid (HBC.out.push q6 g6); clear q6 g6 n6 hm6))
          go_roundw
          case rel => exact ⟨k + 1, _, by omega, by go_num, by rw [E2.out]; go_num, by rw [E1.out], by rw [E3.out]; exact HK6⟩
          case measure => simp [intOf]; omega
        | false =>
          have E2 := Lib.hid (show cnL [2] (q.take (k + 1)) = M2 by rw [HTK.out, HC2.out, one_any, h2, HM2.out]; rfl)
          go_wp2_with (first | (refine wpLd rfl _ rfl rfl HLD.out ?_; clear HLD) | (refine wpSt rfl _ _ rfl rfl rfl HST.out ?_; clear HST) | (refine wpLd rfl _ rfl rfl HLX.out ?_; clear HLX) | (at_builtin; refine OwR.wp (K := KI) rfl _ _ rfl w3.heap.size v _ rfl HBC.out.own HSZ.out ⟨_, 0, none⟩ 1 _ [x] rfl rfl HNW.out HLN.out ?_; intro v' w6 q6 g6 n6; obtain ⟨va, vc, hve, -, -⟩ := q6.sl; rw [List.length_append, show [x].length = 1 from rfl] at hve; subst hve; have hm6 := HBC.out.mid g6; have k0 : w6.cell? ⟨g, 0, none⟩ = some (.string tb) := hm6.cell rfl; have k1 : w6.cell? ⟨g, 1, none⟩ = some v := hm6.cell rfl; have k2 : w6.frozen? ⟨g, 1, none⟩ = false := hm6.frz 1; have HK6 := Lib.hid (HBC.out.push q6 g6); clear q6 g6 n6 hm6))
          go_roundw
          case rel => exact ⟨k + 1, _, by omega, by go_num, by rw [E2.out], by rw [E1.out], by rw [E3.out]; exact HK6⟩
          case measure => simp [intOf]; omega
    · obtain rfl : k = n := by omega
      have cf : decide ((k : Int) < (k : Int)) = false := by simp
      have HLQ := Lib.hid (show q.filter nlB = L by rw [← HL.out, ← HN.out, List.take_length])
      have HM2Q := Lib.hid (show cnL [2] q = M2 by rw [← HM2.out, ← HN.out, List.take_length])
      have HXR := Lib.hid (HQ.out.old HX3.out (by have := HLT.out; omega))
      have k0 : wr.cell? ⟨W.heap.size, 0, none⟩ = some (.string tb) := HXR.out.cell rfl
      have k1 : wr.cell? ⟨W.heap.size, 1, none⟩ = some (.slice a k cap) := HXR.out.cell rfl
      have HC5 := Lib.hid (HCK.out wr HBW.out)
      obtain ⟨B, hB⟩ : ∃ B, ckB tb q = B := ⟨_, rfl⟩
      rw [hB] at HC5
      have HBB := Lib.hid hB
      clear hB HCK
      go_wp2_with fail
      refine HC5.out.mono ?_
      rintro e w5 ⟨rfl, hb5⟩
      have HQ5 := Lib.hid (HQ.out.below hb5)
      have HB5 := Lib.hid (btr HBW.out hb5 HBW.out.size)
      clear hb5 HC5
      cases B with
      | false =>
        rw [show erI false = 240 from rfl]
        go_wp2_with fail
        go_ret
        exact ⟨rfl, HB5.out⟩
      | true =>
        rw [show erI true = 0 from rfl]
        by_cases c2 : M2 = 0
        · have e1 : ((M2 : Int) == 0) = true := by rw [c2]; rfl
          go_wp2_with fail
          go_ret
          exact ⟨rfl, HB5.out⟩
        · have e1 : ((M2 : Int) == 0) = false := by simp; omega
          by_cases c3 : M1 = 0
          · have e2 : ((M1 : Int) == 0) = true := by rw [c3]; rfl
            go_wp2_with fail
            go_ret
            exact ⟨rfl, HB5.out⟩
          · have e2 : ((M1 : Int) == 0) = false := by simp; omega
            have HBA := Lib.hid (fun (L' : List Ins) (h : SameK L L') => bare_all tb (q := q) (L' := L') (by rw [HLQ.out]; exact h) HBB.out (by rw [HM2Q.out]; exact c2))
            obtain ⟨gr, cr, cur, rfl, hgb, hgc, hll, hcm, -, -⟩ : ∃ (gr cr : Nat) (cur : List Value), v = .slice (some ⟨gr, 0, none⟩) L.length cr ∧ w3.heap.size ≤ gr ∧ w5.heap[gr]? = some (.cells cur.toArray KI.te (0, 0)) ∧ L.length ≤ cr ∧ cr ≤ maxLen ∧ cur.length = cr * KI.n ∧ cur.take (L.length * KI.n) = KI.cells L := by
              rcases HQ5.out.own.cases with ⟨-, rfl⟩ | h
              · have h9 := HBA.out [] (SameK.refl [])
                exfalso
                have : cnL [2] q = 0 := by
                  unfold cnL
                  rw [List.length_eq_zero_iff, List.filter_eq_nil_iff]
                  intro y hy h2
                  have h3 : y ∈ q.filter nlB := List.mem_filter.2 ⟨hy, by
                    have h4 : (y.op == 2) = true := by simpa using h2
                    rw [beq_iff_eq] at h4
                    unfold nlB; rw [h4]; rfl⟩
                  rw [HLQ.out] at h3
                  cases h3
                rw [HM2Q.out] at this
                exact c2 this
              · exact h
            obtain ⟨a5, c5, he5, hr5⟩ := RowA.own HQ5.out.own
            injection he5 with he5 _ he6
            subst he5 he6
            have HR5 := Lib.hid hr5
            have HX5 := Lib.hid HQ5.out.bx
            have HFZ := Lib.hid (fun o => unfrozen_of_block hgc o)
            have HGB := Lib.hid (show gr ≠ g ∧ W.heap.size ≤ gr by
              have h1 := HQ5.out.lt
              have h2 := HW3.out.size
              omega)
            have HLC := Lib.hid hll
            obtain ⟨nl, hnl⟩ : ∃ nl, L.length = nl := ⟨_, rfl⟩
            rw [hnl] at HX5 HLC HLL
            have HNL := Lib.hid hnl
            have hnl2 := HLL.out
            clear hr5 hgb hgc hll hcm HQ5 HQ hnl
            have j1 : w5.cell? ⟨g, 1, none⟩ = some (.slice (some ⟨gr, 0, none⟩) nl cr) := HX5.out.cell rfl
            go_wp2_with fail
            go_loopw [52] (fun i wx => ∃ (j : Nat) (L' : List Ins), j ≤ nl ∧ i = .int .i64 j ∧ Hid (RowA wx (some ⟨gr, 0, none⟩) L') ∧ Hid (SameK L L') ∧ Hid (Bx wx g #[.string tb, .slice (some ⟨gr, 0, none⟩) nl cr] 25) ∧ Hid (Below W.heap.size W wx) ∧ Hid (∀ o, wx.frozen? ⟨gr, o, none⟩ = false)) (fun i _ => nl - (intOf i).toNat)
            case atStart => exact ⟨0, L, Nat.zero_le _, rfl, HR5, SameK.refl L, HX5, HB5, HFZ⟩
            case round =>
              obtain ⟨j, L', hj, rfl, HR6, HK6, HX6, HB6, HF6⟩ := hrel
              have j0 := HX6.out.cell (o := 0) (v := .string tb) rfl
              have j2 := HX6.out.cell (o := 1) (v := .slice (some ⟨gr, 0, none⟩) nl cr) rfl
              by_cases cj : j < nl
              · have cj1 : (j : Int) < (nl : Int) := by omega
                obtain ⟨x, hx⟩ := lt_some (l := L') (i := j) (by rw [HK6.out.1, HNL.out]; exact cj)
                obtain ⟨gb, off, e9, hlt9, hra⟩ := RowA.at HR6.out hx
                injection e9 with e9
                injection e9 with e9 e10
                subst e9 e10
                have f2 : wr.cell? ⟨gr, j * 14 + 2, none⟩ = some (.int .i64 x.jt) := by
                  have := hra 2 _ rfl
                  rwa [Nat.zero_add] at this
                have f3 : wr.frozen? ⟨gr, j * 14 + 2, none⟩ = false := HF6.out _
                have HX := Lib.hid hx
                clear hx hra hlt9
                by_cases cge : (M1 : Int) ≤ x.jt
                · have HSET := Lib.hid (fun z => HR6.out.set HX.out z)
                  have HSK := Lib.hid (fun z => HK6.out.set HX.out z)
                  have HXS := Lib.hid (show ∀ z, Bx (wr.setCell ⟨gr, j * 14 + 2, none⟩ z) g #[.string tb, .slice (some ⟨gr, 0, none⟩) nl cr] 25 from fun z => by
                    show (wr.setCell ⟨gr, j * 14 + 2, none⟩ z).heap[g]? = _
                    rw [heap_setCell_other wr ⟨gr, j * 14 + 2, none⟩ g z (fun e => HGB.out.1 e.symm)]
                    exact HX6.out)
                  have HBS := Lib.hid (fun z => Below.setCell (p := ⟨gr, j * 14 + 2, none⟩) HB6.out HGB.out.2 z)
                  have HFS := Lib.hid (fun z o => show (wr.setCell ⟨gr, j * 14 + 2, none⟩ z).frozen? ⟨gr, o, none⟩ = false by simpa using HF6.out o)
                  go_wp2_with fail
                  go_roundw
                  case rel =>
                    refine ⟨j + 1, _, by omega, by go_num, ?_, HSK.out (wrap64 (x.jt - M1)), HXS.out _, HBS.out _, HFS.out _⟩
                    have h9 := HSET.out (wrap64 (x.jt - M1))
                    simp only [Nat.zero_add] at h9
                    exact h9
                  case measure => simp [intOf]; omega
                · go_wp2_with fail
                  go_roundw
                  case rel => exact ⟨j + 1, L', by omega, by go_num, HR6, HK6, HX6, HB6, HF6⟩
                  case measure => simp [intOf]; omega
              · obtain rfl : j = nl := by omega
                have cf2 : decide ((j : Int) < (j : Int)) = false := by simp
                have HL' := Lib.hid (show L'.length = j from HK6.out.1.trans HNL.out)
                have HC9 := Lib.hid (HCK2.out wr HB6.out (some ⟨gr, 0, none⟩) cr L' HR6.out (by rw [HL'.out]; omega) (by rw [HL'.out]; exact HLC.out))
                rw [HL'.out, HBA.out L' HK6.out, show erI false = 240 from rfl] at HC9
                go_wp2_with fail
                refine HC9.out.mono ?_
                rintro e w9 ⟨rfl, hb9⟩
                have HB9 := Lib.hid (btr HB6.out hb9 HB6.out.size)
                clear hb9
                go_wp2_with fail
                go_ret
                exact ⟨rfl, HB9.out⟩

/-- a world for the witness: the listed variables hold what is laid -/
noncomputable def laidWorld (os : Os) : World :=
  { World.holding Tryd.prog os ⟨#[], #[], []⟩ with heap := ((World.holding Tryd.prog os ⟨#[], #[], []⟩).heap.modify 0 fun
      | .cells _ t frozen => .cells #[.bool true, .bool false, .bool false, .bool false, .bool false, .bool false, .bool false, .bool true, .bool true, .bool false, .bool false, .bool false, .bool false, .bool false, .bool true, .bool true, .bool true, .bool false, .bool false, .bool false, .bool false, .bool true, .bool true, .bool false, .bool true, .bool false, .bool false, .bool false, .bool true, .bool true, .bool true, .bool true, .bool true, .bool false, .bool false, .bool true, .bool true, .bool false, .bool true, .bool false, .bool true, .bool false, .bool true, .bool true, .bool true, .bool true, .bool true, .bool true, .bool true] t frozen
      | o => o) }
theorem laid_met (os : Os) : laidMetH Tryd.prog Rows.coverBareUptoRow.laid ((laidWorld os).forCall (fun _ _ => 0) ⟨#[], #[.agg #[.string ByteArray.empty, .slice none 0 0]], []⟩).memory :=
  laidMet_of_run' 8 (by kernel_rfl) (by kernel_rfl)
theorem reads (os : Os) {H : Type} (enc : TypeId × Value → H) : ∃ places, DataW.whole enc Tryd.prog ((laidWorld os).forCall (fun _ _ => 0) ⟨#[], #[.agg #[.string ByteArray.empty, .slice none 0 0]], []⟩).memory Tryd.f6.params.toList Rows.coverBareSpec.vars false (#[.agg #[.string ByteArray.empty, .slice none 0 0]] : Array Value).toList 8 = some ([.agg [.lit (.string []), .nil]], [], places) :=
  ⟨[], by kernel_rfl⟩

set_option maxRecDepth 100000 in
theorem lifted (os : Os) (started : os.Started) (H : Type) (enc : TypeId × Value → H) (F : Stop.Interp) :
    ReturnsInHanded {} Tryd.checked os 6 .any ((Rows.OpenSpec.upto Rows.coverBareSpec).preRow enc Tryd.prog Tryd.f6 Rows.coverBareUptoRow.domain false Rows.coverBareUptoRow.laid) (((Rows.OpenSpec.upto Rows.coverBareSpec).at F).post enc Tryd.prog Tryd.f6 false true false false) := by
  obtain ⟨places, hx⟩ := reads os enc
  refine returnsInHanded_of_row (C := Tryd.checked) (s := (Rows.OpenSpec.upto Rows.coverBareSpec)) own started (by kernel_rfl) Tryd.func6
    (witness_row_at (enc := enc) (C := Tryd.checked) false (laidWorld os) #[.agg #[.string ByteArray.empty, .slice none 0 0]] rfl (by kernel_rfl) (by kernel_rfl) (by kernel_rfl)
      (OpenSpec.preRow_of_cond 8 hx (by kernel_rfl) (fun k hk => by cases hk; kernel_rfl) (by kernel_rfl) (laid_met os))) ?_
  intro W base args ds gs before hval0 hW _ hcond _ hL _ _
  have hval : ∀ (j : Nat) t v, Tryd.f6.params[j]? = some t → args[j]? = some v → Value.okWide Tryd.prog W .any base t v := hval0
  have hW' := hW
  obtain ⟨p, q, hA0, hV, rfl, hfz, hnd⟩ := hW
  have hA : DataW.TrodAll enc Tryd.prog W 0 (fun _ => true) true Tryd.f6.params.toList args.toList ds p := hA0
  rw [Tryd.params6] at hA hval
  obtain ⟨v0, vs0, d0, ds0, p0, q0, hargs, rfl, rfl, h0, r0⟩ := trodAll_cons hA
  obtain ⟨rfl, rfl, rfl⟩ := trodAll_nil r0
  obtain rfl : args = #[v0] := by cases args; simp_all
  obtain ⟨rfl, rfl⟩ := trodVars_none hV
  have hk : Rows.uptoSmall H [d0] = true := hcond _ rfl
  have lt0 : ∀ x ∈ p0, x.block < W.heap.size := by obtain ⟨m, hm⟩ := h0; exact DataW.trod_lt m _ _ _ hm
  refine (walk (enc := enc) base v0 d0 p0 W (hval 0 25 v0 rfl rfl) h0 hk hL).mono fun e W' ⟨he, bel⟩ => ?_
  subst he
  exact ⟨_, rfl, _, _, _, [], _, [], hW', trodAll_mk1 (shut_bool Tryd.underlying4 _), (trodAll_cons_mk (Below.trod laidOut (by kernel_rfl) (of_decide_eq_true (by kernel_rfl)) h0 bel lt0) trodAll_mk0), rfl, bel.frame _, fun h => by cases h⟩

theorem said : Rows.CoverBareUptoSaid :=
  OpenClaim.holds_of_cond 6 Tryd.f6 rfl rfl rfl rfl rfl rfl rfl ⟨rfl, rfl, rfl, rfl, rfl⟩ rfl rfl rfl rfl rfl (by kernel_rfl) Tryd.func6 (by kernel_rfl)
    (of_decide_eq_true (by kernel_rfl)) (by unfold Func.isWrapper; first | (rw [if_pos (by decide +kernel)]; kernel_rfl) | (rw [if_neg (by decide +kernel)]; exact ⟨rfl, rfl⟩))
    (fun os started H enc _ F => by rw [OpenClaim.pre_eq_preRow]; exact lifted os started H enc F)
theorem plain (f : FuncId) (fn : Func) (hf : Tryd.pinned.checked.prog.funcNamed "hasp/hasplaw22.CoverBare" = some f) (hfn : Tryd.pinned.checked.prog.funcs[f]? = some fn) :
    false = Tryd.pinned.checked.prog.looks [] ∧ ∀ (j : Nat) t, fn.params[j]? = some t → Tryd.pinned.checked.prog.wantsStandIn t = false := by
  obtain rfl : f = 6 := Option.some.inj ((show Tryd.prog.funcNamed "hasp/hasplaw22.CoverBare" = some 6 by kernel_rfl).symm.trans hf) |>.symm
  obtain rfl : fn = Tryd.f6 := (Option.some.inj (Tryd.func6.symm.trans hfn)).symm
  refine ⟨by kernel_rfl, fun j t ht => ?_⟩
  rw [Tryd.params6] at ht
  have hm : t ∈ ([25] : List TypeId) := by simpa using Array.mem_of_getElem? ht
  have hall : (([25] : List TypeId).all fun u => !Tryd.prog.wantsStandIn u) = true := by kernel_rfl
  exact (show Tryd.prog.wantsStandIn t = false by simpa using List.all_eq_true.1 hall t hm)

theorem proved : Rows.CoverBareUptoCardSaid :=
  Claim7.holds_tied_plain_at .later [] _ _ _ _ said (fun _ h => by cases h) (by kernel_rfl) (fun _ h => by cases h) coverBareUpto_row_tie rfl ⟨rfl, rfl⟩ (by kernel_rfl) rfl plain (by kernel_rfl)
end Go.Proofs.YtgndbhgpdcelpaaDoor.coverBare
