/-
  CoverStronger answers true at any plan, text and number of a bulk of at most 1048576: a covered plan stays so when all its modes become X, and when it is locked more at its beginning.
  Conditions: none but the row's own; the listed variables hold what the program's text lays (the card ties them).
-/
import Derived.Test.YtgndbhgpdcelpaaDoorCv22
import Derived.Test.YtgndbhgpdcelpaaDoorCards
import Derived.Test.YtgndbhgpdcelpaaDoorTie
import Derived.WalkKit
import Derived.ProofKit
import Derived.OpenShut
import Derived.ShutString
import Derived.ChangeOld
import Derived.Below
import Derived.Carry
import Derived.Deep.DeepHandedRow
import Derived.Deep.DeepWitnessRowRef
import Derived.Lib.LaidTab
namespace Go.Proofs.YtgndbhgpdcelpaaDoor.coverStronger
open Go.ChangeShapes Go.WideShapes Go.ChangeAt Go.RowKit
open Go.Joins
set_option linter.unusedVariables false

theorem own : ownKnob Tryd.prog.godebug = none := by kernel_rfl
theorem laidOut : laidOutB Tryd.prog = true := by kernel_rfl

set_option maxRecDepth 100000 in

set_option maxHeartbeats 16000000 in
theorem walk {H : Type} {enc : TypeId × Value → H} (base : Nat) (v0 : Value) (d0 : DataW H) (p0 : List MemPlace) (v1 : Value) (d1 : DataW H) (p1 : List MemPlace) (v2 : Value) (d2 : DataW H) (p2 : List MemPlace) (W : World)
    (o0 : Value.okWide Tryd.prog W .any base 25 v0) (h0 : DataW.Trod enc Tryd.prog W 0 (fun _ => true) true 25 v0 d0 p0)
    (o1 : Value.okWide Tryd.prog W .any base 9 v1) (h1 : DataW.Trod enc Tryd.prog W 0 (fun _ => true) true 9 v1 d1 p1)
    (o2 : Value.okWide Tryd.prog W .any base 3 v2) (h2 : DataW.Trod enc Tryd.prog W 0 (fun _ => true) true 3 v2 d2 p2)
    (hk : Rows.uptoSmall H [d0, d1, d2] = true)
    (hL : laidMetH Tryd.prog Rows.coverStrongerUptoRow.laid W) :
    Calls Tryd.prog 5 #[v0, v1, v2] W fun e w' => e = .returned (.bool true) ∧ Below W.heap.size W w' := by
  obtain ⟨tb, a, cap, q, rfl, hr, hq, hcap⟩ := open_plan o0 h0 (up_arg hk (by simp))
  obtain ⟨t, rfl⟩ := okWide_string Tryd.underlying9 o1
  obtain ⟨mz, rfl⟩ := okWide_int Tryd.underlying3 o2
  have hT := tabs_of_laid hL
  clear o0 h0 hk hL o1 h1 o2 h2
  obtain ⟨n, hn⟩ : ∃ n, q.length = n := ⟨_, rfl⟩
  obtain ⟨W1, hW1⟩ : ∃ W1, W.alloc (.cells #[.string tb, .slice a n cap] 25) = W1 := ⟨_, rfl⟩
  obtain ⟨HB1, z0, z1, hz1, hbx1⟩ := ck_box hW1
  have HS := Lib.hid (speaks22_any W1 (hT.below HB1.out))
  have HRA := Lib.hid (fun (V : World) (hV : Below W.heap.size W V) => hr.below hV)
  have HCK := Lib.hid (fun (V : World) (hV : Below W.heap.size W V) => check_any V (hT.below hV) tb a cap q (hr.below hV) (by omega) (by omega))
  have HCK2 := Lib.hid (fun (V : World) (hV : Below W.heap.size W V) (a' : Option Addr) (c' : Nat) (L : List Ins) (h : RowA V a' L) (hm : L.length ≤ 1048576) (hc : L.length ≤ c') => check_any V (hT.below hV) tb a' c' L h hm hc)
  rw [hn] at HCK hq hcap ⊢
  have HN := Lib.hid hn
  have HX1 := Lib.hid hbx1
  clear hT hr hn hbx1 z0 z1
  go_enter Tryd.func5, Tryd.ntmps5
  go_wp2_with fail
  refine HS.out.mono ?_
  rintro e w2 ⟨rfl, hb2⟩
  have HB2 := Lib.hid (btr HB1.out hb2 HB1.out.size)
  have HX2 := Lib.hid (HX1.out.below hb2)
  have x0 : w2.cell? ⟨W.heap.size, 0, none⟩ = some (.string tb) := HX2.out.cell rfl
  have x1 : w2.cell? ⟨W.heap.size, 1, none⟩ = some (.slice a n cap) := HX2.out.cell rfl
  have HC2 := Lib.hid (HCK.out w2 HB2.out)
  obtain ⟨B, hB⟩ : ∃ B, ckB tb q = B := ⟨_, rfl⟩
  rw [hB] at HC2
  have HBB := Lib.hid hB
  clear hb2 HS hB HCK
  go_wp2_with fail
  refine HC2.out.mono ?_
  rintro e w5 ⟨rfl, hb5⟩
  have HB5 := Lib.hid (btr HB2.out hb5 HB2.out.size)
  have HX5 := Lib.hid (HX2.out.below hb5)
  clear hb5 HC2
  cases B with
  | false =>
    rw [show erI false = 240 from rfl]
    go_wp2_with fail
    go_ret
    exact ⟨rfl, HB5.out⟩
  | true =>
    rw [show erI true = 0 from rfl]
    have v0 : w5.cell? ⟨W.heap.size, 0, none⟩ = some (.string tb) := HX5.out.cell rfl
    have v1 : w5.cell? ⟨W.heap.size, 1, none⟩ = some (.slice a n cap) := HX5.out.cell rfl
    obtain ⟨w3, hst, hb3, hbx3⟩ := put_P w5 tb none 0 0
    have HST := Lib.hid hst
    have HQ3 := Lib.hid (QT.start hbx3)
    have HW3 := Lib.hid (btr HB5.out hb3 HB5.out.size)
    have HX3 := Lib.hid (HX5.out.below hb3)
    have y3 : w3.cell? ⟨W.heap.size, 0, none⟩ = some (.string tb) := HX3.out.cell rfl
    have y4 : w3.cell? ⟨W.heap.size, 1, none⟩ = some (.slice a n cap) := HX3.out.cell rfl
    have HLT := Lib.hid (show W.heap.size < w5.heap.size from HX5.out.lt)
    obtain ⟨g, hg⟩ : ∃ g, w5.heap.size = g := ⟨_, rfl⟩
    rw [hg] at HST HQ3 HLT
    clear hbx3 hst hb3
    go_wp2_with (refine wpSt rfl _ _ rfl rfl rfl HST.out ?_; clear HST)
    go_loopw [24] (fun i wr => ∃ (k : Nat) (v : Value), k ≤ n ∧ i = .int .i64 k ∧ Hid (QT w3.heap.size w3 wr g tb v ((q.take k).map strong))) (fun i _ => n - (intOf i).toNat)
    case atStart => exact ⟨0, _, Nat.zero_le _, rfl, HQ3⟩
    case round =>
      obtain ⟨k, v, hk, rfl, HQ⟩ := hrel
      have HLL := Lib.hid (show ((q.take k).map strong).length ≤ k by rw [List.length_map]; exact List.length_take_le k q)
      obtain ⟨L, hL⟩ : ∃ L, (q.take k).map strong = L := ⟨_, rfl⟩
      rw [hL] at HQ HLL
      have HL := Lib.hid hL
      have HBW := Lib.hid (HQ.out.bel HW3.out (Nat.le_of_lt HLT.out) HW3.out.size)
      clear hL
      by_cases c : k < n
      · have c1 : (k : Int) < (n : Int) := by omega
        obtain ⟨x, hl⟩ : ∃ l, q[k]? = some l := ⟨_, List.getElem?_eq_getElem (by rw [HN.out]; exact c)⟩
        obtain ⟨gb, off, rfl, -, hra⟩ := RowA.at (HRA.out wr HBW.out) hl
        have HLD := Lib.hid (ld_I hra)
        obtain ⟨wz, hst, hbz, hbx⟩ := put_I wr x
        have HST := Lib.hid hst
        obtain ⟨f0, -, -, f3, f4, -, -⟩ := n14 hbx
        have fz3 : wz.frozen? ⟨wr.heap.size, 3, none⟩ = false := hbx.frz 3
        have fz4 : wz.frozen? ⟨wr.heap.size, 4, none⟩ = false := hbx.frz 4
        have E3 := Lib.hid (map_snoc (f := strong) hl)
        obtain ⟨X, hX⟩ : ∃ X, x.val = X := ⟨_, rfl⟩
        rw [hX] at HST HLD
        clear hl hra hX hst
        rcases st_cases x with ⟨h1, hs⟩ | ⟨h1, hs⟩ | ⟨h1, h3, hs⟩
        · obtain ⟨hbxm, hbm⟩ := strong_box hbz hbx hs
          obtain ⟨wm, hwm⟩ : ∃ wm, ((wz.setCell ⟨wr.heap.size, 3, none⟩ (.int .i64 6)).setCell ⟨wr.heap.size, 4, none⟩ (.int .i64 6)) = wm := ⟨_, rfl⟩
          rw [hwm] at hbxm hbm
          obtain ⟨y, hy⟩ : ∃ y, strong x = y := ⟨_, rfl⟩
          rw [hy] at hbxm E3
          have HLX := Lib.hid (ld_I (b := wr.heap.size) (o := 0) (x := y) fun j v hj => by rw [Nat.zero_add]; exact hbxm.cell (by simpa using hj))
          unfold Ins.val at HLX
          have HQM := Lib.hid (HQ.out.below hbm)
          have HBC := Lib.hid (HQM.out.below (show Below wm.heap.size wm (wm.alloc (.cells #[.int .i64 y.op, .int .i64 y.c, .int .i64 y.jt, .int .i64 y.mode, .int .i64 y.part, .string y.tab, .int .i64 y.idx, .slice y.lo.a y.lo.n y.lo.c, .slice y.hi.a y.hi.n y.hi.c, .bool y.lx, .bool y.hx, .slice y.e.a y.e.n y.e.c, .int .i64 y.n, .slice y.ds.a y.ds.n y.ds.c] 33)) from (Below.refl _ _).alloc (Nat.le_refl _) _))
          have HNW := Lib.hid (ins_new wm y)
          have HSZ := Lib.hid (Nat.le_trans HBC.out.hb HBC.out.fr.size)
          have HLN := Lib.hid (show L.length + 1 ≤ 4294967297 by have := HLL.out; omega)
          have g0 : wm.cell? ⟨g, 0, none⟩ = some (.string tb) := HQM.out.bx.cell rfl
          have g1 : wm.cell? ⟨g, 1, none⟩ = some v := HQM.out.bx.cell rfl
          clear hbxm hbm hbz hbx hy
          try clear hs
          go_wp2_with (first | (refine wpLd rfl _ rfl rfl HLD.out ?_; clear HLD) | (refine wpSt rfl _ _ rfl rfl rfl HST.out ?_; clear HST) | (refine wpLd rfl _ rfl rfl HLX.out ?_; clear HLX) | (at_builtin; refine OwR.wp (K := KI) rfl _ _ rfl w3.heap.size v _ rfl HBC.out.own HSZ.out ⟨_, 0, none⟩ 1 _ [y] rfl rfl HNW.out HLN.out ?_; intro v' w6 q6 g6 n6; obtain ⟨va, vc, hve, -, -⟩ := q6.sl; rw [List.length_append, show [y].length = 1 from rfl] at hve; subst hve; have hm6 := HBC.out.mid g6; have k0 : w6.cell? ⟨g, 0, none⟩ = some (.string tb) := hm6.cell rfl; have k1 : w6.cell? ⟨g, 1, none⟩ = some v := hm6.cell rfl; have k2 : w6.frozen? ⟨g, 1, none⟩ = false := hm6.frz 1; have HK6 := Lib.hid (HBC.out.push q6 g6 n6); clear q6 g6 n6 hm6))
          go_roundw
          case rel => exact ⟨k + 1, _, by omega, by go_num, by rw [E3.out, HL.out]; exact HK6⟩
          case measure => simp [intOf]; omega
        · have h10 : (x.op == 1) = false := by rw [beq_iff_eq] at h1; rw [h1]; rfl
          obtain ⟨hbxm, hbm⟩ := strong_box hbz hbx hs
          obtain ⟨wm, hwm⟩ : ∃ wm, ((wz.setCell ⟨wr.heap.size, 3, none⟩ (.int .i64 6)).setCell ⟨wr.heap.size, 4, none⟩ (.int .i64 6)) = wm := ⟨_, rfl⟩
          rw [hwm] at hbxm hbm
          obtain ⟨y, hy⟩ : ∃ y, strong x = y := ⟨_, rfl⟩
          rw [hy] at hbxm E3
          have HLX := Lib.hid (ld_I (b := wr.heap.size) (o := 0) (x := y) fun j v hj => by rw [Nat.zero_add]; exact hbxm.cell (by simpa using hj))
          unfold Ins.val at HLX
          have HQM := Lib.hid (HQ.out.below hbm)
          have HBC := Lib.hid (HQM.out.below (show Below wm.heap.size wm (wm.alloc (.cells #[.int .i64 y.op, .int .i64 y.c, .int .i64 y.jt, .int .i64 y.mode, .int .i64 y.part, .string y.tab, .int .i64 y.idx, .slice y.lo.a y.lo.n y.lo.c, .slice y.hi.a y.hi.n y.hi.c, .bool y.lx, .bool y.hx, .slice y.e.a y.e.n y.e.c, .int .i64 y.n, .slice y.ds.a y.ds.n y.ds.c] 33)) from (Below.refl _ _).alloc (Nat.le_refl _) _))
          have HNW := Lib.hid (ins_new wm y)
          have HSZ := Lib.hid (Nat.le_trans HBC.out.hb HBC.out.fr.size)
          have HLN := Lib.hid (show L.length + 1 ≤ 4294967297 by have := HLL.out; omega)
          have g0 : wm.cell? ⟨g, 0, none⟩ = some (.string tb) := HQM.out.bx.cell rfl
          have g1 : wm.cell? ⟨g, 1, none⟩ = some v := HQM.out.bx.cell rfl
          clear hbxm hbm hbz hbx hy
          try clear hs
          go_wp2_with (first | (refine wpLd rfl _ rfl rfl HLD.out ?_; clear HLD) | (refine wpSt rfl _ _ rfl rfl rfl HST.out ?_; clear HST) | (refine wpLd rfl _ rfl rfl HLX.out ?_; clear HLX) | (at_builtin; refine OwR.wp (K := KI) rfl _ _ rfl w3.heap.size v _ rfl HBC.out.own HSZ.out ⟨_, 0, none⟩ 1 _ [y] rfl rfl HNW.out HLN.out ?_; intro v' w6 q6 g6 n6; obtain ⟨va, vc, hve, -, -⟩ := q6.sl; rw [List.length_append, show [y].length = 1 from rfl] at hve; subst hve; have hm6 := HBC.out.mid g6; have k0 : w6.cell? ⟨g, 0, none⟩ = some (.string tb) := hm6.cell rfl; have k1 : w6.cell? ⟨g, 1, none⟩ = some v := hm6.cell rfl; have k2 : w6.frozen? ⟨g, 1, none⟩ = false := hm6.frz 1; have HK6 := Lib.hid (HBC.out.push q6 g6 n6); clear q6 g6 n6 hm6))
          go_roundw
          case rel => exact ⟨k + 1, _, by omega, by go_num, by rw [E3.out, HL.out]; exact HK6⟩
          case measure => simp [intOf]; omega
        · obtain ⟨wm, rfl⟩ : ∃ wm, wm = wz := ⟨_, rfl⟩
          have hbxm : Bx wm wr.heap.size (strong x).enc.toArray 33 := by rw [hs]; exact hbx
          have hbm := hbz
          obtain ⟨y, hy⟩ : ∃ y, strong x = y := ⟨_, rfl⟩
          rw [hy] at hbxm E3
          have HLX := Lib.hid (ld_I (b := wr.heap.size) (o := 0) (x := y) fun j v hj => by rw [Nat.zero_add]; exact hbxm.cell (by simpa using hj))
          unfold Ins.val at HLX
          have HQM := Lib.hid (HQ.out.below hbm)
          have HBC := Lib.hid (HQM.out.below (show Below wm.heap.size wm (wm.alloc (.cells #[.int .i64 y.op, .int .i64 y.c, .int .i64 y.jt, .int .i64 y.mode, .int .i64 y.part, .string y.tab, .int .i64 y.idx, .slice y.lo.a y.lo.n y.lo.c, .slice y.hi.a y.hi.n y.hi.c, .bool y.lx, .bool y.hx, .slice y.e.a y.e.n y.e.c, .int .i64 y.n, .slice y.ds.a y.ds.n y.ds.c] 33)) from (Below.refl _ _).alloc (Nat.le_refl _) _))
          have HNW := Lib.hid (ins_new wm y)
          have HSZ := Lib.hid (Nat.le_trans HBC.out.hb HBC.out.fr.size)
          have HLN := Lib.hid (show L.length + 1 ≤ 4294967297 by have := HLL.out; omega)
          have g0 : wm.cell? ⟨g, 0, none⟩ = some (.string tb) := HQM.out.bx.cell rfl
          have g1 : wm.cell? ⟨g, 1, none⟩ = some v := HQM.out.bx.cell rfl
          clear hbxm hbm hbz hbx hy
          try clear hs
          go_wp2_with (first | (refine wpLd rfl _ rfl rfl HLD.out ?_; clear HLD) | (refine wpSt rfl _ _ rfl rfl rfl HST.out ?_; clear HST) | (refine wpLd rfl _ rfl rfl HLX.out ?_; clear HLX) | (at_builtin; refine OwR.wp (K := KI) rfl _ _ rfl w3.heap.size v _ rfl HBC.out.own HSZ.out ⟨_, 0, none⟩ 1 _ [y] rfl rfl HNW.out HLN.out ?_; intro v' w6 q6 g6 n6; obtain ⟨va, vc, hve, -, -⟩ := q6.sl; rw [List.length_append, show [y].length = 1 from rfl] at hve; subst hve; have hm6 := HBC.out.mid g6; have k0 : w6.cell? ⟨g, 0, none⟩ = some (.string tb) := hm6.cell rfl; have k1 : w6.cell? ⟨g, 1, none⟩ = some v := hm6.cell rfl; have k2 : w6.frozen? ⟨g, 1, none⟩ = false := hm6.frz 1; have HK6 := Lib.hid (HBC.out.push q6 g6 n6); clear q6 g6 n6 hm6))
          go_roundw
          case rel => exact ⟨k + 1, _, by omega, by go_num, by rw [E3.out, HL.out]; exact HK6⟩
          case measure => simp [intOf]; omega
      · obtain rfl : k = n := by omega
        have cf : decide ((k : Int) < (k : Int)) = false := by simp
        have HLQ := Lib.hid (show q.map strong = L by rw [← HL.out, ← HN.out, List.take_length])
        obtain ⟨a7, c7, rfl, hlc7, -⟩ := HQ.out.own.sl
        obtain ⟨a8, c8, he7, hr7⟩ := RowA.own HQ.out.own
        injection he7 with he7 _ he8
        subst he7 he8
        have HC7 := Lib.hid (HCK2.out wr HBW.out a7 c7 L hr7 (by have := HLL.out; omega) hlc7)
        have HKS := Lib.hid (show ckB tb L = true by rw [← HLQ.out]; exact strong_ok HBB.out)
        rw [HKS.out, show erI true = 0 from rfl] at HC7
        have g0 : wr.cell? ⟨g, 0, none⟩ = some (.string tb) := HQ.out.bx.cell rfl
        have g1 : wr.cell? ⟨g, 1, none⟩ = some (.slice a7 L.length c7) := HQ.out.bx.cell rfl
        have HXR := Lib.hid (HQ.out.old HX3.out (by have := HLT.out; omega) (HX3.out.lt))
        obtain ⟨ll, hll⟩ : ∃ ll, L.length = ll := ⟨_, rfl⟩
        rw [hll] at HC7 g1
        clear hr7 hlc7 hll
        go_wp2_with fail
        refine HC7.out.mono ?_
        rintro e w8 ⟨rfl, hb8⟩
        have HB8 := Lib.hid (btr HBW.out hb8 HBW.out.size)
        have HX8 := Lib.hid (HXR.out.below hb8)
        have s0 : w8.cell? ⟨W.heap.size, 0, none⟩ = some (.string tb) := HX8.out.cell rfl
        have s1 : w8.cell? ⟨W.heap.size, 1, none⟩ = some (.slice a k cap) := HX8.out.cell rfl
        obtain ⟨mm, hmm, hbits⟩ := and3i mz
        have hmm2 : (mm : Int) ≤ 3 := by omega
        have hown := OwR.made (K := KI) w8 (Nat.le_refl w8.heap.size) [lockI t (1 + mm)] (by show 1 ≤ maxLen; decide)
        obtain ⟨w9, hw9⟩ : ∃ w9, w8.alloc (.cells (KI.cells [lockI t (1 + mm)]).toArray KI.te) = w9 := ⟨_, rfl⟩
        have hb9 : Below w8.heap.size w8 w9 := by rw [← hw9]; exact (Below.refl _ _).alloc (Nat.le_refl _) _
        have hz9 : w9.heap.size = w8.heap.size + 1 := by rw [← hw9]; simp
        rw [hw9] at hown
        obtain ⟨b8, hb8e⟩ : ∃ b8, w8.heap.size = b8 := ⟨_, rfl⟩
        obtain ⟨w10, hst, hb10, hbx10⟩ := put_P w9 tb (some ⟨w8.heap.size, 0, none⟩) 1 1
        have HQ10 := Lib.hid (QT.one (c := 1) (x := lockI t (1 + mm)) (hown.below hb10) hbx10 (by omega) (Nat.le_trans hb9.size hb10.size))
        have HW10 := Lib.hid (btr (btr HB8.out hb9 HB8.out.size) hb10 (Nat.le_trans HB8.out.size hb9.size))
        have HX10 := Lib.hid ((HX8.out.below hb9).below hb10)
        have HST2 := Lib.hid hst
        have HLT2 := Lib.hid (show W.heap.size < w8.heap.size from HX8.out.lt)
        have hw9' : w8.alloc (.cells #[.int .i64 1, .int .i64 0, .int .i64 0, .int .i64 (1 + mm), .int .i64 0, .string t, .int .i64 0, .slice none 0 0, .slice none 0 0, .bool false, .bool false, .slice none 0 0, .int .i64 0, .slice none 0 0] 33) = w9 := hw9
        obtain ⟨g', hg'⟩ : ∃ g', w9.heap.size = g' := ⟨_, rfl⟩
        rw [hb8e] at HQ10 HST2 HLT2 hz9
        rw [hg'] at HQ10 HST2 hz9
        have HGE := Lib.hid (show g' = b8 + 1 from hz9)
        have t0 : w10.cell? ⟨W.heap.size, 0, none⟩ = some (.string tb) := HX10.out.cell rfl
        have t1 : w10.cell? ⟨W.heap.size, 1, none⟩ = some (.slice a k cap) := HX10.out.cell rfl
        obtain ⟨n, hkn⟩ : ∃ n, k = n := ⟨_, rfl⟩
        subst hkn
        have HPL := Lib.hid (fun (x : Ins) (hx : x ∈ q) => ck_place HBB.out hx)
        have HMO := Lib.hid (fun (hl : q.length + 1 ≤ 4096) => more_ok HBB.out hl t (m := 1 + mm) (by omega) (by omega))
        clear hb8 hown hw9 hb9 hz9 hst hb10 hbx10 HC7 HQ HXR HL HLL HLQ HKS HBW
        go_wp2_with (first | (refine wpSt rfl _ _ rfl rfl rfl HST2.out ?_; clear HST2))
        go_loopw [60] (fun i wr => ∃ (j : Nat) (v : Value), j ≤ k ∧ i = .int .i64 j ∧ Hid (QT b8 w10 wr g' tb v (lockI t (1 + mm) :: (q.take j).map shift))) (fun i _ => k - (intOf i).toNat)
        case atStart => exact ⟨0, _, Nat.zero_le _, rfl, HQ10⟩
        case round =>
          obtain ⟨j, v, hj, rfl, HQ⟩ := hrel
          have HLL := Lib.hid (show (lockI t (1 + mm) :: (q.take j).map shift).length ≤ j + 1 by rw [List.length_cons, List.length_map]; have := List.length_take_le j q; omega)
          obtain ⟨L, hL⟩ : ∃ L, lockI t (1 + mm) :: (q.take j).map shift = L := ⟨_, rfl⟩
          rw [hL] at HQ HLL
          have HL := Lib.hid hL
          have HBW := Lib.hid (HQ.out.bel HW10.out (by have := HLT2.out; have := HGE.out; omega) (by have := HLT2.out; omega))
          clear hL
          by_cases c : j < k
          · have c1 : (j : Int) < (k : Int) := by omega
            obtain ⟨x, hl⟩ : ∃ l, q[j]? = some l := ⟨_, List.getElem?_eq_getElem (by rw [HN.out]; exact c)⟩
            obtain ⟨gb, off, rfl, -, hra⟩ := RowA.at (HRA.out wr HBW.out) hl
            have HLD := Lib.hid (ld_I hra)
            obtain ⟨wz, hst, hbz, hbx⟩ := put_I wr x
            have HST := Lib.hid hst
            obtain ⟨f0, -, f2, -, -, -, -⟩ := n14 hbx
            have fz2 : wz.frozen? ⟨wr.heap.size, 2, none⟩ = false := hbx.frz 2
            have E3 := Lib.hid (map_snoc (f := shift) hl)
            have hpl := HPL.out x (List.mem_of_getElem? hl)
            rw [HN.out] at hpl
            obtain ⟨X, hX⟩ : ∃ X, x.val = X := ⟨_, rfl⟩
            rw [hX] at HST HLD
            clear hl hra hX hst
            have HPX := Lib.hid hpl
            clear hpl
            cases c3 : x.op == 3 with
            | true =>
              have HO : (x.op == 3 || x.op == 4 || x.op == 8) = true := by simp [c3]
              have HS := Lib.hid (show shift x = { x with jt := x.jt + 1 } by unfold shift; rw [if_pos HO])
              obtain ⟨q0, q1⟩ := HPX.out HO
              have q2 : x.jt < 100000 := by omega
              obtain ⟨hbxm, hbm⟩ := shift_box hbz hbx HS.out
              obtain ⟨wm, hwm⟩ : ∃ wm, (wz.setCell ⟨wr.heap.size, 2, none⟩ (.int .i64 (x.jt + 1))) = wm := ⟨_, rfl⟩
              rw [hwm] at hbxm hbm
              clear HO
              obtain ⟨y, hy⟩ : ∃ y, shift x = y := ⟨_, rfl⟩
              rw [hy] at hbxm E3
              have HLX := Lib.hid (ld_I (b := wr.heap.size) (o := 0) (x := y) fun j v hj => by rw [Nat.zero_add]; exact hbxm.cell (by simpa using hj))
              unfold Ins.val at HLX
              have HQM := Lib.hid (HQ.out.below hbm)
              have HBC := Lib.hid (HQM.out.below (show Below wm.heap.size wm (wm.alloc (.cells #[.int .i64 y.op, .int .i64 y.c, .int .i64 y.jt, .int .i64 y.mode, .int .i64 y.part, .string y.tab, .int .i64 y.idx, .slice y.lo.a y.lo.n y.lo.c, .slice y.hi.a y.hi.n y.hi.c, .bool y.lx, .bool y.hx, .slice y.e.a y.e.n y.e.c, .int .i64 y.n, .slice y.ds.a y.ds.n y.ds.c] 33)) from (Below.refl _ _).alloc (Nat.le_refl _) _))
              have HNW := Lib.hid (ins_new wm y)
              have HSZ := Lib.hid (Nat.le_trans HBC.out.hb HBC.out.fr.size)
              have HLN := Lib.hid (show L.length + 1 ≤ 4294967297 by have := HLL.out; omega)
              have g0 : wm.cell? ⟨g', 0, none⟩ = some (.string tb) := HQM.out.bx.cell rfl
              have g1 : wm.cell? ⟨g', 1, none⟩ = some v := HQM.out.bx.cell rfl
              clear hbxm hbm hbz hbx hy
              try clear hs
              go_wp2_with (first | (refine wpLd rfl _ rfl rfl HLD.out ?_; clear HLD) | (refine wpSt rfl _ _ rfl rfl rfl HST.out ?_; clear HST) | (refine wpLd rfl _ rfl rfl HLX.out ?_; clear HLX) | (at_builtin; refine OwR.wp (K := KI) rfl _ _ rfl b8 v _ rfl HBC.out.own HSZ.out ⟨_, 0, none⟩ 1 _ [y] rfl rfl HNW.out HLN.out ?_; intro v' w6 q6 g6 n6; obtain ⟨va, vc, hve, -, -⟩ := q6.sl; rw [List.length_append, show [y].length = 1 from rfl] at hve; subst hve; have hm6 := HBC.out.mid g6; have k0 : w6.cell? ⟨g', 0, none⟩ = some (.string tb) := hm6.cell rfl; have k1 : w6.cell? ⟨g', 1, none⟩ = some v := hm6.cell rfl; have k2 : w6.frozen? ⟨g', 1, none⟩ = false := hm6.frz 1; have HK6 := Lib.hid (HBC.out.push q6 g6 n6); clear q6 g6 n6 hm6))
              go_roundw
              case rel => exact ⟨j + 1, _, by omega, by go_num, by rw [E3.out, ← List.cons_append, HL.out]; exact HK6⟩
              case measure => simp [intOf]; omega
            | false =>
              cases c4 : x.op == 4 with
              | true =>
                have HO : (x.op == 3 || x.op == 4 || x.op == 8) = true := by simp [c4]
                have HS := Lib.hid (show shift x = { x with jt := x.jt + 1 } by unfold shift; rw [if_pos HO])
                obtain ⟨q0, q1⟩ := HPX.out HO
                have q2 : x.jt < 100000 := by omega
                obtain ⟨hbxm, hbm⟩ := shift_box hbz hbx HS.out
                obtain ⟨wm, hwm⟩ : ∃ wm, (wz.setCell ⟨wr.heap.size, 2, none⟩ (.int .i64 (x.jt + 1))) = wm := ⟨_, rfl⟩
                rw [hwm] at hbxm hbm
                clear HO
                obtain ⟨y, hy⟩ : ∃ y, shift x = y := ⟨_, rfl⟩
                rw [hy] at hbxm E3
                have HLX := Lib.hid (ld_I (b := wr.heap.size) (o := 0) (x := y) fun j v hj => by rw [Nat.zero_add]; exact hbxm.cell (by simpa using hj))
                unfold Ins.val at HLX
                have HQM := Lib.hid (HQ.out.below hbm)
                have HBC := Lib.hid (HQM.out.below (show Below wm.heap.size wm (wm.alloc (.cells #[.int .i64 y.op, .int .i64 y.c, .int .i64 y.jt, .int .i64 y.mode, .int .i64 y.part, .string y.tab, .int .i64 y.idx, .slice y.lo.a y.lo.n y.lo.c, .slice y.hi.a y.hi.n y.hi.c, .bool y.lx, .bool y.hx, .slice y.e.a y.e.n y.e.c, .int .i64 y.n, .slice y.ds.a y.ds.n y.ds.c] 33)) from (Below.refl _ _).alloc (Nat.le_refl _) _))
                have HNW := Lib.hid (ins_new wm y)
                have HSZ := Lib.hid (Nat.le_trans HBC.out.hb HBC.out.fr.size)
                have HLN := Lib.hid (show L.length + 1 ≤ 4294967297 by have := HLL.out; omega)
                have g0 : wm.cell? ⟨g', 0, none⟩ = some (.string tb) := HQM.out.bx.cell rfl
                have g1 : wm.cell? ⟨g', 1, none⟩ = some v := HQM.out.bx.cell rfl
                clear hbxm hbm hbz hbx hy
                try clear hs
                go_wp2_with (first | (refine wpLd rfl _ rfl rfl HLD.out ?_; clear HLD) | (refine wpSt rfl _ _ rfl rfl rfl HST.out ?_; clear HST) | (refine wpLd rfl _ rfl rfl HLX.out ?_; clear HLX) | (at_builtin; refine OwR.wp (K := KI) rfl _ _ rfl b8 v _ rfl HBC.out.own HSZ.out ⟨_, 0, none⟩ 1 _ [y] rfl rfl HNW.out HLN.out ?_; intro v' w6 q6 g6 n6; obtain ⟨va, vc, hve, -, -⟩ := q6.sl; rw [List.length_append, show [y].length = 1 from rfl] at hve; subst hve; have hm6 := HBC.out.mid g6; have k0 : w6.cell? ⟨g', 0, none⟩ = some (.string tb) := hm6.cell rfl; have k1 : w6.cell? ⟨g', 1, none⟩ = some v := hm6.cell rfl; have k2 : w6.frozen? ⟨g', 1, none⟩ = false := hm6.frz 1; have HK6 := Lib.hid (HBC.out.push q6 g6 n6); clear q6 g6 n6 hm6))
                go_roundw
                case rel => exact ⟨j + 1, _, by omega, by go_num, by rw [E3.out, ← List.cons_append, HL.out]; exact HK6⟩
                case measure => simp [intOf]; omega
              | false =>
                cases c8 : x.op == 8 with
                | true =>
                  have HO : (x.op == 3 || x.op == 4 || x.op == 8) = true := by simp [c8]
                  have HS := Lib.hid (show shift x = { x with jt := x.jt + 1 } by unfold shift; rw [if_pos HO])
                  obtain ⟨q0, q1⟩ := HPX.out HO
                  have q2 : x.jt < 100000 := by omega
                  obtain ⟨hbxm, hbm⟩ := shift_box hbz hbx HS.out
                  obtain ⟨wm, hwm⟩ : ∃ wm, (wz.setCell ⟨wr.heap.size, 2, none⟩ (.int .i64 (x.jt + 1))) = wm := ⟨_, rfl⟩
                  rw [hwm] at hbxm hbm
                  clear HO
                  obtain ⟨y, hy⟩ : ∃ y, shift x = y := ⟨_, rfl⟩
                  rw [hy] at hbxm E3
                  have HLX := Lib.hid (ld_I (b := wr.heap.size) (o := 0) (x := y) fun j v hj => by rw [Nat.zero_add]; exact hbxm.cell (by simpa using hj))
                  unfold Ins.val at HLX
                  have HQM := Lib.hid (HQ.out.below hbm)
                  have HBC := Lib.hid (HQM.out.below (show Below wm.heap.size wm (wm.alloc (.cells #[.int .i64 y.op, .int .i64 y.c, .int .i64 y.jt, .int .i64 y.mode, .int .i64 y.part, .string y.tab, .int .i64 y.idx, .slice y.lo.a y.lo.n y.lo.c, .slice y.hi.a y.hi.n y.hi.c, .bool y.lx, .bool y.hx, .slice y.e.a y.e.n y.e.c, .int .i64 y.n, .slice y.ds.a y.ds.n y.ds.c] 33)) from (Below.refl _ _).alloc (Nat.le_refl _) _))
                  have HNW := Lib.hid (ins_new wm y)
                  have HSZ := Lib.hid (Nat.le_trans HBC.out.hb HBC.out.fr.size)
                  have HLN := Lib.hid (show L.length + 1 ≤ 4294967297 by have := HLL.out; omega)
                  have g0 : wm.cell? ⟨g', 0, none⟩ = some (.string tb) := HQM.out.bx.cell rfl
                  have g1 : wm.cell? ⟨g', 1, none⟩ = some v := HQM.out.bx.cell rfl
                  clear hbxm hbm hbz hbx hy
                  try clear hs
                  go_wp2_with (first | (refine wpLd rfl _ rfl rfl HLD.out ?_; clear HLD) | (refine wpSt rfl _ _ rfl rfl rfl HST.out ?_; clear HST) | (refine wpLd rfl _ rfl rfl HLX.out ?_; clear HLX) | (at_builtin; refine OwR.wp (K := KI) rfl _ _ rfl b8 v _ rfl HBC.out.own HSZ.out ⟨_, 0, none⟩ 1 _ [y] rfl rfl HNW.out HLN.out ?_; intro v' w6 q6 g6 n6; obtain ⟨va, vc, hve, -, -⟩ := q6.sl; rw [List.length_append, show [y].length = 1 from rfl] at hve; subst hve; have hm6 := HBC.out.mid g6; have k0 : w6.cell? ⟨g', 0, none⟩ = some (.string tb) := hm6.cell rfl; have k1 : w6.cell? ⟨g', 1, none⟩ = some v := hm6.cell rfl; have k2 : w6.frozen? ⟨g', 1, none⟩ = false := hm6.frz 1; have HK6 := Lib.hid (HBC.out.push q6 g6 n6); clear q6 g6 n6 hm6))
                  go_roundw
                  case rel => exact ⟨j + 1, _, by omega, by go_num, by rw [E3.out, ← List.cons_append, HL.out]; exact HK6⟩
                  case measure => simp [intOf]; omega
                | false =>
                  have hs : shift x = x := by unfold shift; simp [c3, c4, c8]
                  obtain ⟨wm, rfl⟩ : ∃ wm, wm = wz := ⟨_, rfl⟩
                  have hbxm : Bx wm wr.heap.size (shift x).enc.toArray 33 := by rw [hs]; exact hbx
                  have hbm := hbz
                  obtain ⟨y, hy⟩ : ∃ y, shift x = y := ⟨_, rfl⟩
                  rw [hy] at hbxm E3
                  have HLX := Lib.hid (ld_I (b := wr.heap.size) (o := 0) (x := y) fun j v hj => by rw [Nat.zero_add]; exact hbxm.cell (by simpa using hj))
                  unfold Ins.val at HLX
                  have HQM := Lib.hid (HQ.out.below hbm)
                  have HBC := Lib.hid (HQM.out.below (show Below wm.heap.size wm (wm.alloc (.cells #[.int .i64 y.op, .int .i64 y.c, .int .i64 y.jt, .int .i64 y.mode, .int .i64 y.part, .string y.tab, .int .i64 y.idx, .slice y.lo.a y.lo.n y.lo.c, .slice y.hi.a y.hi.n y.hi.c, .bool y.lx, .bool y.hx, .slice y.e.a y.e.n y.e.c, .int .i64 y.n, .slice y.ds.a y.ds.n y.ds.c] 33)) from (Below.refl _ _).alloc (Nat.le_refl _) _))
                  have HNW := Lib.hid (ins_new wm y)
                  have HSZ := Lib.hid (Nat.le_trans HBC.out.hb HBC.out.fr.size)
                  have HLN := Lib.hid (show L.length + 1 ≤ 4294967297 by have := HLL.out; omega)
                  have g0 : wm.cell? ⟨g', 0, none⟩ = some (.string tb) := HQM.out.bx.cell rfl
                  have g1 : wm.cell? ⟨g', 1, none⟩ = some v := HQM.out.bx.cell rfl
                  clear hbxm hbm hbz hbx hy
                  try clear hs
                  go_wp2_with (first | (refine wpLd rfl _ rfl rfl HLD.out ?_; clear HLD) | (refine wpSt rfl _ _ rfl rfl rfl HST.out ?_; clear HST) | (refine wpLd rfl _ rfl rfl HLX.out ?_; clear HLX) | (at_builtin; refine OwR.wp (K := KI) rfl _ _ rfl b8 v _ rfl HBC.out.own HSZ.out ⟨_, 0, none⟩ 1 _ [y] rfl rfl HNW.out HLN.out ?_; intro v' w6 q6 g6 n6; obtain ⟨va, vc, hve, -, -⟩ := q6.sl; rw [List.length_append, show [y].length = 1 from rfl] at hve; subst hve; have hm6 := HBC.out.mid g6; have k0 : w6.cell? ⟨g', 0, none⟩ = some (.string tb) := hm6.cell rfl; have k1 : w6.cell? ⟨g', 1, none⟩ = some v := hm6.cell rfl; have k2 : w6.frozen? ⟨g', 1, none⟩ = false := hm6.frz 1; have HK6 := Lib.hid (HBC.out.push q6 g6 n6); clear q6 g6 n6 hm6))
                  go_roundw
                  case rel => exact ⟨j + 1, _, by omega, by go_num, by rw [E3.out, ← List.cons_append, HL.out]; exact HK6⟩
                  case measure => simp [intOf]; omega
          · obtain rfl : j = k := by omega
            have cf2 : decide ((j : Int) < (j : Int)) = false := by simp
            have HLQ2 := Lib.hid (show lockI t (1 + mm) :: q.map shift = L by rw [← HL.out, ← HN.out, List.take_length])
            have HLN2 := Lib.hid (show L.length = j + 1 by rw [← HLQ2.out, List.length_cons, List.length_map, HN.out])
            obtain ⟨a7, c7, rfl, hlc7, -⟩ := HQ.out.own.sl
            obtain ⟨a8, c8, he7, hr7⟩ := RowA.own HQ.out.own
            injection he7 with he7 _ he8
            subst he7 he8
            have HC7 := Lib.hid (HCK2.out wr HBW.out a7 c7 L hr7 (by have := HLL.out; omega) hlc7)
            have g0 : wr.cell? ⟨g', 0, none⟩ = some (.string tb) := HQ.out.bx.cell rfl
            have g1 : wr.cell? ⟨g', 1, none⟩ = some (.slice a7 L.length c7) := HQ.out.bx.cell rfl
            rw [HLN2.out] at HC7 g1
            clear hr7 hlc7
            by_cases cg : 4096 < j + 1
            · have cg1 : (4096 : Int) < ((j + 1 : Nat) : Int) := by omega
              go_wp2_with fail
              go_ret
              exact ⟨rfl, HBW.out⟩
            · have cg1 : ¬ (4096 : Int) < ((j + 1 : Nat) : Int) := by omega
              have HKS := Lib.hid (show ckB tb L = true by rw [← HLQ2.out]; exact HMO.out (by rw [HN.out]; omega))
              rw [HKS.out, show erI true = 0 from rfl] at HC7
              go_wp2_with fail
              refine HC7.out.mono ?_
              rintro e w9 ⟨rfl, hb9⟩
              have HB9 := Lib.hid (btr HBW.out hb9 HBW.out.size)
              clear hb9
              go_wp2_with fail
              go_ret
              exact ⟨rfl, HB9.out⟩

/-- a world for the witness: the listed variables hold what is laid -/
noncomputable def laidWorld (os : Os) : World :=
  { World.holding Tryd.prog os ⟨#[], #[], []⟩ with heap := ((World.holding Tryd.prog os ⟨#[], #[], []⟩).heap.modify 0 fun
      | .cells _ t frozen => .cells #[.bool true, .bool false, .bool false, .bool false, .bool false, .bool false, .bool false, .bool true, .bool true, .bool false, .bool false, .bool false, .bool false, .bool false, .bool true, .bool true, .bool true, .bool false, .bool false, .bool false, .bool false, .bool true, .bool true, .bool false, .bool true, .bool false, .bool false, .bool false, .bool true, .bool true, .bool true, .bool true, .bool true, .bool false, .bool false, .bool true, .bool true, .bool false, .bool true, .bool false, .bool true, .bool false, .bool true, .bool true, .bool true, .bool true, .bool true, .bool true, .bool true] t frozen
      | o => o) }
theorem laid_met (os : Os) : laidMetH Tryd.prog Rows.coverStrongerUptoRow.laid ((laidWorld os).forCall (fun _ _ => 0) ⟨#[], #[.agg #[.string ByteArray.empty, .slice none 0 0], .string ByteArray.empty, .int .i64 0], []⟩).memory :=
  laidMet_of_run' 8 (by kernel_rfl) (by kernel_rfl)
theorem reads (os : Os) {H : Type} (enc : TypeId × Value → H) : ∃ places, DataW.whole enc Tryd.prog ((laidWorld os).forCall (fun _ _ => 0) ⟨#[], #[.agg #[.string ByteArray.empty, .slice none 0 0], .string ByteArray.empty, .int .i64 0], []⟩).memory Tryd.f5.params.toList Rows.coverStrongerSpec.vars false (#[.agg #[.string ByteArray.empty, .slice none 0 0], .string ByteArray.empty, .int .i64 0] : Array Value).toList 8 = some ([.agg [.lit (.string []), .nil], .lit (.string []), .lit (.int .i64 0)], [], places) :=
  ⟨[], by kernel_rfl⟩

set_option maxRecDepth 100000 in
theorem lifted (os : Os) (started : os.Started) (H : Type) (enc : TypeId × Value → H) (F : Stop.Interp) :
    ReturnsInHanded {} Tryd.checked os 5 .any ((Rows.OpenSpec.upto Rows.coverStrongerSpec).preRow enc Tryd.prog Tryd.f5 Rows.coverStrongerUptoRow.domain false Rows.coverStrongerUptoRow.laid) (((Rows.OpenSpec.upto Rows.coverStrongerSpec).at F).post enc Tryd.prog Tryd.f5 false true false false) := by
  obtain ⟨places, hx⟩ := reads os enc
  refine returnsInHanded_of_row (C := Tryd.checked) (s := (Rows.OpenSpec.upto Rows.coverStrongerSpec)) own started (by kernel_rfl) Tryd.func5
    (witness_row_at (enc := enc) (C := Tryd.checked) false (laidWorld os) #[.agg #[.string ByteArray.empty, .slice none 0 0], .string ByteArray.empty, .int .i64 0] rfl (by kernel_rfl) (by kernel_rfl) (by kernel_rfl)
      (OpenSpec.preRow_of_cond 8 hx (by kernel_rfl) (fun k hk => by cases hk; kernel_rfl) (by kernel_rfl) (laid_met os))) ?_
  intro W base args ds gs before hval0 hW _ hcond _ hL _ _
  have hval : ∀ (j : Nat) t v, Tryd.f5.params[j]? = some t → args[j]? = some v → Value.okWide Tryd.prog W .any base t v := hval0
  have hW' := hW
  obtain ⟨p, q, hA0, hV, rfl, hfz, hnd⟩ := hW
  have hA : DataW.TrodAll enc Tryd.prog W 0 (fun _ => true) true Tryd.f5.params.toList args.toList ds p := hA0
  rw [Tryd.params5] at hA hval
  obtain ⟨v0, vs0, d0, ds0, p0, q0, hargs, rfl, rfl, h0, r0⟩ := trodAll_cons hA
  obtain ⟨v1, vs1, d1, ds1, p1, q1, rfl, rfl, rfl, h1, r1⟩ := trodAll_cons r0
  obtain ⟨v2, vs2, d2, ds2, p2, q2, rfl, rfl, rfl, h2, r2⟩ := trodAll_cons r1
  obtain ⟨rfl, rfl, rfl⟩ := trodAll_nil r2
  obtain rfl : args = #[v0, v1, v2] := by cases args; simp_all
  obtain ⟨rfl, rfl⟩ := trodVars_none hV
  have hk : Rows.uptoSmall H [d0, d1, d2] = true := hcond _ rfl
  have lt0 : ∀ x ∈ p0, x.block < W.heap.size := by obtain ⟨m, hm⟩ := h0; exact DataW.trod_lt m _ _ _ hm
  have lt1 : ∀ x ∈ p1, x.block < W.heap.size := by obtain ⟨m, hm⟩ := h1; exact DataW.trod_lt m _ _ _ hm
  have lt2 : ∀ x ∈ p2, x.block < W.heap.size := by obtain ⟨m, hm⟩ := h2; exact DataW.trod_lt m _ _ _ hm
  refine (walk (enc := enc) base v0 d0 p0 v1 d1 p1 v2 d2 p2 W (hval 0 25 v0 rfl rfl) h0 (hval 1 9 v1 rfl rfl) h1 (hval 2 3 v2 rfl rfl) h2 hk hL).mono fun e W' ⟨he, bel⟩ => ?_
  subst he
  exact ⟨_, rfl, _, _, _, [], _, [], hW', trodAll_mk1 (shut_bool Tryd.underlying4 _), (trodAll_cons_mk (Below.trod laidOut (by kernel_rfl) (of_decide_eq_true (by kernel_rfl)) h0 bel lt0) (trodAll_cons_mk (Below.trod laidOut (by kernel_rfl) (of_decide_eq_true (by kernel_rfl)) h1 bel lt1) (trodAll_cons_mk (Below.trod laidOut (by kernel_rfl) (of_decide_eq_true (by kernel_rfl)) h2 bel lt2) trodAll_mk0))), rfl, bel.frame _, fun h => by cases h⟩

theorem said : Rows.CoverStrongerUptoSaid :=
  OpenClaim.holds_of_cond 5 Tryd.f5 rfl rfl rfl rfl rfl rfl rfl ⟨rfl, rfl, rfl, rfl, rfl⟩ rfl rfl rfl rfl rfl (by kernel_rfl) Tryd.func5 (by kernel_rfl)
    (of_decide_eq_true (by kernel_rfl)) (by unfold Func.isWrapper; first | (rw [if_pos (by decide +kernel)]; kernel_rfl) | (rw [if_neg (by decide +kernel)]; exact ⟨rfl, rfl⟩))
    (fun os started H enc _ F => by rw [OpenClaim.pre_eq_preRow]; exact lifted os started H enc F)
theorem plain (f : FuncId) (fn : Func) (hf : Tryd.pinned.checked.prog.funcNamed "hasp/hasplaw22.CoverStronger" = some f) (hfn : Tryd.pinned.checked.prog.funcs[f]? = some fn) :
    false = Tryd.pinned.checked.prog.looks [] ∧ ∀ (j : Nat) t, fn.params[j]? = some t → Tryd.pinned.checked.prog.wantsStandIn t = false := by
  obtain rfl : f = 5 := Option.some.inj ((show Tryd.prog.funcNamed "hasp/hasplaw22.CoverStronger" = some 5 by kernel_rfl).symm.trans hf) |>.symm
  obtain rfl : fn = Tryd.f5 := (Option.some.inj (Tryd.func5.symm.trans hfn)).symm
  refine ⟨by kernel_rfl, fun j t ht => ?_⟩
  rw [Tryd.params5] at ht
  have hm : t ∈ ([25, 9, 3] : List TypeId) := by simpa using Array.mem_of_getElem? ht
  have hall : (([25, 9, 3] : List TypeId).all fun u => !Tryd.prog.wantsStandIn u) = true := by kernel_rfl
  exact (show Tryd.prog.wantsStandIn t = false by simpa using List.all_eq_true.1 hall t hm)

theorem proved : Rows.CoverStrongerUptoCardSaid :=
  Claim7.holds_tied_plain_at .later [] _ _ _ _ said (fun _ h => by cases h) (by kernel_rfl) (fun _ h => by cases h) coverStrongerUpto_row_tie rfl ⟨rfl, rfl⟩ (by kernel_rfl) rfl plain (by kernel_rfl)
end Go.Proofs.YtgndbhgpdcelpaaDoor.coverStronger
