/-
  NormJoins answers true at any two conditions, of a bulk of at most 1048576: the parts of both put together are those of the first and then those of the second, and none is an AND of two.
  Conditions: none but the row's own.
-/
import Derived.Test.YtccjeclncmogiaaNo29
import Derived.Test.YtccjeclncmogiaaRows
import Derived.WalkKit
import Derived.ProofKit
import Derived.OpenShut
import Derived.ShutString
import Derived.ChangeOld
import Derived.Below
import Derived.Carry
import Derived.JoinedCond
namespace Go.Proofs.Ytccjeclncmogiaa.normJoins
open Go.ChangeShapes Go.WideShapes Go.ChangeAt Go.RowKit
open Go.Joins
set_option linter.unusedVariables false

theorem own : ownKnob Try.prog.godebug = none := by kernel_rfl
theorem laidOut : laidOutB Try.prog = true := by kernel_rfl

set_option maxRecDepth 100000 in

set_option maxHeartbeats 8000000 in
theorem walk {H : Type} {enc : TypeId × Value → H} (base : Nat) (v0 : Value) (d0 : DataW H) (p0 : List MemPlace) (v1 : Value) (d1 : DataW H) (p1 : List MemPlace) (W : World)
    (o0 : Value.okWide Try.prog W .any base 26 v0) (h0 : DataW.Trod enc Try.prog W 0 (fun _ => true) true 26 v0 d0 p0)
    (o1 : Value.okWide Try.prog W .any base 26 v1) (h1 : DataW.Trod enc Try.prog W 0 (fun _ => true) true 26 v1 d1 p1)
    (hk : Rows.uptoSmall H [d0, d1] = true) :
    Calls Try.prog 4 #[v0, v1] W fun e w' => e = .returned (.bool true) ∧ Below W.heap.size W w' := by
  obtain ⟨x, rfl, mx, -, sx⟩ := open_code o0 h0
  obtain ⟨y, rfl, my, -, sy⟩ := open_code o1 h1
  have hsx : szC x.er ≤ 1048576 := Nat.le_trans sx (oe_arg hk (by simp))
  have hsy : szC y.er ≤ 1048576 := Nat.le_trans sy (oe_arg hk (by simp))
  have mx' := (XC.Mem.old _ mx).mono (K' := fun k => k < W.heap.size) (fun k hk => hk.2)
  have my' := (XC.Mem.old _ my).mono (K' := fun k => k < W.heap.size) (fun k hk => hk.2)
  clear mx my sx sy o0 h0 o1 h1 hk
  generalize hP : (fun (e : Ending) (W' : World) => e = .returned (.bool true) ∧ Below W.heap.size W W') = P
  have HP := Lib.hid hP
  clear hP
  have b1 : Below W.heap.size W (W.alloc (.cells x.encA 26)) := (Below.refl _ _).alloc (Nat.le_refl _) _
  have hx1 := Bx.new W x.encA 26
  obtain ⟨W1, hW1⟩ : ∃ W1, W.alloc (.cells x.encA 26) = W1 := ⟨_, rfl⟩
  rw [hW1] at b1 hx1
  have hx2 := Bx.new W1 y.encA 26
  have b2 : Below W1.heap.size W1 (W1.alloc (.cells y.encA 26)) := (Below.refl _ _).alloc (Nat.le_refl _) _
  obtain ⟨W2, hW2⟩ : ∃ W2, W1.alloc (.cells y.encA 26) = W2 := ⟨_, rfl⟩
  rw [hW2] at hx2 b2
  have HS := Lib.hid (speaks18_any W2)
  have HX := Lib.hid (And.intro (hx1.below b2) (And.intro hx2 (b1.trans (b2.mono b1.size))))
  have HM := Lib.hid (And.intro mx' (And.intro my' (And.intro hsx hsy)))
  clear b1 hx1 hx2 b2 mx' my' hsx hsy
  obtain ⟨op1, ty1, a1, cap1, args1, vk1, vn1, vs1, tab1, col1⟩ := x
  obtain ⟨op2, ty2, a2, cap2, args2, vk2, vn2, vs2, tab2, col2⟩ := y
  simp only [XC.encA] at hW1 hW2
  simp only [XC.val]
  go_enter Try.func4, Try.ntmps4
  go_wp2_with fail
  refine HS.out.mono ?_
  rintro e w0 ⟨rfl, b0⟩
  have HB0 := Lib.hid (And.intro (HX.out.1.below b0) (And.intro (HX.out.2.1.below b0) (HX.out.2.2.trans (b0.mono HX.out.2.2.size))))
  have HLX := Lib.hid (ld_C (XC.at_box HB0.out.1))
  have HLY := Lib.hid (ld_C (XC.at_box HB0.out.2.1))
  clear b0
  go_wp2_with (first | (refine wpLd rfl _ rfl rfl HLX.out ?_; clear HLX) | (refine wpLd rfl _ rfl rfl HLY.out ?_; clear HLY))
  refine (two_any (K := fun k => k < W.heap.size) 17 (.mk op1 ty1 a1 cap1 args1 vk1 vn1 vs1 tab1 col1) (.mk op2 ty2 a2 cap2 args2 vk2 vn2 vs2 tab2 col2) (HM.out.1.below HB0.out.2.2) (HM.out.2.1.below HB0.out.2.2)).mono ?_
  rintro e w3 ⟨g, rfl, lg, mg, b3⟩
  have hs4 : szC (XC.er (twoC 17 g (.mk op1 ty1 a1 cap1 args1 vk1 vn1 vs1 tab1 col1) (.mk op2 ty2 a2 cap2 args2 vk2 vn2 vs2 tab2 col2))) ≤ 4194304 := by rw [sz_two]; have := HM.out.2.2.1; have := HM.out.2.2.2; omega
  have HC0 := Lib.hid (conj_any (w := w3) (twoC 17 g (.mk op1 ty1 a1 cap1 args1 vk1 vn1 vs1 tab1 col1) (.mk op2 ty2 a2 cap2 args2 vk2 vn2 vs2 tab2 col2)) hs4 mg)
  have HB3 := Lib.hid (And.intro (HB0.out.1.below b3) (And.intro (HB0.out.2.1.below b3) (HB0.out.2.2.trans (b3.mono HB0.out.2.2.size))))
  clear lg mg b3 hs4
  go_wp2_with fail
  refine HC0.out.mono ?_
  rintro e w4 ⟨v, l, rfl, hl, hle, b4, -⟩
  have hle2 : l.map XC.er = conj (XC.er (.mk op1 ty1 a1 cap1 args1 vk1 vn1 vs1 tab1 col1)) ++ conj (XC.er (.mk op2 ty2 a2 cap2 args2 vk2 vn2 vs2 tab2 col2)) := by
    rw [hle]
    have : XC.er (twoC 17 g (.mk op1 ty1 a1 cap1 args1 vk1 vn1 vs1 tab1 col1) (.mk op2 ty2 a2 cap2 args2 vk2 vn2 vs2 tab2 col2)) = .mk 17 0 [XC.er (.mk op1 ty1 a1 cap1 args1 vk1 vn1 vs1 tab1 col1), XC.er (.mk op2 ty2 a2 cap2 args2 vk2 vn2 vs2 tab2 col2)] 0 0 ⟨#[]⟩ 0 0 := by rw [XC.er, XC.erL, XC.erL, XC.erL]
    rw [this]
    exact conj_and _ _ _ _ _ _ _ _
  have hno := conj_none _ (XC.er (twoC 17 g (.mk op1 ty1 a1 cap1 args1 vk1 vn1 vs1 tab1 col1) (.mk op2 ty2 a2 cap2 args2 vk2 vn2 vs2 tab2 col2))) (Nat.lt_succ_self _)
  rw [← hle] at hno
  obtain ⟨la, lc, rfl, hrow⟩ := hl.row
  obtain ⟨n, hn⟩ : ∃ n, l.length = n := ⟨_, rfl⟩
  have hbd := hrow.bounds
  rw [hn] at hbd
  rw [hn]
  have HL := Lib.hid (And.intro hrow (And.intro hle2 (And.intro hno hn)))
  have HB4 := Lib.hid (And.intro (HB3.out.1.below b4) (And.intro (HB3.out.2.1.below b4) (HB3.out.2.2.trans (b4.mono HB3.out.2.2.size))))
  have hcm := hbd.2
  clear hl hle hle2 hno hrow hn b4 HC0 HB3
  go_wp2_with fail
  go_loopw [16] (fun i wr => ∃ k : Nat, k ≤ n ∧ i = .int .i64 (k : Int) ∧ Hid (Below w4.heap.size w4 wr)) (fun i _ => n - (intOf i).toNat)
  case atStart => exact ⟨0, Nat.zero_le _, rfl, Lib.hid (Below.refl _ _)⟩
  case round =>
    obtain ⟨k, hk9, rfl, HW⟩ := hrel
    by_cases c : k < n
    · have c1 : (k : Int) < (n : Int) := by omega
      obtain ⟨z, hz⟩ : ∃ z, l[k]? = some z := ⟨_, List.getElem?_eq_getElem (by rw [HL.out.2.2.2]; exact c)⟩
      obtain ⟨b9, o9, rfl, -, hb9, hcell, -⟩ := XC.Row.at (HL.out.1.below HW.out) hz
      have hzn := HL.out.2.2.1 z.er (List.mem_map_of_mem (List.mem_of_getElem? hz))
      have HLD := Lib.hid (ld_C (x := z) hcell)
      obtain ⟨wq, hst, bq, bxq⟩ := put_C wr z
      have HST := Lib.hid hst
      have HW2 := Lib.hid (HW.out.trans (bq.mono HW.out.size))
      have hwk : wrap64 ((k : Int) + 1) = ((k + 1 : Nat) : Int) := by unfold wrap64 maxLen at *; omega
      obtain ⟨op9, ty9, a9, cap9, args9, vk9, vn9, vs9, tab9, col9⟩ := z
      have s0 : wq.cell? ⟨wr.heap.size, 0, none⟩ = some (.int .i64 op9) := bxq.cell rfl
      have s2 : wq.cell? ⟨wr.heap.size, 2, none⟩ = some (.slice a9 args9.length cap9) := bxq.cell rfl
      have hcs : (op9 == 17) = false ∨ (op9 = 17 ∧ ((args9.length : Int) == 2) = false) := by
        by_cases h : op9 = 17
        · refine .inr ⟨h, ?_⟩
          have h2 : args9.length ≠ 2 := fun h2 => hzn (by rw [XC.er]; exact ⟨h, by show (XC.erL args9).length = 2; rw [XC.erL_length]; exact h2⟩)
          simp; omega
        · exact .inl (by simp [h])
      clear hz hcell hzn hst bq bxq
      generalize args9.length = n9 at s2 hcs
      rcases hcs with hcs | ⟨rfl, hcs⟩
      all_goals
        go_wp2_with (first | (refine wpLd rfl _ rfl rfl HLD.out ?_; clear HLD) | (refine wpSt rfl _ _ rfl rfl rfl HST.out ?_; clear HST))
        refine ⟨⟨k + 1, by omega, by rw [hwk], HW2⟩, ?_⟩
        rw [hwk]
        simp [intOf]
        omega
    · obtain rfl : k = n := by omega
      have c1 : decide ((k : Int) < (k : Int)) = false := by simp
      have hsp : ∀ w' : World, Below wr.heap.size wr w' → Below wr.heap.size wr w' ∧ w'.cell? ⟨W.heap.size, 0, none⟩ = some (.int .i64 op1) ∧ w'.cell? ⟨W.heap.size, 1, none⟩ = some (.int .i64 ty1) ∧ w'.cell? ⟨W.heap.size, 2, none⟩ = some (.slice a1 args1.length cap1) ∧ w'.cell? ⟨W.heap.size, 3, none⟩ = some (.int .i64 vk1) ∧ w'.cell? ⟨W.heap.size, 4, none⟩ = some (.int .i64 vn1) ∧ w'.cell? ⟨W.heap.size, 5, none⟩ = some (.string vs1) ∧ w'.cell? ⟨W.heap.size, 6, none⟩ = some (.int .i64 tab1) ∧ w'.cell? ⟨W.heap.size, 7, none⟩ = some (.int .i64 col1) ∧ w'.cell? ⟨W1.heap.size, 0, none⟩ = some (.int .i64 op2) ∧ w'.cell? ⟨W1.heap.size, 1, none⟩ = some (.int .i64 ty2) ∧ w'.cell? ⟨W1.heap.size, 2, none⟩ = some (.slice a2 args2.length cap2) ∧ w'.cell? ⟨W1.heap.size, 3, none⟩ = some (.int .i64 vk2) ∧ w'.cell? ⟨W1.heap.size, 4, none⟩ = some (.int .i64 vn2) ∧ w'.cell? ⟨W1.heap.size, 5, none⟩ = some (.string vs2) ∧ w'.cell? ⟨W1.heap.size, 6, none⟩ = some (.int .i64 tab2) ∧ w'.cell? ⟨W1.heap.size, 7, none⟩ = some (.int .i64 col2) := fun w' h => by
        have hh := HW.out.trans (h.mono HW.out.size)
        have h1 := HB4.out.1.below hh
        have h2 := HB4.out.2.1.below hh
        exact ⟨h, h1.cell rfl, h1.cell rfl, h1.cell rfl, h1.cell rfl, h1.cell rfl, h1.cell rfl, h1.cell rfl, h1.cell rfl, h2.cell rfl, h2.cell rfl, h2.cell rfl, h2.cell rfl, h2.cell rfl, h2.cell rfl, h2.cell rfl, h2.cell rfl⟩
      have hs0 := hsp wr (Below.refl _ _)
      have HSP := Lib.hid hsp
      have hbw := HB4.out.2.2.trans (HW.out.mono HB4.out.2.2.size)
      have HC1 := fun (wv : World) (h : Below wr.heap.size wr wv) => conj_any (w := wv) (.mk op1 ty1 a1 cap1 args1 vk1 vn1 vs1 tab1 col1) (by have := HM.out.2.2.1; omega) (HM.out.1.below (hbw.trans (h.mono hbw.size)))
      have HC2 := fun (wv : World) (h : Below wr.heap.size wr wv) => conj_any (w := wv) (.mk op2 ty2 a2 cap2 args2 vk2 vn2 vs2 tab2 col2) (by have := HM.out.2.2.2; omega) (HM.out.2.1.below (hbw.trans (h.mono hbw.size)))
      have HSM := Lib.hid (fun (w9 : World) (a9 : Option Addr) (c9 : Nat) (l5 l6 : List XC) (hb : Below wr.heap.size wr w9) (h5 : l5.map XC.er = conj (XC.er (.mk op1 ty1 a1 cap1 args1 vk1 vn1 vs1 tab1 col1))) (h6 : l6.map XC.er = conj (XC.er (.mk op2 ty2 a2 cap2 args2 vk2 vn2 vs2 tab2 col2))) (hr : XC.Row (fun _ => True) w9 a9 c9 (l5 ++ l6)) => same_any (w := w9) (l := l) (r := l5 ++ l6) (by rw [HL.out.2.1, List.map_append, h5, h6]) (HL.out.1.below (HW.out.trans (hb.mono HW.out.size))) hr)
      rw [HL.out.2.2.2] at HSM
      obtain ⟨cx, hcx⟩ : ∃ c, conj (XC.er (.mk op1 ty1 a1 cap1 args1 vk1 vn1 vs1 tab1 col1)) = c := ⟨_, rfl⟩
      obtain ⟨cy, hcy⟩ : ∃ c, conj (XC.er (.mk op2 ty2 a2 cap2 args2 vk2 vn2 vs2 tab2 col2)) = c := ⟨_, rfl⟩
      have hpx := conj_pos9 _ (XC.er (.mk op1 ty1 a1 cap1 args1 vk1 vn1 vs1 tab1 col1)) (Nat.lt_succ_self _)
      have hpy := conj_pos9 _ (XC.er (.mk op2 ty2 a2 cap2 args2 vk2 vn2 vs2 tab2 col2)) (Nat.lt_succ_self _)
      have HSZ := Lib.hid (And.intro HM.out.2.2.1 HM.out.2.2.2)
      obtain ⟨sx, hsx⟩ : ∃ c, szC (XC.er (.mk op1 ty1 a1 cap1 args1 vk1 vn1 vs1 tab1 col1)) = c := ⟨_, rfl⟩
      obtain ⟨sy, hsy⟩ : ∃ c, szC (XC.er (.mk op2 ty2 a2 cap2 args2 vk2 vn2 vs2 tab2 col2)) = c := ⟨_, rfl⟩
      rw [hsx, hsy] at HSZ
      rw [hcx] at hpx
      rw [hcy] at hpy
      rw [hcx, hcy] at HSM
      simp only [hcx, hsx] at HC1
      simp only [hcy, hsy] at HC2
      have HPP := Lib.hid (And.intro hpx hpy)
      simp only [XC.val] at HC1 HC2
      have HD1 := Lib.hid HC1
      have HD2 := Lib.hid HC2
      clear HC1 HC2
      have HBW := Lib.hid hbw
      clear hsp hbw hcx hcy hpx hpy hsx hsy
      go_wp2_with fail
      go_region_held3 (fun w' => Below wr.heap.size wr w' ∧ w'.cell? ⟨W.heap.size, 0, none⟩ = some (.int .i64 op1) ∧ w'.cell? ⟨W.heap.size, 1, none⟩ = some (.int .i64 ty1) ∧ w'.cell? ⟨W.heap.size, 2, none⟩ = some (.slice a1 args1.length cap1) ∧ w'.cell? ⟨W.heap.size, 3, none⟩ = some (.int .i64 vk1) ∧ w'.cell? ⟨W.heap.size, 4, none⟩ = some (.int .i64 vn1) ∧ w'.cell? ⟨W.heap.size, 5, none⟩ = some (.string vs1) ∧ w'.cell? ⟨W.heap.size, 6, none⟩ = some (.int .i64 tab1) ∧ w'.cell? ⟨W.heap.size, 7, none⟩ = some (.int .i64 col1) ∧ w'.cell? ⟨W1.heap.size, 0, none⟩ = some (.int .i64 op2) ∧ w'.cell? ⟨W1.heap.size, 1, none⟩ = some (.int .i64 ty2) ∧ w'.cell? ⟨W1.heap.size, 2, none⟩ = some (.slice a2 args2.length cap2) ∧ w'.cell? ⟨W1.heap.size, 3, none⟩ = some (.int .i64 vk2) ∧ w'.cell? ⟨W1.heap.size, 4, none⟩ = some (.int .i64 vn2) ∧ w'.cell? ⟨W1.heap.size, 5, none⟩ = some (.string vs2) ∧ w'.cell? ⟨W1.heap.size, 6, none⟩ = some (.int .i64 tab2) ∧ w'.cell? ⟨W1.heap.size, 7, none⟩ = some (.int .i64 col2))
        (first | (go_split_ands; exact HSP.out _ (by assumption)) | (go_split_ands; exact HSP.out _ (Below.drew (by assumption))) | exact HSP.out _ (by assumption))
        (first
          | (go_at_call 6; have hzz := HD1; clear hzz; refine (HD1.out _ (And.left (by assumption))).mono ?_; rintro e w5 ⟨v5, l5, rfl, h5, e5, b5, c5⟩; have bv : Below wr.heap.size wr _ := And.left (by assumption); have B5 : Below wr.heap.size wr w5 := bv.trans (b5.mono bv.size); have HR5 := Lib.hid (And.intro h5 (And.intro e5 (And.intro c5 bv.size))); clear h5 e5 b5 c5 HD1)
          | (go_at_call 6; refine (HD2.out _ B5).mono ?_; rintro e w6 ⟨v6, l6, rfl, h6, e6, b6, c6⟩; have B6 : Below wr.heap.size wr w6 := B5.trans (b6.mono B5.size); have HR6 := Lib.hid e6; have HB1 := Lib.hid (own_low (HR5.out.1.own) (by have := HPP.out.1; rw [← HR5.out.2.1, List.length_map] at this; exact this)); have HAP := Lib.hid (LsC.app (HR5.out.1.below b6) h6 (fun k hk => Nat.lt_succ_of_lt (HR5.out.1.own.lt hk).2.1) (by have := HPP.out.2; rw [← e6, List.length_map] at this; exact this) (Nat.le_trans HB1.out.1 b6.size) (by have := HR5.out.2.2.1; have := HSZ.out.1; have := HSZ.out.2; omega)); clear h6 e6 b6 c6 HD2)
          | (have hzz := HAP; clear hzz; obtain ⟨v9, w9, hr9, ⟨a9, c9, rfl, hrow9⟩, f9⟩ := HAP.out _; refine step_appRun rfl (.tmp 32) (.tmp 34) 22 rfl v5 v6 rfl rfl hr9 ?_; have B9 : Below wr.heap.size wr w9 := B6.trans ((f9.mono (F1 := fun k => wr.heap.size ≤ k) (fun k hk => Nat.le_trans (Nat.le_succ_of_le HR5.out.2.2.2) (HR5.out.1.own.lt hk).1)).below (fun k hk => hk) B6.size); have HR9 := Lib.hid hrow9; clear hr9 hrow9 f9 HAP)
          | (go_at_call 10; have hq := HSM.out w9 a9 c9 l5 l6 B9 HR5.out.2.1 HR6.out HR9.out; rw [List.length_append] at hq; refine hq.mono ?_; clear hq; rintro e w10 ⟨rfl, b10⟩; have B10 : Below wr.heap.size wr w10 := B9.trans (b10.mono B9.size); clear b10))
      all_goals
        have HFF := Lib.hid (show P (.returned (.bool true)) w10 by rw [← HP.out]; exact ⟨rfl, HBW.out.trans (B10.mono HBW.out.size)⟩)
        go_wp2_with fail
        exact HFF.out

set_option maxRecDepth 100000 in
theorem lifted (os : Os) (started : os.Started) (H : Type) (enc : TypeId × Value → H) (F : Stop.Interp) :
    ReturnsInHanded {} Try.checked os 4 .any ((Rows.OpenSpec.upto Rows.normJoinsSpec).pre6 enc Try.prog Try.f4 Rows.normJoinsUptoRow.domain false) (((Rows.OpenSpec.upto Rows.normJoinsSpec).at F).post enc Try.prog Try.f4 false true false false) := by
  refine returnsInHanded_of_cond (C := Try.checked) (s := Rows.OpenSpec.upto Rows.normJoinsSpec) (k := Rows.uptoSmall) rfl own started (by kernel_rfl) Try.func4
    (OpenSpec.witness (enc := enc) (C := Try.checked) (s := Rows.OpenSpec.upto Rows.normJoinsSpec) (k := Rows.uptoSmall) rfl false ⟨#[], #[.agg #[.int .i64 0, .int .i64 0, .slice none 0 0, .int .i64 0, .int .i64 0, .string ByteArray.empty, .int .i64 0, .int .i64 0], .agg #[.int .i64 0, .int .i64 0, .slice none 0 0, .int .i64 0, .int .i64 0, .string ByteArray.empty, .int .i64 0, .int .i64 0]], []⟩ 8 (by kernel_rfl) (by kernel_rfl) (by kernel_rfl)
      (x := ([.agg [.lit (.int .i64 0), .lit (.int .i64 0), .nil, .agg [.lit (.int .i64 0), .lit (.int .i64 0), .lit (.string [])], .lit (.int .i64 0), .lit (.int .i64 0)], .agg [.lit (.int .i64 0), .lit (.int .i64 0), .nil, .agg [.lit (.int .i64 0), .lit (.int .i64 0), .lit (.string [])], .lit (.int .i64 0), .lit (.int .i64 0)]], [], [])) (by kernel_rfl) rfl (by kernel_rfl)) ?_
  intro W base args ds gs before hval0 hW _ hk0 _
  have hval : ∀ (j : Nat) t v, Try.f4.params[j]? = some t → args[j]? = some v → Value.okWide Try.prog W .any base t v := hval0
  have hW' := hW
  obtain ⟨p, q, hA0, hV, rfl, hfz, hnd⟩ := hW
  have hA : DataW.TrodAll enc Try.prog W 0 (fun _ => true) true Try.f4.params.toList args.toList ds p := hA0
  rw [Try.params4] at hA hval
  obtain ⟨v0, vs0, d0, ds0, p0, q0, hargs, rfl, rfl, h0, r0⟩ := trodAll_cons hA
  obtain ⟨v1, vs1, d1, ds1, p1, q1, rfl, rfl, rfl, h1, r1⟩ := trodAll_cons r0
  obtain ⟨rfl, rfl, rfl⟩ := trodAll_nil r1
  obtain rfl : args = #[v0, v1] := by cases args; simp_all
  obtain ⟨rfl, rfl⟩ := trodVars_none hV
  have hk : Rows.uptoSmall H [d0, d1] = true := hk0
  have lt0 : ∀ x ∈ p0, x.block < W.heap.size := by obtain ⟨m, hm⟩ := h0; exact DataW.trod_lt m _ _ _ hm
  have lt1 : ∀ x ∈ p1, x.block < W.heap.size := by obtain ⟨m, hm⟩ := h1; exact DataW.trod_lt m _ _ _ hm
  refine (walk (enc := enc) base v0 d0 p0 v1 d1 p1 W (hval 0 26 v0 rfl rfl) h0 (hval 1 26 v1 rfl rfl) h1 hk).mono fun e W' ⟨he, bel⟩ => ?_
  subst he
  exact ⟨_, rfl, _, _, _, [], _, [], hW', trodAll_mk1 (shut_bool Try.underlying4 _), (trodAll_cons_mk (Below.trod laidOut (by kernel_rfl) (of_decide_eq_true (by kernel_rfl)) h0 bel lt0) (trodAll_cons_mk (Below.trod laidOut (by kernel_rfl) (of_decide_eq_true (by kernel_rfl)) h1 bel lt1) trodAll_mk0)), rfl, bel.frame _, fun h => by cases h⟩

theorem over : Rows.normJoinsUptoRow.holds Try.pinned (Rows.OpenSpec.upto Rows.normJoinsSpec) :=
  OpenClaim.holds_of_cond 4 Try.f4 rfl rfl rfl rfl rfl rfl rfl ⟨rfl, rfl, rfl, rfl, rfl⟩ rfl rfl rfl rfl rfl (by kernel_rfl) Try.func4 (by kernel_rfl)
    (of_decide_eq_true (by kernel_rfl)) (by unfold Func.isWrapper; first | (rw [if_pos (by decide +kernel)]; kernel_rfl) | (rw [if_neg (by decide +kernel)]; exact ⟨rfl, rfl⟩))
    (fun os started H enc _ F => lifted os started H enc F)

theorem proved : Rows.NormJoinsUptoSaid :=
  over
end Go.Proofs.Ytccjeclncmogiaa.normJoins
