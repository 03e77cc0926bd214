/-
  ParseParens answers true at any expression and any number: an expression's form is read as that expression, parentheses around it leave no trace.
  Conditions: none but the row's own; the listed variables hold what the program's text lays (the card ties them).
-/
import Derived.Test.YtkffomfbnbcgaaaGreatDoorZq2
import Derived.Test.YtkffomfbnbcgaaaGreatDoorCards
import Derived.Test.YtkffomfbnbcgaaaGreatDoorTie
import Derived.WalkKit
import Derived.ProofKit
import Derived.OpenShut
import Derived.ShutString
import Derived.ChangeOld
import Derived.Below
import Derived.Carry
import Derived.Deep.DeepHandedRow
import Derived.Deep.DeepWitnessRowRef
import Derived.Lib.LaidTab
namespace Go.Proofs.YtkffomfbnbcgaaaGreatDoor.parseParens
open Go.ChangeShapes Go.WideShapes Go.ChangeAt Go.RowKit
open Go.Joins
set_option linter.unusedVariables false

theorem own : ownKnob Tryz.prog.godebug = none := by kernel_rfl
theorem laidOut : laidOutB Tryz.prog = true := by kernel_rfl

set_option maxRecDepth 100000 in

set_option maxHeartbeats 16000000 in
theorem walk {H : Type} {enc : TypeId × Value → H} (base : Nat) (v0 : Value) (d0 : DataW H) (p0 : List MemPlace) (v1 : Value) (d1 : DataW H) (p1 : List MemPlace) (W : World)
    (o0 : Value.okWide Tryz.prog W .any base 30 v0) (h0 : DataW.Trod enc Tryz.prog W 0 (fun _ => true) true 30 v0 d0 p0)
    (o1 : Value.okWide Tryz.prog W .any base 3 v1) (h1 : DataW.Trod enc Tryz.prog W 0 (fun _ => true) true 3 v1 d1 p1)
    (hk : Rows.uptoSmall H [d0, d1] = true)
    (hL : laidMetH Tryz.prog Rows.parseParensUptoRow.laid W) :
    Calls Tryz.prog 7 #[v0, v1] W fun e w' => e = .returned (.bool true) ∧ Below W.heap.size W w' := by
  have hbk := oe_arg hk (d := d0) (by simp)
  obtain ⟨x, rfl, hmx, -, hsz⟩ := open_expr o0 h0
  obtain ⟨n, rfl⟩ := okWide_int Tryz.underlying3 o1
  have hE := errr_of_laid hL
  have hsz2 : szE x.er ≤ 1048576 := Nat.le_trans hsz hbk
  have hdp := dep_sz _ x.er (Nat.le_refl _)
  clear hk hL o0 h0 o1 h1 hbk hsz
  obtain ⟨E, hEE⟩ : ∃ E, x.er = E := ⟨_, rfl⟩
  obtain ⟨D, hD⟩ : ∃ D, depR E = D := ⟨_, rfl⟩
  have HCX := Lib.hid (fun (wv : World) (hv : Below W.heap.size W wv) => rexpr_any (D + 1) (w := wv) x (by rw [hEE, hD]; exact Nat.lt_succ_self _) (hmx.below hv))
  have HCD := Lib.hid (fun (wv : World) (hv : Below W.heap.size W wv) => rdep_any (D + 1) (w := wv) x (by rw [hEE, hD]; exact Nat.lt_succ_self _) (by omega) (hmx.below hv))
  have HCT := Lib.hid (fun (wv : World) (hv : Below W.heap.size W wv) (hr : RgE x.er) => rtext (D + 1) _ wv x (by rw [hEE, hD]; exact Nat.lt_succ_self _) hr hsz2 (hmx.below hv))
  have HRR := Lib.hid (fun (hr : rightB E = true) => right_rge _ E (Nat.le_refl _) hr)
  have HSQ := Lib.hid (fun (wv : World) (hv : Below W.heap.size W wv) (y : XE) (hy : y.er = E) (K' : Bl) (hmy : XE.Mem K' wv y) => same_any (w := wv) y x (hy.trans hEE.symm) hmy (hmx.below hv))
  rw [hEE] at HCX HCD HCT
  rw [hD] at HCD
  have HDD := Lib.hid hD
  clear hmx hsz2 hdp hD hEE
  obtain ⟨op, kind, num, scale, text, qual, a, cap, args⟩ := x
  simp only [XE.val] at HCX HCD HCT HSQ ⊢
  have b1 : Below W.heap.size W (W.alloc (.cells #[.int .i64 op, .slice a args.length cap, .int .i64 kind, .int .i64 num, .int .i64 scale, .string text, .string qual] 30)) := (Below.refl _ _).alloc (Nat.le_refl _) _
  have hn1 := Bx.new W #[.int .i64 op, .slice a args.length cap, .int .i64 kind, .int .i64 num, .int .i64 scale, .string text, .string qual] 30
  obtain ⟨ln, hln⟩ : ∃ ln, args.length = ln := ⟨_, rfl⟩
  rw [hln] at HCX HCD HCT HSQ b1 hn1 ⊢
  clear hln
  obtain ⟨wa, hwa⟩ : ∃ wa, W.alloc (.cells #[.int .i64 op, .slice a ln cap, .int .i64 kind, .int .i64 num, .int .i64 scale, .string text, .string qual] 30) = wa := ⟨_, rfl⟩
  rw [hwa] at b1 hn1
  have HN := Lib.hid hn1
  have HB1 := Lib.hid b1
  have HE1 := Lib.hid (hE.below b1)
  have HS := Lib.hid (speaks13_any wa (hE.below b1))
  clear hE b1 hn1
  go_enter Tryz.func7, Tryz.ntmps7
  go_wp2_with fail
  refine HS.out.mono ?_
  rintro e w0 ⟨rfl, b0⟩
  have HA0 := Lib.hid b0
  have HB0 := Lib.hid (HB1.out.trans (b0.mono HB1.out.size))
  obtain ⟨⟨x0, x1, x2, x3, x4, x5, x6⟩, -⟩ := (HN.out.below b0).seven
  have HC1 := Lib.hid (HCX.out w0 HB0.out)
  clear b0 HS
  by_cases hr : rightB E = true
  case neg =>
    have hrf : rightB E = false := by simpa using hr
    rw [hrf] at HC1
    clear hr hrf
    go_wp2_with fail
    try go_at_call 18
    refine HC1.out.mono ?_
    rintro e w1 ⟨rfl, b1⟩
    have HF := Lib.hid (HB0.out.trans (b1.mono HB0.out.size))
    clear b1
    go_wp2_with fail
    go_ret
    exact ⟨rfl, HF.out⟩
  rw [hr] at HC1
  have HRG := Lib.hid (HRR.out hr)
  clear hr HRR
  go_wp2_with fail
  try go_at_call 18
  refine HC1.out.mono ?_
  rintro e w1 ⟨rfl, b1⟩
  have HA1 := Lib.hid (HA0.out.trans (b1.mono HA0.out.size))
  have HB2 := Lib.hid (HB0.out.trans (b1.mono HB0.out.size))
  clear b1 x0 x1 x2 x3 x4 x5 x6 HC1
  obtain ⟨⟨x0, x1, x2, x3, x4, x5, x6⟩, -⟩ := (HN.out.below HA1.out).seven
  have HC2 := Lib.hid (HCD.out w1 HB2.out)
  go_wp2_with fail
  try go_at_call 19
  refine HC2.out.mono ?_
  rintro e w2 ⟨rfl, b2⟩
  have HA2 := Lib.hid (HA1.out.trans (b2.mono HA1.out.size))
  have HB3 := Lib.hid (HB2.out.trans (b2.mono HB2.out.size))
  clear b2 x0 x1 x2 x3 x4 x5 x6 HC2
  obtain ⟨⟨x0, x1, x2, x3, x4, x5, x6⟩, -⟩ := (HN.out.below HA2.out).seven
  by_cases hd20 : 20 < D
  case pos =>
    have d20 : (20 : Int) < (D : Int) := by omega
    clear hd20
    go_wp2_with fail
    go_ret
    exact ⟨rfl, HB3.out⟩
  have d20 : decide ((20 : Int) < (D : Int)) = false := by simp; omega
  have HD20 := Lib.hid hd20
  clear hd20
  have HC3 := Lib.hid (HCT.out w2 HB3.out HRG.out)
  obtain ⟨S, hS⟩ : ∃ S, strB (textE E) = S := ⟨_, rfl⟩
  rw [hS] at HC3
  have HSS := Lib.hid hS
  clear hS
  go_wp2_with fail
  try go_at_call 20
  refine HC3.out.mono ?_
  rintro e w3 ⟨rfl, b3⟩
  have HA3 := Lib.hid (HA2.out.trans (b3.mono HA2.out.size))
  have HB4 := Lib.hid (HB3.out.trans (b3.mono HB3.out.size))
  clear b3 x0 x1 x2 x3 x4 x5 x6 HC3 d20
  by_cases hl : 3000 < S.size
  case pos =>
    have d30 : (3000 : Int) < (S.size : Int) := by omega
    clear hl
    go_wp2_with fail
    go_ret
    exact ⟨rfl, HB4.out⟩
  have d30 : decide ((3000 : Int) < (S.size : Int)) = false := by simp; omega
  obtain ⟨m, hm16, hbits⟩ := and15 n
  obtain ⟨sz, hsz⟩ : ∃ sz, S.size = sz := ⟨_, rfl⟩
  have HSZ := Lib.hid hsz
  rw [hsz] at d30 hl
  go_wp2_with fail
  clear hsz
  go_loop [6, 7, 8] (fun o s i => ∃ (j : Nat), j ≤ m ∧ o = .string (strB (List.replicate j 40)) ∧ s = .string (strB (List.replicate j 41)) ∧ i = .int .i64 (j : Int)) (fun _ _ i => m - (intOf i).toNat)
  case atStart => exact ⟨0, Nat.zero_le _, rfl, rfl, rfl⟩
  case round =>
    obtain ⟨j, hj, rfl, rfl, rfl⟩ := hrel
    by_cases c : j < m
    · have c1 : (j : Int) < (m : Int) := by omega
      have hwk : IntKind.i64.wrap ((j : Int) + 1) = (j : Int) + 1 := by rw [IntKind.wrap_i64]; omega
      have r1 := rep_snoc 40 j
      have r2 := rep_snoc 41 j
      have s1 := rep_size 40 j
      have s2 := rep_size 41 j
      have HR := Lib.hid (And.intro r1 r2)
      obtain ⟨O, hO⟩ : ∃ O, strB (List.replicate j 40) = O := ⟨_, rfl⟩
      obtain ⟨C, hC⟩ : ∃ C, strB (List.replicate j 41) = C := ⟨_, rfl⟩
      rw [hO] at s1 HR ⊢
      rw [hC] at s2 HR ⊢
      have c2 : ¬ 9223372036854775807 < O.size + 1 := by omega
      have c3 : ¬ 9223372036854775807 < C.size + 1 := by omega
      clear r1 r2 s1 s2 hO hC
      go_wp2_with fail
      refine ⟨⟨j + 1, Nat.succ_le_of_lt c, by rw [← HR.out.1]; rfl, by rw [← HR.out.2]; rfl, by congr 1⟩, by simp [intOf]; omega⟩
    · have c1 : decide ((j : Int) < (m : Int)) = false := by simp; omega
      obtain rfl : j = m := by omega
      have s1 := rep_size 40 j
      have s2 := rep_size 41 j
      have hls : (textE E).length ≤ 3000 := by rw [← strB_len, HSS.out, HSZ.out]; omega
      obtain ⟨N1, hr1⟩ := par_read HRG.out 0 (by have := HD20.out; have := HDD.out; omega) hls (by omega)
      obtain ⟨N2, hr2⟩ := par_read HRG.out j (by have := HD20.out; have := HDD.out; omega) hls hm16
      rw [← par_one S (textE E) HSS.out] at hr1
      rw [← par_two S (textE E) HSS.out j] at hr2
      obtain ⟨O, hO⟩ : ∃ O, strB (List.replicate j 40) = O := ⟨_, rfl⟩
      obtain ⟨C, hC⟩ : ∃ C, strB (List.replicate j 41) = C := ⟨_, rfl⟩
      rw [hO] at s1 hr2 ⊢
      rw [hC] at s2 hr2 ⊢
      have hSz := HSZ.out
      have c2 : ¬ 9223372036854775807 < 20 + S.size := by omega
      have c3 : ¬ 9223372036854775807 < 20 + O.size := by omega
      have c4 : ¬ 9223372036854775807 < 20 + O.size + S.size := by omega
      have c5 : ¬ 9223372036854775807 < 20 + O.size + S.size + C.size := by omega
      have HP1 := Lib.hid (parse_p _ w3 (HE1.out.below HA3.out) N1 hr1)
      have HP2 := Lib.hid (fun (wv : World) (hv : Below wa.heap.size wa wv) => parse_p _ wv (HE1.out.below hv) N2 hr2)
      clear hr1 hr2 hls hO hC s1 s2 hSz d30 hl
      go_wp2_with fail
      try go_at_call 13
      refine HP1.out.mono ?_
      rintro e w4 hpe
      obtain ⟨b4, p, rfl, hp, mp⟩ := hpe.form
      clear hpe HP1
      obtain ⟨wz, hst, bz, bxz, mxz⟩ := put_st mp
      have HST := Lib.hid hst
      have b45 := b4.trans (bz.mono b4.size)
      have HAZ := Lib.hid (HA3.out.trans (b45.mono HA3.out.size))
      have HBZ := Lib.hid (HB4.out.trans (b45.mono HB4.out.size))
      have HXX := Lib.hid (And.intro hp (And.intro bxz mxz))
      clear hst bz bxz mxz mp hp b4 b45
      have HP3 := Lib.hid (HP2.out wz HAZ.out)
      unfold outR
      go_wp2_with (first | (refine wpSt rfl _ _ rfl rfl rfl HST.out ?_; clear HST))
      try go_at_call 13
      refine HP3.out.mono ?_
      rintro e w6 hpe
      obtain ⟨b6, q, rfl, hq, mq⟩ := hpe.form
      clear hpe HP2 HP3
      obtain ⟨wy, hst, by3, bxy, mxy⟩ := put_st mq
      have HST := Lib.hid hst
      have b67 := b6.trans (by3.mono b6.size)
      have HAY := Lib.hid (HAZ.out.trans (b67.mono HAZ.out.size))
      have HBY := Lib.hid (HBZ.out.trans (b67.mono HBZ.out.size))
      have HBX := Lib.hid (HXX.out.2.1.below b67)
      have mpy := XSt.Mem.frm (Frm.of_below (F := fun _ => False) b67) (fun _ _ e => e) HXX.out.2.2
      have HMP := Lib.hid mpy
      have HL1 := Lib.hid (ld_V HBX.out)
      have HL2 := Lib.hid (ld_V bxy)
      have HQ := Lib.hid (whole_q (w := wy) p q (HXX.out.1.trans hq.symm) mpy mxy)
      clear hst by3 bxy mxy mq hq b6 b67 mpy
      unfold outR
      go_wp2_with (first | (refine wpSt rfl _ _ rfl rfl rfl HST.out ?_; clear HST) | (refine wpLdG rfl _ rfl rfl HL1.out ?_; clear HL1) | (refine wpLdG rfl _ rfl rfl HL2.out ?_; clear HL2))
      try go_at_call 15
      refine HQ.out.mono ?_
      rintro e w7 ⟨rfl, b7⟩
      have HA7 := Lib.hid (HAY.out.trans (b7.mono HAY.out.size))
      have HB7 := Lib.hid (HBY.out.trans (b7.mono HBY.out.size))
      obtain ⟨⟨x0, x1, x2, x3, x4, x5, x6⟩, -⟩ := (HN.out.below HA7.out).seven
      obtain ⟨op3, kind3, num3, scale3, text3, qual3, a3, cap3, args3, hz⟩ : ∃ op kind num scale text qual a cap args, p.whr = .mk op kind num scale text qual a cap args := by cases p.whr; exact ⟨_, _, _, _, _, _, _, _, _, rfl⟩
      obtain ⟨v9, v10, v11, v12, v13, v14, v15⟩ := XSt.enc_w hz
      have hbx := HBX.out.below b7
      have y9 := hbx.cell v9
      have y10 := hbx.cell v10
      have y11 := hbx.cell v11
      have y12 := hbx.cell v12
      have y13 := hbx.cell v13
      have y14 := hbx.cell v14
      have y15 := hbx.cell v15
      have hwe : p.whr.er = E := congrArg Stm.whr HXX.out.1
      have HQ2 := Lib.hid (HSQ.out w7 HB7.out p.whr hwe _ (HMP.out.whr.below b7))
      rw [hz] at HQ2
      dsimp only at HQ2
      clear b7 hz v9 v10 v11 v12 v13 v14 v15 hbx hwe HSQ
      go_wp2_with fail
      try go_at_call 21
      refine HQ2.out.mono ?_
      rintro e w8 ⟨rfl, b8⟩
      have HF := Lib.hid (HB7.out.trans (b8.mono HB7.out.size))
      clear b8
      go_wp2_with fail
      go_ret
      exact ⟨rfl, HF.out⟩

/-- a world for the witness: the listed variables hold what is laid -/
noncomputable def laidWorld (os : Os) : World := lxWorld os
theorem laid_met (os : Os) : laidMetH Tryz.prog Rows.parseParensUptoRow.laid ((laidWorld os).forCall (fun _ _ => 0) ⟨#[], #[.agg #[.int .i64 0, .slice none 0 0, .int .i64 0, .int .i64 0, .int .i64 0, .string ByteArray.empty, .string ByteArray.empty], .int .i64 0], []⟩).memory := by
  show laidMetH Tryz.prog lxLaid _
  rw [lx_nohandle]
  exact laidMet.of_heap (w := lxWorld os) rfl (lx_met os)
theorem reads (os : Os) {H : Type} (enc : TypeId × Value → H) : ∃ places, DataW.whole enc Tryz.prog ((laidWorld os).forCall (fun _ _ => 0) ⟨#[], #[.agg #[.int .i64 0, .slice none 0 0, .int .i64 0, .int .i64 0, .int .i64 0, .string ByteArray.empty, .string ByteArray.empty], .int .i64 0], []⟩).memory Tryz.f7.params.toList Rows.parseParensSpec.vars false (#[.agg #[.int .i64 0, .slice none 0 0, .int .i64 0, .int .i64 0, .int .i64 0, .string ByteArray.empty, .string ByteArray.empty], .int .i64 0] : Array Value).toList 8 = some ([.agg [.lit (.int .i64 0), .nil, .lit (.int .i64 0), .lit (.int .i64 0), .lit (.int .i64 0), .lit (.string []), .lit (.string [])], .lit (.int .i64 0)], [], places) :=
  ⟨[], by kernel_rfl⟩

set_option maxRecDepth 100000 in
theorem lifted (os : Os) (started : os.Started) (H : Type) (enc : TypeId × Value → H) (F : Stop.Interp) :
    ReturnsInHanded {} Tryz.checked os 7 .any ((Rows.OpenSpec.upto Rows.parseParensSpec).preRow enc Tryz.prog Tryz.f7 Rows.parseParensUptoRow.domain false Rows.parseParensUptoRow.laid) (((Rows.OpenSpec.upto Rows.parseParensSpec).at F).post enc Tryz.prog Tryz.f7 false true false false) := by
  obtain ⟨places, hx⟩ := reads os enc
  refine returnsInHanded_of_row (C := Tryz.checked) (s := (Rows.OpenSpec.upto Rows.parseParensSpec)) own started (by kernel_rfl) Tryz.func7
    (witness_row_atRef (enc := enc) (C := Tryz.checked) false (laidWorld os) #[.agg #[.int .i64 0, .slice none 0 0, .int .i64 0, .int .i64 0, .int .i64 0, .string ByteArray.empty, .string ByteArray.empty], .int .i64 0] rfl (by kernel_rfl) (by kernel_rfl) (by kernel_rfl)
      (OpenSpec.preRow_of_cond 8 hx (by kernel_rfl) (fun k hk => by cases hk; kernel_rfl) (by kernel_rfl) (laid_met os))) ?_
  intro W base args ds gs before hval0 hW _ hcond _ hL _ _
  have hval : ∀ (j : Nat) t v, Tryz.f7.params[j]? = some t → args[j]? = some v → Value.okWide Tryz.prog W .any base t v := hval0
  have hW' := hW
  obtain ⟨p, q, hA0, hV, rfl, hfz, hnd⟩ := hW
  have hA : DataW.TrodAll enc Tryz.prog W 0 (fun _ => true) true Tryz.f7.params.toList args.toList ds p := hA0
  rw [Tryz.params7] at hA hval
  obtain ⟨v0, vs0, d0, ds0, p0, q0, hargs, rfl, rfl, h0, r0⟩ := trodAll_cons hA
  obtain ⟨v1, vs1, d1, ds1, p1, q1, rfl, rfl, rfl, h1, r1⟩ := trodAll_cons r0
  obtain ⟨rfl, rfl, rfl⟩ := trodAll_nil r1
  obtain rfl : args = #[v0, v1] := by cases args; simp_all
  obtain ⟨rfl, rfl⟩ := trodVars_none hV
  have hk : Rows.uptoSmall H [d0, d1] = true := hcond _ rfl
  have lt0 : ∀ x ∈ p0, x.block < W.heap.size := by obtain ⟨m, hm⟩ := h0; exact DataW.trod_lt m _ _ _ hm
  have lt1 : ∀ x ∈ p1, x.block < W.heap.size := by obtain ⟨m, hm⟩ := h1; exact DataW.trod_lt m _ _ _ hm
  refine (walk (enc := enc) base v0 d0 p0 v1 d1 p1 W (hval 0 30 v0 rfl rfl) h0 (hval 1 3 v1 rfl rfl) h1 hk hL).mono fun e W' ⟨he, bel⟩ => ?_
  subst he
  exact ⟨_, rfl, _, _, _, [], _, [], hW', trodAll_mk1 (shut_bool Tryz.underlying4 _), (trodAll_cons_mk (Below.trod laidOut (by kernel_rfl) (of_decide_eq_true (by kernel_rfl)) h0 bel lt0) (trodAll_cons_mk (Below.trod laidOut (by kernel_rfl) (of_decide_eq_true (by kernel_rfl)) h1 bel lt1) trodAll_mk0)), rfl, bel.frame _, fun h => by cases h⟩

theorem said : Rows.ParseParensUptoSaid :=
  OpenClaim.holds_of_cond 7 Tryz.f7 rfl rfl rfl rfl rfl rfl rfl ⟨rfl, rfl, rfl, rfl, rfl⟩ rfl rfl rfl rfl rfl (by kernel_rfl) Tryz.func7 (by kernel_rfl)
    (of_decide_eq_true (by kernel_rfl)) (by unfold Func.isWrapper; first | (rw [if_pos (by decide +kernel)]; kernel_rfl) | (rw [if_neg (by decide +kernel)]; exact ⟨rfl, rfl⟩))
    (fun os started H enc _ F => by rw [OpenClaim.pre_eq_preRow]; exact lifted os started H enc F)
theorem plain (f : FuncId) (fn : Func) (hf : Tryz.pinned.checked.prog.funcNamed "hasp/hasplaw13.ParseParens" = some f) (hfn : Tryz.pinned.checked.prog.funcs[f]? = some fn) :
    true = Tryz.pinned.checked.prog.looks [] ∧ ∀ (j : Nat) t, fn.params[j]? = some t → Tryz.pinned.checked.prog.wantsStandIn t = false := by
  obtain rfl : f = 7 := Option.some.inj ((show Tryz.prog.funcNamed "hasp/hasplaw13.ParseParens" = some 7 by kernel_rfl).symm.trans hf) |>.symm
  obtain rfl : fn = Tryz.f7 := (Option.some.inj (Tryz.func7.symm.trans hfn)).symm
  refine ⟨by kernel_rfl, fun j t ht => ?_⟩
  rw [Tryz.params7] at ht
  have hm : t ∈ ([30, 3] : List TypeId) := by simpa using Array.mem_of_getElem? ht
  have hall : (([30, 3] : List TypeId).all fun u => !Tryz.prog.wantsStandIn u) = true := by kernel_rfl
  exact (show Tryz.prog.wantsStandIn t = false by simpa using List.all_eq_true.1 hall t hm)

theorem proved : Rows.ParseParensUptoCardSaid :=
  Claim7.holds_tied_plain_at .later [] _ _ _ _ said (fun _ h => by cases h) (by kernel_rfl) (fun _ h => by cases h) parseParensUpto_row_tie rfl ⟨rfl, rfl⟩ (by kernel_rfl) rfl plain (by kernel_rfl)
end Go.Proofs.YtkffomfbnbcgaaaGreatDoor.parseParens
