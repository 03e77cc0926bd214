/-
  RowsDecodes answers true at any columns and bytes of a bulk of at most 1048576: they are read as a row as the document says, and stay; the answers are new memory.
  Conditions: none but the row's own.
-/
import Derived.Test.YtpknoclnmhomiabRl1
import Derived.Test.YtpknoclnmhomiabRows
import Derived.WalkKit
import Derived.ProofKit
import Derived.OpenShut
import Derived.ShutString
import Derived.ChangeOld
import Derived.Below
import Derived.Carry
import Derived.JoinedCond
namespace Go.Proofs.Ytpknoclnmhomiab.rowsDecodes
open Go.ChangeShapes Go.WideShapes Go.ChangeAt Go.RowKit
open Go.Joins
set_option linter.unusedVariables false

theorem own : ownKnob Try.prog.godebug = none := by kernel_rfl
theorem laidOut : laidOutB Try.prog = true := by kernel_rfl

theorem rdecF_len (tf : Nat → Int) (qf : Nat → Bool) (l : List Nat) : ∀ r i p, (rdecF tf qf l r i p).1.length ≤ r
  | 0, i, p => by unfold rdecF; split <;> simp
  | r + 1, i, p => by
    have h1 := rdecF_len tf qf l r (i + 1) p
    have h2 := rdecF_len tf qf l r (i + 1) (rone (tf i) l p).2.2
    unfold rdecF rcons
    repeat' split
    all_goals first | (simp; done) | (simp only [List.length_cons]; omega)
theorem rdec_len (m : Nat) (tf : Nat → Int) (qf : Nat → Bool) (l : List Nat) : (rdec m tf qf l).1.length ≤ m := by
  unfold rdec
  repeat' split
  · simp
  · simp
  · exact rdecF_len tf qf l m 0 _
theorem rdec_err (m : Nat) (tf : Nat → Int) (qf : Nat → Bool) (l : List Nat) : (rdec m tf qf l).2 ≠ 0 → (rdec m tf qf l).1 = [] := by
  unfold rdec
  repeat' split
  · simp
  · simp
  · exact rdecF_err tf qf l m 0 _
theorem grown_trans {w w1 w2 : World} {g : Option Nat} (h1 : w.grownBy w1 g) (h2 : w1.grownBy w2 g) : w.grownBy w2 g :=
  ⟨h2.os.trans h1.os, h2.tape.trans h1.tape, h2.output.trans h1.output, Nat.le_trans h1.size h2.size, fun k hk hne => (h2.block k (Nat.lt_of_lt_of_le hk h1.size) hne).trans (h1.block k hk hne)⟩
theorem grown_set (w : World) (g o : Nat) (u : Value) : w.grownBy (w.setCell ⟨g, o, none⟩ u) (some g) :=
  ⟨rfl, rfl, rfl, by simp [World.setCell], fun k _ hk => heap_setCell_other w ⟨g, o, none⟩ k u (fun e => hk (by simp [e]))⟩
theorem isV_grown {w w' : World} {g b off m : Nat} {kf nf : Nat → Int} {sf : Nat → ByteArray} (h : IsV w b off m kf nf sf) (hg : w.grownBy w' (some g)) (hne : m = 0 ∨ b ≠ g) : IsV w' b off m kf nf sf := by
  have hb : 0 < m → w'.heap[b]? = w.heap[b]? := fun hm => hg.block b (h.hb hm) (fun e => by
    injection e with e
    rcases hne with h0 | h0
    · omega
    · exact h0 e)
  refine ⟨fun hm => Nat.lt_of_lt_of_le (h.hb hm) hg.size, ?_, ?_, ?_⟩
  all_goals
    intro i hi
    rw [World.cell?_of_block (w := w) (hb (by omega))]
  · exact h.c0 i hi
  · exact h.c1 i hi
  · exact h.c2 i hi

set_option maxHeartbeats 4000000 in
theorem walk {H : Type} {enc : TypeId × Value → H} (base : Nat) (v0 : Value) (d0 : DataW H) (p0 : List MemPlace) (v1 : Value) (d1 : DataW H) (p1 : List MemPlace) (W : World)
    (o0 : Value.okWide Try.prog W .any base 22 v0) (h0 : DataW.Trod enc Try.prog W 0 (fun _ => true) true 22 v0 d0 p0)
    (o1 : Value.okWide Try.prog W .any base 27 v1) (h1 : DataW.Trod enc Try.prog W 0 (fun _ => true) true 27 v1 d1 p1)
    (hk : Rows.uptoSmall H [d0, d1] = true) :
    Calls Try.prog 4 #[v0, v1] W fun e w' => e = .returned (.bool true) ∧ Below W.heap.size W w' := by
  obtain ⟨ac, m, capc, bc, offc, mf, tf, qf, rfl, hlc, hmc, hac, hC, -, -⟩ := open_cols o0 h0 (up_arg hk (by simp))
  obtain ⟨a, l, cap, b, off, rfl, hl, hm, ha, hA, hN⟩ := open_bytes o1 h1 (up_arg hk (by simp))
  have hmc2 : m ≤ 1048576 := by omega
  have HAC := Lib.hid hac
  have HC := Lib.hid (fun w' (h : Below W.heap.size W w') => hC.below h)
  have hm2 : l.length ≤ 1048576 := by omega
  have HS := Lib.hid speaks6_any
  have HA := Lib.hid ha
  have HN := Lib.hid hN
  have HLT := Lib.hid hA.lt
  have HAN := Lib.hid (show a = none → l.length = 0 by rintro rfl; rcases hN with ⟨_, h, _⟩ | ⟨_, h, _⟩; exact h; cases h)
  clear o0 o1 h0 h1 hk ha hN hac hC hmc hlc
  obtain ⟨X, hX⟩ : ∃ X, rdec m tf qf l = X := ⟨_, rfl⟩
  go_enter Try.func4, Try.ntmps4
  go_wp2_with fail
  refine (HS.out _).mono ?_
  rintro x w0 ⟨rfl, b0⟩
  have A0 := Lib.hid (hA.below b0)
  have M0 := Lib.hid (bytes_made w0)
  have hsz0 : w0.heap.size ≤ (w0.alloc (.cells #[] 5)).heap.size := by simp
  go_wp2_with (first | (at_builtin; refine wp_copyA rfl _ _ rfl w0.heap.size _ [] rfl M0.out a _ l rfl b off HN.out (A0.out.below ((Below.refl _ _).alloc (Nat.le_refl _) _)) (by simp; omega) hsz0 ?_; intro v1 w1 hown1 hgrow1; have B1 := Lib.hid (((Below.refl w0.heap.size w0).alloc (Nat.le_refl _) (.cells #[] 5)).grown hgrow1 hsz0 (fun k hk => (M0.out.lt k hk).1)); have O1 := Lib.hid hown1; clear hgrow1 hown1) | fail)
  obtain ⟨g1, c1, e1, i1, -⟩ := O1.out.isB HLT.out
  have e1' : v1 = .slice (some ⟨g1, 0, none⟩) l.length c1 := e1
  subst e1'
  have I1 := Lib.hid (show IsB w1 g1 0 l from i1)
  have A1 := Lib.hid (A0.out.below B1.out)
  have W1 := Lib.hid (stepB b0 B1.out)
  have hcc : l.length ≤ c1 ∧ c1 ≤ maxLen := OwB.caps (l := l) O1.out
  clear e1 i1 M0 A0 HS
  have HDX := Lib.hid (fun h => hX ▸ rdec_err m tf qf l (hX ▸ h))
  have hn : X.1.length ≤ m := by rw [← hX]; exact rdec_len m tf qf l
  have HX0 := Lib.hid hX
  clear hX
  go_wp2_with fail
  refine (copycols_own ac m capc bc offc mf tf qf (by omega) w1 HAC.out (HC.out _ W1.out)).mono ?_
  rintro x w1c ⟨vc1, rfl, oc1, bc1⟩
  obtain ⟨gc1, cc1, rfl, -, -, -, ic1⟩ := oc1.isC
  have I1c := Lib.hid (I1.out.below bc1)
  have A1c := Lib.hid (A1.out.below bc1)
  have W1c := Lib.hid (stepB W1.out bc1)
  have hsz1c := bc1.size
  have hd1 := (dec_r (some ⟨gc1, 0, none⟩) (some ⟨g1, 0, none⟩) gc1 0 m cc1 g1 0 c1 l mf tf qf (by omega) (by omega) hcc.1 hcc.2 w1c (.inr rfl) (.inr rfl) ic1 I1c.out).mono (fun e w' h => DecR.form h (rdec_err m tf qf l))
  rw [HX0.out] at hd1
  have HD1 := Lib.hid hd1
  clear bc1 oc1 ic1 I1 A1
  have HX := HX0
  clear hd1
  go_wp2_with fail
  refine HD1.out.mono ?_
  rintro x w2 ⟨aL, gL, cL, rfl, fL, vL, oL, b2⟩
  have I2' := Lib.hid (I1c.out.below b2)
  have A2' := Lib.hid (A1c.out.below b2)
  have W2' := Lib.hid (stepB W1c.out b2)
  have FL := Lib.hid fL
  have VL' := Lib.hid vL
  have OL' := Lib.hid oL
  have HLW := Lib.hid (show 0 < X.1.length → gL < w2.heap.size from VL'.out.hb)
  clear fL vL oL b2 HD1 I1c A1c
  go_wp2_with fail
  refine (copycols_own ac m capc bc offc mf tf qf (by omega) w2 HAC.out (HC.out _ W2'.out)).mono ?_
  rintro x w2c ⟨vc2, rfl, oc2, bc2⟩
  obtain ⟨gc2, cc2, rfl, -, -, -, ic2⟩ := oc2.isC
  have I2 := Lib.hid (I2'.out.below bc2)
  have A2 := Lib.hid (A2'.out.below bc2)
  have W2 := Lib.hid (stepB W2'.out bc2)
  have VL := Lib.hid (VL'.out.below bc2)
  have OL := Lib.hid (fun h => And.intro (OL'.out h).1 (rowBelow (OL'.out h).2 bc2))
  have hw2c := bc2.size
  have hd2 := (dec_r (some ⟨gc2, 0, none⟩) (some ⟨g1, 0, none⟩) gc2 0 m cc2 g1 0 c1 l mf tf qf (by omega) (by omega) hcc.1 hcc.2 w2c (.inr rfl) (.inr rfl) ic2 I2.out).mono (fun e w' h => DecR.form h (rdec_err m tf qf l))
  rw [HX.out] at hd2
  have HD2 := Lib.hid hd2
  clear bc2 oc2 ic2 hd2 I2' A2' W2' VL' OL'
  go_wp2_with fail
  refine HD2.out.mono ?_
  rintro x w3 ⟨aM, gM, cM, rfl, fM, vM, oM, b3⟩
  have I3 := Lib.hid (I2.out.below b3)
  have A3 := Lib.hid (A2.out.below b3)
  have W3 := Lib.hid (stepB W2.out b3)
  have VL3 := Lib.hid (VL.out.below b3)
  have OL3 := Lib.hid (fun h => And.intro (OL.out h).1 (rowBelow (OL.out h).2 b3))
  have FM := Lib.hid fM
  have VM := Lib.hid vM
  have OM := Lib.hid (fun h => (oM h).1)
  have hd3 := (rowdec_any ac a bc offc m capc b off cap l mf tf qf (by omega) (by omega) hl (by unfold maxLen; omega) w3 HAC.out HA.out (HC.out _ W3.out) A3.out).mono (fun e w' h => DecR.form (RdOk.decR h) (rdec_err m tf qf l))
  rw [HX.out] at hd3
  have HD3 := Lib.hid hd3
  have hw23 := b3.size
  clear fM vM oM b3 HD2 hd3 VL OL I2 A2 W2
  go_wp2_with fail
  refine HD3.out.mono ?_
  rintro x w4 ⟨aW, gW, cW, rfl, fW, vW, oW, b4⟩
  have I4 := Lib.hid (I3.out.below b4)
  have A4 := Lib.hid (A3.out.below b4)
  have W4 := Lib.hid (stepB W3.out b4)
  have VL4 := Lib.hid (VL3.out.below b4)
  have OL4 := Lib.hid (fun h => And.intro (OL3.out h).1 (rowBelow (OL3.out h).2 b4))
  have VM4 := Lib.hid (VM.out.below b4)
  have FW := Lib.hid fW
  have VW := Lib.hid vW
  have OW := Lib.hid (fun h => (oW h).1)
  have hw34 := b4.size
  clear fW vW oW b4 HD3 VL3 OL3 VM I3 A3 W3
  have hn' : X.1.length ≤ maxLen := by unfold maxLen; omega
  obtain ⟨vals, err⟩ := X
  simp only at *
  have HG := Lib.hid (samerow_all aL aW gL 0 gW 0 vals.length cL cW (kF vals) (nF vals) (sF vals) hn' w4 FL.out FW.out VL4.out VW.out)
  have HV := Lib.hid (And.intro W4.out (And.intro VL4.out (And.intro VM4.out VW.out)))
  have HSZ := Lib.hid (And.intro W1c.out hw34)
  go_wp2_with (first | (go_at_call 16; refine HG.out.mono ?_; rintro x w5 ⟨rfl, b5⟩; have W5 := Lib.hid (stepB W4.out b5); have s1 := str_arg (c := c1) (.inr rfl) (by simp) (I4.out.below b5); have s2 := str_arg (c := cap) HA.out HAN.out (A4.out.below b5); have VL5 := Lib.hid (VL4.out.below b5); have OL5 := Lib.hid (fun h => And.intro (OL4.out h).1 (rowBelow (OL4.out h).2 b5)); have VM5 := Lib.hid (VM4.out.below b5); have VW5 := Lib.hid (VW.out.below b5); clear b5))
  clear s1 s2 HG HV HSZ I4 A4 W4 VL4 OL4 VM4
  by_cases hz : vals.length = 0
  · have hm0 := samerow_all aM aW gM 0 gW 0 vals.length cM cW (kF vals) (nF vals) (sF vals) hn' w5 (.inl hz) (.inl hz) VM5.out VW5.out
    rw [hz] at hm0 ⊢
    have HM := Lib.hid hm0
    clear hm0
    go_loopw [56] (fun i wr => i = .int .i64 0 ∧ w5 = wr) (fun _ _ => 0)
    case atStart => exact ⟨rfl, rfl⟩
    case round =>
      obtain ⟨rfl, rfl⟩ := hrel
      go_wp2_with (first | (go_at_call 16; refine HM.out.mono ?_; rintro x w6 ⟨rfl, b6⟩; have W6 := Lib.hid (stepB W5.out b6); clear b6))
      go_ret
      exact ⟨rfl, W6.out⟩
  · obtain rfl : aL = some ⟨gL, 0, none⟩ := by rcases FL.out with h | h; exact absurd h hz; exact h
    have hpos : 0 < vals.length := Nat.pos_of_ne_zero hz
    have hgl := HLW.out hpos
    have hgm := OM.out hpos
    have hgw := OW.out hpos
    obtain ⟨hgb, hro⟩ := OL5.out hpos
    obtain ⟨n, en⟩ : ∃ n, vals.length = n := ⟨_, rfl⟩
    have hnn : n ≤ 1048576 := by omega
    have HM := Lib.hid (fun wr (h : w5.grownBy wr (some gL)) => samerow_all aM aW gM 0 gW 0 vals.length cM cW (kF vals) (nF vals) (sF vals) hn' wr FM.out FW.out (isV_grown VM5.out h (.inr (by omega))) (isV_grown VW5.out h (.inr (by omega))))
    have HRO := Lib.hid hro
    rw [en] at HM HRO ⊢
    have hWg : W.heap.size ≤ gL := Nat.le_trans W1c.out.size hgb
    have hW5 := W5.out.size
    clear hro hz hpos hgl hgm hgw hn hn' HLW
    go_loopw [56] (fun i wr => ∃ k : Nat, k ≤ n ∧ i = .int .i64 k ∧ w5.grownBy wr (some gL) ∧ (∃ xs, wr.ownsRow w1c.heap.size 43 3 (.slice (some ⟨gL, 0, none⟩) n cL) n xs)) (fun i _ => n - (intOf i).toNat)
    case atStart => exact ⟨0, Nat.zero_le _, rfl, ⟨rfl, rfl, rfl, Nat.le_refl _, fun _ _ _ => rfl⟩, _, HRO.out⟩
    case round =>
      obtain ⟨k, hk, rfl, hg, xs, hx⟩ := hrel
      by_cases c : k < n
      · have c1 : (k : Int) < (n : Int) := by omega
        have hlen := hx.1
        have q0 := hx.cellAt (k * 3) (by omega)
        have q1 := hx.cellAt (k * 3 + 1) (by omega)
        have q2 := hx.cellAt (k * 3 + 2) (by omega)
        rw [List.getElem?_eq_getElem (by omega)] at q0 q1 q2
        have f0 := hx.frozenAt (k * 3)
        have f1 := hx.frozenAt (k * 3 + 1)
        have f2 := hx.frozenAt (k * 3 + 2)
        have hs0 := hx.stored (k * 3) (.int .i64 9)
        have hs1 := hs0.1.stored (k * 3 + 1) (.int .i64 0)
        have hs2 := hs1.1.stored (k * 3 + 2) (.string ⟨#[]⟩)
        have HF := Lib.hid (And.intro (grown_trans (grown_trans (grown_trans hg hs0.2) hs1.2) hs2.2) hs2.1)
        generalize xs[k * 3] = y0 at *
        generalize xs[k * 3 + 1] = y1 at *
        generalize xs[k * 3 + 2] = y2 at *
        clear hs0 hs1 hs2 hx hg hlen
        go_wp2_with fail
        go_roundw
        case rel => exact ⟨k + 1, by omega, by go_num, HF.out.1, _, HF.out.2⟩
        case measure => first | (simp [intOf]; done) | (simp [intOf]; omega)
      · obtain rfl : k = n := by omega
        have HG := Lib.hid hg
        have HM2 := Lib.hid (HM.out _ hg)
        clear hg hx
        go_wp2_with (first | (go_at_call 16; refine HM2.out.mono ?_; rintro x w6 ⟨rfl, b6⟩; have W6 := Lib.hid (stepB (W5.out.grown HG.out hW5 (fun k hk => by injection hk with hk; omega)) b6); clear b6))
        go_ret
        exact ⟨rfl, W6.out⟩

set_option maxRecDepth 100000 in
theorem lifted (os : Os) (started : os.Started) (H : Type) (enc : TypeId × Value → H) (F : Stop.Interp) :
    ReturnsInHanded {} Try.checked os 4 .any ((Rows.OpenSpec.upto Rows.rowsDecodesSpec).pre6 enc Try.prog Try.f4 Rows.rowsDecodesUptoRow.domain false) (((Rows.OpenSpec.upto Rows.rowsDecodesSpec).at F).post enc Try.prog Try.f4 false true false false) := by
  refine returnsInHanded_of_cond (C := Try.checked) (s := Rows.OpenSpec.upto Rows.rowsDecodesSpec) (k := Rows.uptoSmall) rfl own started (by kernel_rfl) Try.func4
    (OpenSpec.witness (enc := enc) (C := Try.checked) (s := Rows.OpenSpec.upto Rows.rowsDecodesSpec) (k := Rows.uptoSmall) rfl false ⟨#[], #[.slice none 0 0, .slice none 0 0], []⟩ 8 (by kernel_rfl) (by kernel_rfl) (by kernel_rfl)
      (x := ([.nil, .nil], [], [])) (by kernel_rfl) rfl (by kernel_rfl)) ?_
  intro W base args ds gs before hval0 hW _ hk0 _
  have hval : ∀ (j : Nat) t v, Try.f4.params[j]? = some t → args[j]? = some v → Value.okWide Try.prog W .any base t v := hval0
  have hW' := hW
  obtain ⟨p, q, hA0, hV, rfl, hfz, hnd⟩ := hW
  have hA : DataW.TrodAll enc Try.prog W 0 (fun _ => true) true Try.f4.params.toList args.toList ds p := hA0
  rw [Try.params4] at hA hval
  obtain ⟨v0, vs0, d0, ds0, p0, q0, hargs, rfl, rfl, h0, r0⟩ := trodAll_cons hA
  obtain ⟨v1, vs1, d1, ds1, p1, q1, rfl, rfl, rfl, h1, r1⟩ := trodAll_cons r0
  obtain ⟨rfl, rfl, rfl⟩ := trodAll_nil r1
  obtain rfl : args = #[v0, v1] := by cases args; simp_all
  obtain ⟨rfl, rfl⟩ := trodVars_none hV
  have hk : Rows.uptoSmall H [d0, d1] = true := hk0
  have lt0 : ∀ x ∈ p0, x.block < W.heap.size := by obtain ⟨m, hm⟩ := h0; exact DataW.trod_lt m _ _ _ hm
  have lt1 : ∀ x ∈ p1, x.block < W.heap.size := by obtain ⟨m, hm⟩ := h1; exact DataW.trod_lt m _ _ _ hm
  refine (walk (enc := enc) base v0 d0 p0 v1 d1 p1 W (hval 0 22 v0 rfl rfl) h0 (hval 1 27 v1 rfl rfl) h1 hk).mono fun e W' ⟨he, bel⟩ => ?_
  subst he
  exact ⟨_, rfl, _, _, _, [], _, [], hW', trodAll_mk1 (shut_bool Try.underlying4 _), (trodAll_cons_mk (Below.trod laidOut (by kernel_rfl) (of_decide_eq_true (by kernel_rfl)) h0 bel lt0) (trodAll_cons_mk (Below.trod laidOut (by kernel_rfl) (of_decide_eq_true (by kernel_rfl)) h1 bel lt1) trodAll_mk0)), rfl, bel.frame _, fun h => by cases h⟩

theorem over : Rows.rowsDecodesUptoRow.holds Try.pinned (Rows.OpenSpec.upto Rows.rowsDecodesSpec) :=
  OpenClaim.holds_of_cond 4 Try.f4 rfl rfl rfl rfl rfl rfl rfl ⟨rfl, rfl, rfl, rfl, rfl⟩ rfl rfl rfl rfl rfl (by kernel_rfl) Try.func4 (by kernel_rfl)
    (of_decide_eq_true (by kernel_rfl)) (by unfold Func.isWrapper; first | (rw [if_pos (by decide +kernel)]; kernel_rfl) | (rw [if_neg (by decide +kernel)]; exact ⟨rfl, rfl⟩))
    (fun os started H enc _ F => lifted os started H enc F)

theorem proved : Rows.RowsDecodesUptoSaid :=
  over
end Go.Proofs.Ytpknoclnmhomiab.rowsDecodes
