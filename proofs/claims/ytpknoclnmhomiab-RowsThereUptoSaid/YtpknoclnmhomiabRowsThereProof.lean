/-
  RowsThere answers true at any columns, any row of a bulk of at most 1048576 and any byte: a row that fits is read again from its bytes; with a byte more it isn't.
  Conditions: none but the row's own.
-/
import Derived.Test.YtpknoclnmhomiabRl2
import Derived.Test.YtpknoclnmhomiabRows
import Derived.WalkKit
import Derived.ProofKit
import Derived.OpenShut
import Derived.ShutString
import Derived.ChangeOld
import Derived.Below
import Derived.Carry
import Derived.JoinedCond
namespace Go.Proofs.Ytpknoclnmhomiab.rowsThere
open Go.ChangeShapes Go.WideShapes Go.ChangeAt Go.RowKit
open Go.Joins
set_option linter.unusedVariables false

theorem own : ownKnob Try.prog.godebug = none := by kernel_rfl
theorem laidOut : laidOutB Try.prog = true := by kernel_rfl

theorem isV_grown {w w' : World} {g : Option Nat} {b off m : Nat} {kf nf : Nat → Int} {sf : Nat → ByteArray} (h : IsV w b off m kf nf sf) (hg : w.grownBy w' g) (hne : m = 0 ∨ some b ≠ g) : IsV w' b off m kf nf sf := by
  have hb : 0 < m → w'.heap[b]? = w.heap[b]? := fun hm => hg.block b (h.hb hm) (fun e => by
    rcases hne with h0 | h0
    · omega
    · exact h0 e)
  refine ⟨fun hm => Nat.lt_of_lt_of_le (h.hb hm) hg.size, ?_, ?_, ?_⟩
  all_goals
    intro i hi
    rw [World.cell?_of_block (w := w) (hb (by omega))]
  · exact h.c0 i hi
  · exact h.c1 i hi
  · exact h.c2 i hi
theorem isV_congr {w : World} {b off m : Nat} {kf nf : Nat → Int} {sf : Nat → ByteArray} {kf' nf' : Nat → Int} {sf' : Nat → ByteArray} (h : IsV w b off m kf nf sf) (he : ∀ i, i < m → kf i = kf' i ∧ nf i = nf' i ∧ sf i = sf' i) : IsV w b off m kf' nf' sf' :=
  ⟨h.hb, fun i hi => by rw [← (he i hi).1]; exact h.c0 i hi, fun i hi => by rw [← (he i hi).2.1]; exact h.c1 i hi, fun i hi => by rw [← (he i hi).2.2]; exact h.c2 i hi⟩
theorem vlist_fun (kf nf : Nat → Int) (sf : Nat → ByteArray) (m : Nat) : ∀ i, i < m → kF (vlist kf nf sf m) i = kf i ∧ nF (vlist kf nf sf m) i = nf i ∧ sF (vlist kf nf sf m) i = sf i := by
  intro i hi
  have e : (vlist kf nf sf m).getD i (0, 0, Em) = (kf i, nf i, sf i) := by
    unfold vlist
    simp [List.getD_eq_getElem?_getD, List.getElem?_map, List.getElem?_range hi]
  unfold kF nF sF
  rw [e]
  exact ⟨rfl, rfl, rfl⟩
theorem outB_row {w : World} {B : Nat} {v : Value} {l : List Nat} (h : OutB w B v l) : w.ownsRow B 5 1 v l.length (bcells l) := by
  rcases h with ⟨rfl, rfl⟩ | h
  · exact World.ownsRow_nil w B _ 1
  · exact h.1
theorem wp_push1 {ops : Array Oper} {rest : List Oper} {o : Oper} {a : Act} {w : World} {Q : Exit → Act → World → Prop} (hgd : o.guard = none) (s x : Operand)
    (ho : o.op = .call { callee := .builtin .append, args := #[s, x], argTypes := #[27, 27] })
    (base : Nat) (v : Value) (l : List Nat) (hs : a.eval s = v) (hown : w.ownsRow base 5 1 v l.length (bcells l)) (ad : Addr) (c : Nat) (y : Nat) (hx : a.eval x = .slice (some ad) 1 c)
    (hnews : ∀ j u, (bcells [y])[j]? = some u → w.cell? (ad.add j) = some u) (hsz : l.length + 1 ≤ 70368744177664) (hbase : base ≤ w.heap.size)
    (h : ∀ v' w', OwB w' base v' (l ++ [y]) → w.grownBy w' v.ownBlock → wpList Try.prog ops Q rest (a.put o.dst v') w') : wpList Try.prog ops Q (o :: rest) a w := by
  obtain ⟨i0, hi, hz0, hz1, hz2⟩ := info_parts infoB
  refine wpList_append_own w hgd s x _ ho base 5 i0 _ 1 1 Try.underlying27 hi hz0 hz1 hz2 rfl (by decide) v l.length (bcells l) hs hown ad 1 c (bcells [y]) hx rfl hnews (bcells_one [y]) (by unfold maxLen; omega) (by omega) hbase ?_
  intro v' w' h1 h2 h3
  refine h v' w' ⟨?_, fun e => absurd (h3.1 e).2 (by decide)⟩ h2
  rw [bcells_app, List.length_append]
  exact h1

set_option maxHeartbeats 4000000 in
theorem walk {H : Type} {enc : TypeId × Value → H} (base : Nat) (v0 : Value) (d0 : DataW H) (p0 : List MemPlace) (v1 : Value) (d1 : DataW H) (p1 : List MemPlace) (v2 : Value) (d2 : DataW H) (p2 : List MemPlace) (W : World)
    (o0 : Value.okWide Try.prog W .any base 22 v0) (h0 : DataW.Trod enc Try.prog W 0 (fun _ => true) true 22 v0 d0 p0)
    (o1 : Value.okWide Try.prog W .any base 23 v1) (h1 : DataW.Trod enc Try.prog W 0 (fun _ => true) true 23 v1 d1 p1)
    (o2 : Value.okWide Try.prog W .any base 5 v2) (h2 : DataW.Trod enc Try.prog W 0 (fun _ => true) true 5 v2 d2 p2)
    (hk : Rows.uptoSmall H [d0, d1, d2] = true) :
    Calls Try.prog 5 #[v0, v1, v2] W fun e w' => e = .returned (.bool true) ∧ Below W.heap.size W w' := by
  obtain ⟨a, m, cap, b, off, mf, tf, qf, rfl, hl, hm, ha, hA, hI, -⟩ := open_cols o0 h0 (up_arg hk (by simp))
  obtain ⟨a', n, cap', b', off', kf, nf, sf, rfl, hl', hn, ha', hB, hJ, -⟩ := open_vals3 o1 h1 (up_arg hk (by simp))
  obtain ⟨z, rfl, -, -, wz⟩ := open_int Try.underlying5 o2 h2
  have hzb : 0 ≤ z ∧ z ≤ 255 := by simpa [Lit.wf, IntKind.min, IntKind.max, IntKind.signed, IntKind.bits] using wz
  obtain ⟨y, rfl⟩ : ∃ y : Nat, z = (y : Int) := ⟨z.toNat, by omega⟩
  have hy : y < 256 := by omega
  have HS := Lib.hid speaks6_any
  have HA := Lib.hid ha
  have HA' := Lib.hid ha'
  have HJ := Lib.hid hJ
  have hm1 : m ≤ 1048576 := by omega
  have hn1 : n ≤ 1048576 := by omega
  clear o0 o1 o2 h0 h1 h2 hk ha ha' hJ hI wz hzb hm hn
  go_enter Try.func5, Try.ntmps5
  go_wp2_with fail
  refine (HS.out _).mono ?_
  rintro x w0 ⟨rfl, b0⟩
  have A0 := Lib.hid (hA.below b0)
  have V0 := Lib.hid (hB.below b0)
  have W0 := Lib.hid b0
  clear b0 hA hB
  go_wp2_with fail
  refine (copyrow_any a' n cap' b' off' kf nf sf (by omega) w0 HA'.out V0.out).mono ?_
  rintro x w2 ⟨g2, c2, rfl, i2, b2⟩
  have A2 := Lib.hid (A0.out.below b2)
  have V2 := Lib.hid (V0.out.below b2)
  have W2 := Lib.hid (stepB W0.out b2)
  have hE := enc_r a (some ⟨g2, 0, none⟩) b off m cap g2 0 n c2 mf tf qf kf nf sf (by omega) (by omega) w2 HA.out (.inr rfl) A2.out i2 HJ.out
  clear b2 i2 A0 V0
  by_cases hz : fitV m n tf qf kf nf sf = 0
  · obtain ⟨rfl, hfits⟩ := Fits.of hz (fun i hi => (HJ.out i hi).1)
    rw [hz] at hE
    have hd0 := rdec_there m tf qf kf nf sf hfits []
    rw [List.append_nil, if_pos rfl] at hd0
    have hd1 := rdec_there m tf qf kf nf sf hfits [y]
    rw [if_neg (by simp)] at hd1
    have hll : (rowB kf nf sf m).length ≤ 268435456 := by
      have h1 := rvs_le kf nf sf m (fun i hi => (vckE (hfits i hi).1.1).2.2)
      unfold rowB
      rw [List.length_append, rbits_length]
      omega
    have hlb := rowB_lt kf nf sf m
    generalize rowB kf nf sf m = L at *
    have HE := Lib.hid hE
    have HD0 := Lib.hid hd0
    have HD1 := Lib.hid hd1
    have HLB := Lib.hid hlb
    have HVF := Lib.hid (vlist_fun kf nf sf m)
    have HVL := Lib.hid (vlist_length kf nf sf m)
    clear hE hd0 hd1 hz hfits hlb
    go_wp2_with fail
    refine HE.out.mono ?_
    rintro x w3 ⟨v3, rfl, o3, -, b3⟩
    have OB := Lib.hid (o3 rfl)
    obtain ⟨a3, g3, c3, e3, f3, i3, k3, k4⟩ := (o3 rfl).form HLB.out
    have A3 := Lib.hid (A2.out.below b3)
    have V3 := Lib.hid (V2.out.below b3)
    have W3 := Lib.hid (stepB W2.out b3)
    have B3 := Lib.hid b3
    have hD := dec_r a a3 b off m cap g3 0 c3 L mf tf qf (by omega) (by omega) k3 k4 w3 HA.out f3 A3.out i3
    rw [HD0.out] at hD
    rw [← e3] at hD
    have HD := Lib.hid hD
    clear b3 o3 e3 f3 i3 k3 k4 hD HE
    go_wp2_with fail
    refine HD.out.mono ?_
    rintro x w4 ⟨v4, rfl, o4, -, b4⟩
    obtain ⟨a4, g4, c4, e4, f4, i4, j4⟩ := (o4 rfl).form
    rw [HVL.out] at e4 f4 i4 j4
    subst e4
    have I4 := Lib.hid (isV_congr i4 HVF.out)
    have F4 := Lib.hid f4
    have A4 := Lib.hid (A3.out.below b4)
    have V4 := Lib.hid (V3.out.below b4)
    have W4 := Lib.hid (stepB W3.out b4)
    have O4 := Lib.hid (OB.out.below b4)
    have OL := Lib.hid (outB_row OB.out).lt
    have B4 := Lib.hid (stepB B3.out b4)
    have J4 := Lib.hid j4
    have hs4 : w2.heap.size ≤ w4.heap.size := B4.out.size
    clear b4 o4 f4 i4 j4 HD OB A3 V3 W3
    go_wp2_with (first | (at_builtin; refine wp_push1 rfl _ _ rfl w2.heap.size v3 L rfl ((outB_row O4.out).alloc _) ⟨w4.heap.size, 0, none⟩ 1 y rfl (news1 w4 y) (by omega) (by simp; omega) ?_; intro v5 w5 hown5 hgrow5) | fail)
    have B5 := Lib.hid (show Below w2.heap.size w2 w5 from (B4.out.alloc hs4 _).grown hgrow5 (by simp; omega) (fun k hk => (OL.out k hk).1))
    have I5 := Lib.hid (isV_grown (I4.out.below ((Below.refl _ _).alloc (Nat.le_refl _) _)) hgrow5 (by
      by_cases h0 : m = 0
      · exact .inl h0
      · refine .inr (fun e => ?_)
        have h1 := (OL.out g4 e.symm).2
        have h2 := J4.out (by omega)
        omega))
    have A5 := Lib.hid (A2.out.below B5.out)
    have V5 := Lib.hid (V2.out.below B5.out)
    have W5 := Lib.hid (W2.out.trans (B5.out.mono W2.out.size))
    obtain ⟨g5, c5, e5, i5, -⟩ := hown5.isB (fun x hx => by
      rcases List.mem_append.1 hx with h | h
      · exact HLB.out x h
      · rw [List.mem_singleton] at h; rw [h]; exact hy)
    have hcc : (L ++ [y]).length ≤ c5 ∧ c5 ≤ maxLen := by
      rw [e5] at hown5
      exact OwB.caps (l := L ++ [y]) hown5
    have hD := dec_r a (some ⟨g5, 0, none⟩) b off m cap g5 0 c5 (L ++ [y]) mf tf qf (by omega) (by rw [List.length_append]; simp; omega) hcc.1 hcc.2 w5 HA.out (.inr rfl) A5.out i5
    rw [HD1.out, ← e5] at hD
    have HD := Lib.hid hD
    clear hown5 hgrow5 e5 i5 hcc hD
    refine HD.out.mono ?_
    rintro x w6 ⟨v6, rfl, -, -, b6⟩
    have I6 := I5.out.below b6
    have V6 := V5.out.below b6
    have W6 := Lib.hid (stepB W5.out b6)
    have HSR := Lib.hid (samerow_all a4 a' g4 0 b' off' m c4 cap' kf nf sf (by unfold maxLen; omega) w6 F4.out HA'.out I6 V6)
    clear I6 V6 b6 HD
    go_wp2_with (first | (go_at_call 16; refine HSR.out.mono ?_; rintro x w7 ⟨rfl, b7⟩; have W7 := Lib.hid (stepB W6.out b7); clear b7))
    go_ret
    exact ⟨rfl, W7.out⟩
  · have HE := Lib.hid hE
    have HF := Lib.hid (fun w3 g3 c3 (h : IsC w3 b off m mf tf qf) (h2 : IsV w3 g3 0 n kf nf sf) => fit_r a (some ⟨g3, 0, none⟩) b off m cap g3 0 n c3 mf tf qf kf nf sf (by omega) (by omega) w3 HA.out (.inr rfl) h h2 HJ.out)
    generalize fitV m n tf qf kf nf sf = F at *
    have hz' : (F != 0) = true := by simpa using hz
    have hff : (F == F) = true := by simp
    have HZ := Lib.hid hz
    clear hE hz
    go_wp2_with fail
    refine HE.out.mono ?_
    rintro x w3 ⟨v3, rfl, -, o3, b3⟩
    obtain ⟨a3, c3, rfl⟩ := o3 HZ.out
    have A3 := Lib.hid (A2.out.below b3)
    have V3 := Lib.hid (V2.out.below b3)
    have W3 := Lib.hid (stepB W2.out b3)
    clear b3 o3 HE
    go_wp2_with fail
    refine (copyrow_any a' n cap' b' off' kf nf sf (by omega) w3 HA'.out V3.out).mono ?_
    rintro x w4 ⟨g4, c4, rfl, i4, b4⟩
    have A4 := Lib.hid (A3.out.below b4)
    have W4 := Lib.hid (stepB W3.out b4)
    have I4 := Lib.hid i4
    clear b4 i4
    go_wp2_with (first | (go_at_call 13; refine (HF.out _ _ _ A4.out I4.out).mono ?_; rintro x w5 ⟨rfl, b5⟩; have W5 := Lib.hid (stepB W4.out b5); clear b5))
    go_ret
    exact ⟨rfl, W5.out⟩

set_option maxRecDepth 100000 in
theorem lifted (os : Os) (started : os.Started) (H : Type) (enc : TypeId × Value → H) (F : Stop.Interp) :
    ReturnsInHanded {} Try.checked os 5 .any ((Rows.OpenSpec.upto Rows.rowsThereSpec).pre6 enc Try.prog Try.f5 Rows.rowsThereUptoRow.domain false) (((Rows.OpenSpec.upto Rows.rowsThereSpec).at F).post enc Try.prog Try.f5 false true false false) := by
  refine returnsInHanded_of_cond (C := Try.checked) (s := Rows.OpenSpec.upto Rows.rowsThereSpec) (k := Rows.uptoSmall) rfl own started (by kernel_rfl) Try.func5
    (OpenSpec.witness (enc := enc) (C := Try.checked) (s := Rows.OpenSpec.upto Rows.rowsThereSpec) (k := Rows.uptoSmall) rfl false ⟨#[], #[.slice none 0 0, .slice none 0 0, .int .u8 0], []⟩ 8 (by kernel_rfl) (by kernel_rfl) (by kernel_rfl)
      (x := ([.nil, .nil, .lit (.int .u8 0)], [], [])) (by kernel_rfl) rfl (by kernel_rfl)) ?_
  intro W base args ds gs before hval0 hW _ hk0 _
  have hval : ∀ (j : Nat) t v, Try.f5.params[j]? = some t → args[j]? = some v → Value.okWide Try.prog W .any base t v := hval0
  have hW' := hW
  obtain ⟨p, q, hA0, hV, rfl, hfz, hnd⟩ := hW
  have hA : DataW.TrodAll enc Try.prog W 0 (fun _ => true) true Try.f5.params.toList args.toList ds p := hA0
  rw [Try.params5] at hA hval
  obtain ⟨v0, vs0, d0, ds0, p0, q0, hargs, rfl, rfl, h0, r0⟩ := trodAll_cons hA
  obtain ⟨v1, vs1, d1, ds1, p1, q1, rfl, rfl, rfl, h1, r1⟩ := trodAll_cons r0
  obtain ⟨v2, vs2, d2, ds2, p2, q2, rfl, rfl, rfl, h2, r2⟩ := trodAll_cons r1
  obtain ⟨rfl, rfl, rfl⟩ := trodAll_nil r2
  obtain rfl : args = #[v0, v1, v2] := by cases args; simp_all
  obtain ⟨rfl, rfl⟩ := trodVars_none hV
  have hk : Rows.uptoSmall H [d0, d1, d2] = true := hk0
  have lt0 : ∀ x ∈ p0, x.block < W.heap.size := by obtain ⟨m, hm⟩ := h0; exact DataW.trod_lt m _ _ _ hm
  have lt1 : ∀ x ∈ p1, x.block < W.heap.size := by obtain ⟨m, hm⟩ := h1; exact DataW.trod_lt m _ _ _ hm
  have lt2 : ∀ x ∈ p2, x.block < W.heap.size := by obtain ⟨m, hm⟩ := h2; exact DataW.trod_lt m _ _ _ hm
  refine (walk (enc := enc) base v0 d0 p0 v1 d1 p1 v2 d2 p2 W (hval 0 22 v0 rfl rfl) h0 (hval 1 23 v1 rfl rfl) h1 (hval 2 5 v2 rfl rfl) h2 hk).mono fun e W' ⟨he, bel⟩ => ?_
  subst he
  exact ⟨_, rfl, _, _, _, [], _, [], hW', trodAll_mk1 (shut_bool Try.underlying4 _), (trodAll_cons_mk (Below.trod laidOut (by kernel_rfl) (of_decide_eq_true (by kernel_rfl)) h0 bel lt0) (trodAll_cons_mk (Below.trod laidOut (by kernel_rfl) (of_decide_eq_true (by kernel_rfl)) h1 bel lt1) (trodAll_cons_mk (Below.trod laidOut (by kernel_rfl) (of_decide_eq_true (by kernel_rfl)) h2 bel lt2) trodAll_mk0))), rfl, bel.frame _, fun h => by cases h⟩

theorem over : Rows.rowsThereUptoRow.holds Try.pinned (Rows.OpenSpec.upto Rows.rowsThereSpec) :=
  OpenClaim.holds_of_cond 5 Try.f5 rfl rfl rfl rfl rfl rfl rfl ⟨rfl, rfl, rfl, rfl, rfl⟩ rfl rfl rfl rfl rfl (by kernel_rfl) Try.func5 (by kernel_rfl)
    (of_decide_eq_true (by kernel_rfl)) (by unfold Func.isWrapper; first | (rw [if_pos (by decide +kernel)]; kernel_rfl) | (rw [if_neg (by decide +kernel)]; exact ⟨rfl, rfl⟩))
    (fun os started H enc _ F => lifted os started H enc F)

theorem proved : Rows.RowsThereUptoSaid :=
  over
end Go.Proofs.Ytpknoclnmhomiab.rowsThere
