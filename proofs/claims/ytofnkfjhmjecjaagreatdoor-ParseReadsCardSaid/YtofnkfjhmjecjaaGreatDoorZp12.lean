/-
  Texts of mine put together, in build order.
  Conditions: as each declaration says.
-/
import Derived.Test.YtofnkfjhmjecjaaGreatDoorZp10
import Derived.Test.YtofnkfjhmjecjaaGreatDoorZp11
namespace Go.Proofs.YtofnkfjhmjecjaaGreatDoor
set_option maxRecDepth 100000
open Go.RowKit Go.Joins Go.ChangeShapes Go.WideShapes
set_option linter.unusedVariables false
set_option linter.unusedSimpArgs false
theorem at_q {w : World} {pb : Nat} {s : PS} (h : PsM w pb s) {q : ByteArray} {wd : List Nat} (hq : q = strB wd) (hw : ∀ x ∈ wd, x < 256) {b : Bool} (hb : atP wd s = b) :
  Calls Tryz.prog 102 #[.pointer (some ⟨pb, 0, none⟩), .string q] w fun e w' => e = .returned (.bool b) ∧ Stp w w' pb s := by
 subst hq
 rw [← hb]
 exact at_p h wd hw
theorem gotP_len (wd : List Nat) (s : PS) : (gotP wd s).2.rest.length ≤ s.rest.length := by
 unfold gotP
 split
 ·exact next_le s
 ·exact Nat.le_refl _
set_option maxHeartbeats 8000000 in
theorem sources_p (n pb : Nat) : PR 111 pb (RL sok) (fun s => bindR (sourceP isN s) fun x s1 => sourcesP isN n n [x] s1) := by
 intro w s r h hr
 generalize hP : EndP w pb (RL sok w.heap.size) r = P
 have HP := Lib.hid hP
 have hpb := h.lt
 have S0 := Lib.hid (Stp.refl h)
 have HR : Hid ((bindR (sourceP isN s) fun x s1 => sourcesP isN n n [x] s1) = some r) := Lib.hid hr
 clear hP h hr
 go_enter Tryz.func111, Tryz.ntmps111
 go_wp2_with (first | (go_at_call 172; rcases bind_call HR.out with ⟨c, hx, rfl⟩ | ⟨aa, sa, hx, hrr⟩; refine (source_p pb _ _ _ S0.out.ps hx).mono ?_; rintro e w1 ⟨ff, rfl⟩; exact ⟨rfl, by rw [← HP.out]; exact ⟨S0.out.fr.trans ff (New.refl _ _), rfl⟩⟩; refine (source_p pb _ _ _ S0.out.ps hx).mono ?_; rintro e w1 ⟨ff, v, rfl, hv, pp⟩; obtain ⟨y, rfl, hye, my⟩ := hv; have S1 := Lib.hid (S0.out.trans ⟨ff, pp⟩); have HR1 := Lib.hid hrr; have HL := Lib.hid (LsS.made (E := sok) (x := y) S1.out hpb my); have HYE := Lib.hid hye; clear hye my; obtain ⟨yt, ya, ⟨op0, kind0, num0, scale0, text0, qual0, a0, cap0, args0⟩⟩ := y; simp only [sok]; clear pp hrr hx HR))
 go_loopw [3] (fun i wr => ∃ (s : PS) (xs : List (List Nat × List Nat × XE)) (m : Nat), Hid (sourcesP isN n m (xs.map sok.er) s = some r) ∧ Hid (LsS sok w wr pb s i xs) ∧ xs.length ≤ 4) (fun _ wr => plen wr pb)
 case atStart => exact ⟨sa, [(yt, ya, XE.mk op0 kind0 num0 scale0 text0 qual0 a0 cap0 args0)], n, Lib.hid (by rw [List.map_cons, List.map_nil, HYE.out]; exact HR1.out), HL, by simp⟩
 case round =>
  clear HL HYE HR1 S0 S1
  obtain ⟨s2, xs, m, HR, HLS, hxm⟩ := hrel
  obtain ⟨m, rfl⟩ : ∃ m', m = m' + 1 := by
   cases m with
   | zero => have := HR.out; rw [sourcesP] at this; cases this
   | succ m => exact ⟨m, rfl⟩
  have hR := HR.out
  rw [sourcesP_eq] at hR
  have hpl := HLS.out.st.ps.plen
  obtain ⟨sla, slc, rfl, hc1, hc2⟩ := HLS.out.own.sl
  obtain ⟨n0, hn⟩ : ∃ n, xs.length = n := ⟨_, rfl⟩
  have HN := Lib.hid hn
  rw [List.length_map, hn] at hR
  rw [hn] at HLS hxm ⊢
  have S0 := Lib.hid HLS.out.st
  clear hn HR
  by_cases hj : atP wInner s2 = true ∨ atP wJoin s2 = true
  ·rw [if_pos hj] at hR
   by_cases c4 : n0 < 4
   ·rw [if_pos c4] at hR
    have c1 : (n0 : Int) < 4 := by omega
    have HMO := Lib.hid (pmust_ok 151)
    have hml : ∀ x s', moreSrc isN n s2 = some (.ok (x, s')) → s'.rest.length < s2.rest.length := fun x s' q => moreSrc_less isN q
    have hml2 : ∀ s', (∃ x, moreSrc isN n s2 = some (.ok (x, s'))) → s'.rest.length < s2.rest.length := fun s' q => by obtain ⟨x, q⟩ := q; exact hml x s' q
    unfold moreSrc at hR
    simp only [bindR_assoc, bindR_ret] at hR
    have HR3 : Hid ((bindR (needP wJoin (gotP wInner s2).2) fun _ s1 => bindR (sourceP isN s1) fun x s2 => bindR (needP wOn s2) fun _ s3 => bindR (wholeP isN n s3) fun e s4 => sourcesP isN n m (xs.map sok.er ++ [{ x with on_ := e }]) s4) = some r) := Lib.hid hR
    have HPL := Lib.hid hpl
    have HG := Lib.hid (gotP_len wInner s2)
    clear hR hml hml2 hpl
    cases hi : atP wInner s2 with
    | true =>
      go_wp2_with (first | (go_at_call 102; refine (at_q S0.out.ps zqinner (by decide) hi).mono ?_; rintro e w2 ⟨rfl, ss⟩; have S2 := Lib.hid (S0.out.trans ss); have HL2 := Lib.hid (HLS.out.stp ss); clear ss hi) | (go_at_call 21; refine (HMO.out _).mono ?_; rintro e wm ⟨rfl, rfl⟩; clear HMO) | (go_at_call 38; refine (found_q S2.out.ps zqinner (by decide)).mono ?_; rintro e w3 ⟨rfl, ss⟩; have S3 := Lib.hid (S2.out.trans ss); have HL3 := Lib.hid (HL2.out.stp ss); clear ss) | (go_at_call 44; rcases need_bind HR3.out with ⟨ha, rfl⟩ | ⟨ha, hrr⟩; refine (need_g S3.out.ps zqjoin (by decide) (by first | rfl | simp | assumption)).mono ?_; rintro e w4 hn; obtain ⟨rfl, ff⟩ := hn.2 ha; exact ⟨rfl, by rw [← HP.out]; exact ⟨S3.out.fr.trans ff (New.refl _ _), rfl⟩⟩; refine (need_g S3.out.ps zqjoin (by decide) (by first | rfl | simp | assumption)).mono ?_; rintro e w4 hn; obtain ⟨rfl, ss⟩ := hn.1 ha; have S4 := Lib.hid (S3.out.trans ss); have HR4 := Lib.hid hrr; have HL4 := Lib.hid (HL3.out.stp ss); have L4 := Lib.hid (atP_len ha); clear ss hn hrr ha HR3) | (go_at_call 172; rcases bind_call HR4.out with ⟨c, hx, rfl⟩ | ⟨aa, sa, hx, hrr⟩; refine (source_p pb _ _ _ S4.out.ps hx).mono ?_; rintro e w6 ⟨ff, rfl⟩; exact ⟨rfl, by rw [← HP.out]; exact ⟨S4.out.fr.trans ff (New.refl _ _), rfl⟩⟩; refine (source_p pb _ _ _ S4.out.ps hx).mono ?_; rintro e w6 ⟨ff, v, rfl, hv, pp⟩; obtain ⟨y, rfl, hye, my⟩ := hv; have S6 := Lib.hid (S4.out.trans ⟨ff, pp⟩); have HR6 := Lib.hid hrr; have L6 := Lib.hid ((Rdr.source isN).us 0 _ _ _ hx); have HL6 := Lib.hid (HL4.out.stp ⟨ff, pp⟩); have HYE := Lib.hid hye; clear hye my; obtain ⟨yt, ya, ⟨op0, kind0, num0, scale0, text0, qual0, a0, cap0, args0⟩⟩ := y; simp only [sok]; have T6 := Lib.hid ((Stp.refl S6.out.ps).alloc (.cells #[.string (strB yt), .string (strB ya), .int .i64 op0, .slice a0 args0.length cap0, .int .i64 kind0, .int .i64 num0, .int .i64 scale0, .string text0, .string qual0] 52)); have S6a := Lib.hid (S6.out.alloc (.cells #[.string (strB yt), .string (strB ya), .int .i64 op0, .slice a0 args0.length cap0, .int .i64 kind0, .int .i64 num0, .int .i64 scale0, .string text0, .string qual0] 52)); have LB6 := Lib.hid (Bx.new w6 #[.string (strB yt), .string (strB ya), .int .i64 op0, .slice a0 args0.length cap0, .int .i64 kind0, .int .i64 num0, .int .i64 scale0, .string text0, .string qual0] 52); have g3 : ¬ w6.heap.size = pb := (by have := S6.out.fr.size; omega); have g4 : pb < w6.heap.size := (by have := S6.out.fr.size; omega); clear pp hrr hx HR4) | (go_at_call 44; rcases need_bind HR6.out with ⟨ha, rfl⟩ | ⟨ha, hrr⟩; refine (need_g S6a.out.ps zqon (by decide) (by first | rfl | simp | assumption)).mono ?_; rintro e w7 hn; obtain ⟨rfl, ff⟩ := hn.2 ha; exact ⟨rfl, by rw [← HP.out]; exact ⟨S6a.out.fr.trans ff (New.refl _ _), rfl⟩⟩; refine (need_g S6a.out.ps zqon (by decide) (by first | rfl | simp | assumption)).mono ?_; rintro e w7 hn; obtain ⟨rfl, ss⟩ := hn.1 ha; have S7 := Lib.hid (S6a.out.trans ss); have HR7 := Lib.hid hrr; have L7 := Lib.hid (atP_len ha); have T7 := Lib.hid (T6.out.trans ss); have LB7 := Lib.hid (LB6.out.frm ss.fr g3); clear ss hn hrr ha HR6) | (go_at_call 116; rcases bind_call HR7.out with ⟨c, hx, rfl⟩ | ⟨aa, sa, hx, hrr⟩; refine (whole_p n pb _ _ _ S7.out.ps hx).mono ?_; rintro e w8 ⟨ff, rfl⟩; exact ⟨rfl, by rw [← HP.out]; exact ⟨S7.out.fr.trans ff (New.refl _ _), rfl⟩⟩; refine (whole_p n pb _ _ _ S7.out.ps hx).mono ?_; rintro e w8 ⟨ff, v, rfl, hv, pp⟩; obtain ⟨x, rfl, hxe, mx⟩ := hv; have S8 := Lib.hid (S7.out.trans ⟨ff, pp⟩); have HR8 := Lib.hid hrr; have L8 := Lib.hid ((Rdr.whole isN).us n _ _ _ hx); have T8 := Lib.hid (T7.out.trans ⟨ff, pp⟩); have LB8 := Lib.hid (LB7.out.frm ff g3); obtain ⟨⟨q0, q1, q2, q3, q4, q5, q6, q7, q8⟩, y0, y1, y2, y3, y4, y5, y6, y7, y8⟩ := (LB8.out).n9; have h67 : w6.heap.size < w7.heap.size := LB7.out.lt; have HXE := Lib.hid hxe; obtain ⟨op, kind, num, scale, text, qual, a, cap, args⟩ := x; unfold XE.val; have T9 := Lib.hid (T8.out.stL (g := w6.heap.size) (Nat.le_refl _) g4 (XE.enc (XE.mk op kind num scale text qual a cap args)) 2); have hmx : XE.Mem (GE w6.heap.size) (stL w8 w6.heap.size 2 (XE.enc (XE.mk op kind num scale text qual a cap args))) (XE.mk op kind num scale text qual a cap args) := (XE.Mem.mono (fun k hk => by have : w7.heap.size ≤ k := hk; show _ ≤ _; omega) _ (XE.Mem.frm (stL_one w8 w6.heap.size 2 (XE.enc (XE.mk op kind num scale text qual a cap args))) (fun k hk e => by have : w7.heap.size ≤ k := hk; omega) _ mx)); have HPU := Lib.hid (fun v9 w9 => LsS.push (E := sok) (y := (yt, ya, XE.mk op kind num scale text qual a cap args)) (v' := v9) (w' := w9) HL6.out T9.out hmx); have HOW := Lib.hid ((HL6.out.stp T9.out).own.below ((Below.refl _ _).alloc (Nat.le_refl _) (.cells (sok.cells [(yt, ya, XE.mk op kind num scale text qual a cap args)]).toArray sok.te))); have HNW := Lib.hid (OwR.made_cells (K := sok.toRK) (stL w8 w6.heap.size 2 (XE.enc (XE.mk op kind num scale text qual a cap args))) [(yt, ya, XE.mk op kind num scale text qual a cap args)]); have hsz9 : w8.heap.size = (stL w8 w6.heap.size 2 (XE.enc (XE.mk op kind num scale text qual a cap args))).heap.size := (by simp [stL, XE.enc, World.setCell]); have HS9 := Lib.hid hsz9; clear hxe mx hmx hsz9; clear pp hrr hx HR7) | (at_builtin; refine OwR.wp (K := sok.toRK) rfl _ _ rfl w.heap.size (.slice sla n0 slc) xs rfl HOW.out (by have := S8.out.fr.size; simp; omega) ⟨w8.heap.size, 0, none⟩ 1 1 [(yt, ya, XE.mk op kind num scale text qual a cap args)] rfl rfl (by rw [HS9.out]; exact HNW.out) (by have := HN.out; omega) ?_; intro v9 w9 o9 g9 n9; have HL9 := Lib.hid (HPU.out v9 w9 o9 g9 n9); clear o9 g9 n9))
      refine ⟨⟨sa, xs ++ [(yt, ya, XE.mk op kind num scale text qual a cap args)], m, Lib.hid ?_, HL9, by rw [List.length_append, HN.out, List.length_singleton]; omega⟩, ?_⟩
      ·rw [List.map_append, List.map_cons, List.map_nil]
       have h1 := HR8.out
       have h2 := HYE.out
       have h3 := HXE.out
       rw [← h2, ← h3] at h1
       exact h1
      ·rw [HL9.out.st.ps.plen]
       have h1 := HPL.out
       have h2 := HG.out
       have h3 := L4.out
       have h4 := L6.out
       have h5 := L7.out
       have h6 := L8.out
       omega
    | false =>
      have hjj : atP wJoin s2 = true := by
       rcases hj with h | h
       ·rw [hi] at h; cases h
       ·exact h
      go_wp2_with (first | (go_at_call 102; refine (at_q S0.out.ps zqinner (by decide) hi).mono ?_; rintro e w2a ⟨rfl, ss⟩; have S2a := Lib.hid (S0.out.trans ss); have HL2a := Lib.hid (HLS.out.stp ss); clear ss hi) | (go_at_call 102; refine (at_q S2a.out.ps zqjoin (by decide) hjj).mono ?_; rintro e w2 ⟨rfl, ss⟩; have S2 := Lib.hid (S2a.out.trans ss); have HL2 := Lib.hid (HL2a.out.stp ss); clear ss hjj) | (go_at_call 21; refine (HMO.out _).mono ?_; rintro e wm ⟨rfl, rfl⟩; clear HMO) | (go_at_call 38; refine (found_q S2.out.ps zqinner (by decide)).mono ?_; rintro e w3 ⟨rfl, ss⟩; have S3 := Lib.hid (S2.out.trans ss); have HL3 := Lib.hid (HL2.out.stp ss); clear ss) | (go_at_call 44; rcases need_bind HR3.out with ⟨ha, rfl⟩ | ⟨ha, hrr⟩; refine (need_g S3.out.ps zqjoin (by decide) (by first | rfl | simp | assumption)).mono ?_; rintro e w4 hn; obtain ⟨rfl, ff⟩ := hn.2 ha; exact ⟨rfl, by rw [← HP.out]; exact ⟨S3.out.fr.trans ff (New.refl _ _), rfl⟩⟩; refine (need_g S3.out.ps zqjoin (by decide) (by first | rfl | simp | assumption)).mono ?_; rintro e w4 hn; obtain ⟨rfl, ss⟩ := hn.1 ha; have S4 := Lib.hid (S3.out.trans ss); have HR4 := Lib.hid hrr; have HL4 := Lib.hid (HL3.out.stp ss); have L4 := Lib.hid (atP_len ha); clear ss hn hrr ha HR3) | (go_at_call 172; rcases bind_call HR4.out with ⟨c, hx, rfl⟩ | ⟨aa, sa, hx, hrr⟩; refine (source_p pb _ _ _ S4.out.ps hx).mono ?_; rintro e w6 ⟨ff, rfl⟩; exact ⟨rfl, by rw [← HP.out]; exact ⟨S4.out.fr.trans ff (New.refl _ _), rfl⟩⟩; refine (source_p pb _ _ _ S4.out.ps hx).mono ?_; rintro e w6 ⟨ff, v, rfl, hv, pp⟩; obtain ⟨y, rfl, hye, my⟩ := hv; have S6 := Lib.hid (S4.out.trans ⟨ff, pp⟩); have HR6 := Lib.hid hrr; have L6 := Lib.hid ((Rdr.source isN).us 0 _ _ _ hx); have HL6 := Lib.hid (HL4.out.stp ⟨ff, pp⟩); have HYE := Lib.hid hye; clear hye my; obtain ⟨yt, ya, ⟨op0, kind0, num0, scale0, text0, qual0, a0, cap0, args0⟩⟩ := y; simp only [sok]; have T6 := Lib.hid ((Stp.refl S6.out.ps).alloc (.cells #[.string (strB yt), .string (strB ya), .int .i64 op0, .slice a0 args0.length cap0, .int .i64 kind0, .int .i64 num0, .int .i64 scale0, .string text0, .string qual0] 52)); have S6a := Lib.hid (S6.out.alloc (.cells #[.string (strB yt), .string (strB ya), .int .i64 op0, .slice a0 args0.length cap0, .int .i64 kind0, .int .i64 num0, .int .i64 scale0, .string text0, .string qual0] 52)); have LB6 := Lib.hid (Bx.new w6 #[.string (strB yt), .string (strB ya), .int .i64 op0, .slice a0 args0.length cap0, .int .i64 kind0, .int .i64 num0, .int .i64 scale0, .string text0, .string qual0] 52); have g3 : ¬ w6.heap.size = pb := (by have := S6.out.fr.size; omega); have g4 : pb < w6.heap.size := (by have := S6.out.fr.size; omega); clear pp hrr hx HR4) | (go_at_call 44; rcases need_bind HR6.out with ⟨ha, rfl⟩ | ⟨ha, hrr⟩; refine (need_g S6a.out.ps zqon (by decide) (by first | rfl | simp | assumption)).mono ?_; rintro e w7 hn; obtain ⟨rfl, ff⟩ := hn.2 ha; exact ⟨rfl, by rw [← HP.out]; exact ⟨S6a.out.fr.trans ff (New.refl _ _), rfl⟩⟩; refine (need_g S6a.out.ps zqon (by decide) (by first | rfl | simp | assumption)).mono ?_; rintro e w7 hn; obtain ⟨rfl, ss⟩ := hn.1 ha; have S7 := Lib.hid (S6a.out.trans ss); have HR7 := Lib.hid hrr; have L7 := Lib.hid (atP_len ha); have T7 := Lib.hid (T6.out.trans ss); have LB7 := Lib.hid (LB6.out.frm ss.fr g3); clear ss hn hrr ha HR6) | (go_at_call 116; rcases bind_call HR7.out with ⟨c, hx, rfl⟩ | ⟨aa, sa, hx, hrr⟩; refine (whole_p n pb _ _ _ S7.out.ps hx).mono ?_; rintro e w8 ⟨ff, rfl⟩; exact ⟨rfl, by rw [← HP.out]; exact ⟨S7.out.fr.trans ff (New.refl _ _), rfl⟩⟩; refine (whole_p n pb _ _ _ S7.out.ps hx).mono ?_; rintro e w8 ⟨ff, v, rfl, hv, pp⟩; obtain ⟨x, rfl, hxe, mx⟩ := hv; have S8 := Lib.hid (S7.out.trans ⟨ff, pp⟩); have HR8 := Lib.hid hrr; have L8 := Lib.hid ((Rdr.whole isN).us n _ _ _ hx); have T8 := Lib.hid (T7.out.trans ⟨ff, pp⟩); have LB8 := Lib.hid (LB7.out.frm ff g3); obtain ⟨⟨q0, q1, q2, q3, q4, q5, q6, q7, q8⟩, y0, y1, y2, y3, y4, y5, y6, y7, y8⟩ := (LB8.out).n9; have h67 : w6.heap.size < w7.heap.size := LB7.out.lt; have HXE := Lib.hid hxe; obtain ⟨op, kind, num, scale, text, qual, a, cap, args⟩ := x; unfold XE.val; have T9 := Lib.hid (T8.out.stL (g := w6.heap.size) (Nat.le_refl _) g4 (XE.enc (XE.mk op kind num scale text qual a cap args)) 2); have hmx : XE.Mem (GE w6.heap.size) (stL w8 w6.heap.size 2 (XE.enc (XE.mk op kind num scale text qual a cap args))) (XE.mk op kind num scale text qual a cap args) := (XE.Mem.mono (fun k hk => by have : w7.heap.size ≤ k := hk; show _ ≤ _; omega) _ (XE.Mem.frm (stL_one w8 w6.heap.size 2 (XE.enc (XE.mk op kind num scale text qual a cap args))) (fun k hk e => by have : w7.heap.size ≤ k := hk; omega) _ mx)); have HPU := Lib.hid (fun v9 w9 => LsS.push (E := sok) (y := (yt, ya, XE.mk op kind num scale text qual a cap args)) (v' := v9) (w' := w9) HL6.out T9.out hmx); have HOW := Lib.hid ((HL6.out.stp T9.out).own.below ((Below.refl _ _).alloc (Nat.le_refl _) (.cells (sok.cells [(yt, ya, XE.mk op kind num scale text qual a cap args)]).toArray sok.te))); have HNW := Lib.hid (OwR.made_cells (K := sok.toRK) (stL w8 w6.heap.size 2 (XE.enc (XE.mk op kind num scale text qual a cap args))) [(yt, ya, XE.mk op kind num scale text qual a cap args)]); have hsz9 : w8.heap.size = (stL w8 w6.heap.size 2 (XE.enc (XE.mk op kind num scale text qual a cap args))).heap.size := (by simp [stL, XE.enc, World.setCell]); have HS9 := Lib.hid hsz9; clear hxe mx hmx hsz9; clear pp hrr hx HR7) | (at_builtin; refine OwR.wp (K := sok.toRK) rfl _ _ rfl w.heap.size (.slice sla n0 slc) xs rfl HOW.out (by have := S8.out.fr.size; simp; omega) ⟨w8.heap.size, 0, none⟩ 1 1 [(yt, ya, XE.mk op kind num scale text qual a cap args)] rfl rfl (by rw [HS9.out]; exact HNW.out) (by have := HN.out; omega) ?_; intro v9 w9 o9 g9 n9; have HL9 := Lib.hid (HPU.out v9 w9 o9 g9 n9); clear o9 g9 n9))
      refine ⟨⟨sa, xs ++ [(yt, ya, XE.mk op kind num scale text qual a cap args)], m, Lib.hid ?_, HL9, by rw [List.length_append, HN.out, List.length_singleton]; omega⟩, ?_⟩
      ·rw [List.map_append, List.map_cons, List.map_nil]
       have h1 := HR8.out
       have h2 := HYE.out
       have h3 := HXE.out
       rw [← h2, ← h3] at h1
       exact h1
      ·rw [HL9.out.st.ps.plen]
       have h1 := HPL.out
       have h2 := HG.out
       have h3 := L4.out
       have h4 := L6.out
       have h5 := L7.out
       have h6 := L8.out
       omega
   ·rw [if_neg c4] at hR
    have hrc : r = .error 151 := by injection hR with hR; exact hR.symm
    have HRC := Lib.hid hrc
    have c1 : decide ((n0 : Int) < 4) = false := by simp; omega
    have HMN := Lib.hid (pmust_no 151)
    clear hR hrc hpl
    cases hi : atP wInner s2 with
    | true =>
     go_wp2_with (first | (go_at_call 102; refine (at_q S0.out.ps zqinner (by decide) hi).mono ?_; rintro e w2 ⟨rfl, ss⟩; have S2 := Lib.hid (S0.out.trans ss); have HL2 := Lib.hid (HLS.out.stp ss); clear ss hi) | (go_at_call 21; refine (HMN.out _).mono ?_; rintro e wm ⟨rfl, rfl⟩; clear HMN))
     exact ⟨rfl, by rw [← HP.out, HRC.out]; exact ⟨S2.out.fr, rfl⟩⟩
    | false =>
     have hjj : atP wJoin s2 = true := by
      rcases hj with h | h
      ·rw [hi] at h; cases h
      ·exact h
     go_wp2_with (first | (go_at_call 102; refine (at_q S0.out.ps zqinner (by decide) hi).mono ?_; rintro e w2a ⟨rfl, ss⟩; have S2a := Lib.hid (S0.out.trans ss); have HL2a := Lib.hid (HLS.out.stp ss); clear ss hi) | (go_at_call 102; refine (at_q S2a.out.ps zqjoin (by decide) hjj).mono ?_; rintro e w2 ⟨rfl, ss⟩; have S2 := Lib.hid (S2a.out.trans ss); have HL2 := Lib.hid (HL2a.out.stp ss); clear ss hjj) | (go_at_call 21; refine (HMN.out _).mono ?_; rintro e wm ⟨rfl, rfl⟩; clear HMN))
     exact ⟨rfl, by rw [← HP.out, HRC.out]; exact ⟨S2.out.fr, rfl⟩⟩
  ·rw [if_neg hj] at hR
   have hrc : r = .ok (xs.map sok.er, s2) := by injection hR with hR; exact hR.symm
   have HRC := Lib.hid hrc
   have hi : atP wInner s2 = false := by
    cases h : atP wInner s2 with
    | false => rfl
    | true => exact absurd (.inl h) hj
   have hjj : atP wJoin s2 = false := by
    cases h : atP wJoin s2 with
    | false => rfl
    | true => exact absurd (.inr h) hj
   clear hR hrc hpl
   go_wp2_with (first | (go_at_call 102; refine (at_q S0.out.ps zqinner (by decide) hi).mono ?_; rintro e w2a ⟨rfl, ss⟩; have S2a := Lib.hid (S0.out.trans ss); have HL2a := Lib.hid (HLS.out.stp ss); clear ss hi) | (go_at_call 102; refine (at_q S2a.out.ps zqjoin (by decide) hjj).mono ?_; rintro e w2 ⟨rfl, ss⟩; have S2 := Lib.hid (S2a.out.trans ss); have HL2 := Lib.hid (HL2a.out.stp ss); clear ss hjj))
   have hfin : P (.returned (.slice sla n0 slc)) w2 := by rw [← HP.out, HRC.out]; exact HL2.out.out
   exact hfin
end Go.Proofs.YtofnkfjhmjecjaaGreatDoor

namespace Go.Proofs.YtofnkfjhmjecjaaGreatDoor
set_option maxRecDepth 100000
open Go.RowKit Go.Joins Go.ChangeShapes Go.WideShapes
set_option linter.unusedVariables false
set_option linter.unusedSimpArgs false
set_option maxHeartbeats 4000000 in
theorem list_it {g pb : Nat} {one : PS → RX Ite} (hone : PR g pb (RE itk) one) (henter : ∀ args w, (callFunc g args).run Tryz.prog w = .ok (.enter g args) w) (hus : ∀ s a s', one s = some (.ok (a, s')) → s'.rest.length ≤ s.rest.length)
  {w : World} {s : PS} {r : Except Nat (List Ite × PS)} (h : PsM w pb s) (n0 most : Nat) (hmost : most ≤ 100) (hmost1 : 1 ≤ most) (hr : listP one most n0 s = some r) :
  Calls Tryz.prog 109 #[.pointer (some ⟨pb, 0, none⟩), .func (.func g) #[.pointer (some ⟨pb, 0, none⟩)] #[], .int .i64 (most : Int)] w (EndP w pb (RL itk w.heap.size) r) := by
 generalize hP : EndP w pb (RL itk w.heap.size) r = P
 have HP := Lib.hid hP
 have hpb := h.lt
 unfold listP at hr
 cases h1 : one s with
 | none => rw [h1] at hr; cases hr
 | some r1 =>
  have HB := Lib.hid (hone w s r1 h h1)
  rw [h1] at hr
  have HONE := Lib.hid hone
  have HUS := Lib.hid hus
  clear hone hus h1 h hP
  match r1, hr, HB with
  | .error c, hr, HB =>
   have hrc : r = .error c := by injection hr with hr; exact hr.symm
   subst hrc
   clear hr
   go_enter Tryz.func109, Tryz.ntmps109
   go_wp2_with (first | (go_at_fn g; refine HB.out.mono ?_; rintro e w1 ⟨f1, rfl⟩; have F1 := Lib.hid f1; clear f1 HB))
   exact ⟨rfl, by rw [← HP.out]; exact ⟨F1.out, rfl⟩⟩
  | .ok (b1, s1), hr, HB =>
   have HR : Hid (lsP one most n0 [b1] s1 = some r) := Lib.hid hr
   clear hr
   go_enter Tryz.func109, Tryz.ntmps109
   go_wp2_with (first | (go_at_fn g; refine HB.out.mono ?_; rintro e w1 ⟨f1, v, rfl, ⟨x, rfl, hxe, m1⟩, p1⟩; have HL := Lib.hid (LsS.made (E := itk) (x := x) ⟨f1, p1⟩ hpb m1); have HXE := Lib.hid hxe; clear f1 p1 m1 HB hxe; obtain ⟨⟨op, kind, num, scale, text, qual, a, cap, args⟩, nm⟩ := x; simp only [itk]))
   go_loopw [7] (fun i wr => ∃ (s : PS) (xs : List (XE × List Nat)) (m : Nat), Hid (lsP one most m (xs.map itk.er) s = some r) ∧ Hid (LsS itk w wr pb s i xs) ∧ xs.length ≤ most) (fun _ wr => plen wr pb)
   case atStart => exact ⟨s1, [(XE.mk op kind num scale text qual a cap args, nm)], n0, Lib.hid (by rw [List.map_cons, List.map_nil, HXE.out]; exact HR.out), HL, hmost1⟩
   case round =>
    clear HL HXE HR
    obtain ⟨s2, xs, m, HR, HLS, hxm⟩ := hrel
    obtain ⟨m, rfl⟩ : ∃ m', m = m' + 1 := by
     cases m with
     | zero => have := HR.out; rw [lsP] at this; cases this
     | succ m => exact ⟨m, rfl⟩
    have hR := HR.out
    rw [lsP] at hR
    have hpl := HLS.out.st.ps.plen
    obtain ⟨sa, sc, rfl, hc1, hc2⟩ := HLS.out.own.sl
    obtain ⟨n, hn⟩ : ∃ n, xs.length = n := ⟨_, rfl⟩
    have HN := Lib.hid hn
    rw [List.length_map, hn] at hR
    rw [hn] at HLS hxm ⊢
    clear hn
    cases ha : atP [44] s2 with
    | false =>
     rw [if_neg (by rw [ha]; decide)] at hR
     have hrc : r = .ok (xs.map itk.er, s2) := by injection hR with hR; exact hR.symm
     have HF := Lib.hid (fun (w' : World) (hp : PsM w' pb s2) => found_no hp qcomma (by decide) ha)
     have HRC := Lib.hid hrc
     clear hR ha hrc hpl
     go_wp2_with (first | (go_at_call 38; refine (HF.out _ HLS.out.st.ps).mono ?_; rintro e w2 ⟨rfl, ss⟩; have HL2 := Lib.hid (HLS.out.stp ss); clear ss HF))
     have hfin : P (.returned (.slice sa n sc)) w2 := by rw [← HP.out, HRC.out]; exact HL2.out.out
     exact hfin
    | true =>
     rw [if_pos ha] at hR
     have HF := Lib.hid (fun (w' : World) (hp : PsM w' pb s2) => found_yes hp qcomma (by decide) ha)
     have hlen := atP_len ha
     by_cases c : n < most
     ·rw [if_pos c] at hR
      have c1 : (n : Int) < (most : Int) := by omega
      have HMO := Lib.hid (pmust_ok 151)
      cases h2 : one s2.next with
      | none => rw [h2] at hR; cases hR
      | some r2 =>
       have HB2 := Lib.hid (fun (w' : World) (hp : PsM w' pb s2.next) => HONE.out w' s2.next r2 hp h2)
       have HU := Lib.hid (fun a s' (q : r2 = .ok (a, s')) => HUS.out s2.next a s' (by rw [h2, q]))
       have HPL := Lib.hid (And.intro hpl hlen)
       rw [h2] at hR
       clear h2 ha hpl hlen
       match r2, hR, HB2 with
       | .error e0, hR, HB2 =>
        have hrc : r = .error e0 := by injection hR with hR; exact hR.symm
        have HRC := Lib.hid hrc
        clear hR hrc HU
        go_wp2_with (first | (go_at_call 38; refine (HF.out _ HLS.out.st.ps).mono ?_; rintro e w2 ⟨rfl, ss⟩; have HL2 := Lib.hid (HLS.out.stp ss); clear ss HF) | (go_at_call 21; refine (HMO.out _).mono ?_; rintro e w3 ⟨rfl, rfl⟩; clear HMO) | (go_at_fn g; refine (HB2.out _ HL2.out.st.ps).mono ?_; rintro e w4 ⟨f4, rfl⟩; have F4 := Lib.hid (HL2.out.st.fr.trans f4 (New.refl _ _)); clear f4 HB2))
        exact ⟨rfl, by rw [← HP.out, HRC.out]; exact ⟨F4.out, rfl⟩⟩
       | .ok (b2, s3), hR, HB2 =>
        have HR3 : Hid (lsP one most m (xs.map itk.er ++ [b2]) s3 = some r) := Lib.hid hR
        have hu := HU.out b2 s3 rfl
        have HU3 := Lib.hid hu
        clear hR HU hu
        go_wp2_with (first | (go_at_call 38; refine (HF.out _ HLS.out.st.ps).mono ?_; rintro e w2 ⟨rfl, ss⟩; have HL2 := Lib.hid (HLS.out.stp ss); clear ss HF) | (go_at_call 21; refine (HMO.out _).mono ?_; rintro e w3 ⟨rfl, rfl⟩; clear HMO) | (go_at_fn g; refine (HB2.out _ HL2.out.st.ps).mono ?_; rintro e w4 ⟨f4, v4, rfl, ⟨x, rfl, hxe, m4⟩, p4⟩; have H4 := Lib.hid (And.intro (Stp.mk f4 p4) m4); have HXE2 := Lib.hid hxe; have HPU := Lib.hid (fun v9 w9 => LsS.push (E := itk) (y := x) (v' := v9) (w' := w9) HL2.out ⟨f4, p4⟩ m4); have HOW := Lib.hid (((HL2.out.stp ⟨f4, p4⟩).own).below ((Below.refl w4.heap.size w4).alloc (Nat.le_refl _) (.cells (itk.cells [x]).toArray itk.te))); have HNW := Lib.hid (OwR.made_cells (K := itk.toRK) w4 [x]); clear f4 p4 m4 HB2 hxe; obtain ⟨⟨op2, kind2, num2, scale2, text2, qual2, a2, cap2, args2⟩, nm2⟩ := x; simp only [itk]) | (at_builtin; refine OwR.wp (K := itk.toRK) rfl _ _ rfl w.heap.size (.slice sa n sc) xs rfl HOW.out (by have := HL2.out.st.fr.size; have := H4.out.1.fr.size; simp; omega) ⟨w4.heap.size, 0, none⟩ 1 1 [(XE.mk op2 kind2 num2 scale2 text2 qual2 a2 cap2 args2, nm2)] rfl rfl HNW.out (by have := HN.out; omega) ?_; intro v9 w9 o9 g9 n9; have HL9 := Lib.hid (HPU.out v9 w9 o9 g9 n9); clear o9 g9 n9))
        refine ⟨⟨s3, xs ++ [(XE.mk op2 kind2 num2 scale2 text2 qual2 a2 cap2 args2, nm2)], m, Lib.hid ?_, HL9, by rw [List.length_append, HN.out, List.length_singleton]; omega⟩, ?_⟩
        ·rw [List.map_append, List.map_cons, List.map_nil, HXE2.out]
         exact HR3.out
        ·rw [HL9.out.st.ps.plen]
         have h1 := HPL.out
         have h2 := HU3.out
         omega
     ·rw [if_neg c] at hR
      have hrc : r = .error 151 := by injection hR with hR; exact hR.symm
      have HRC := Lib.hid hrc
      have c1 : decide ((n : Int) < (most : Int)) = false := by simp; omega
      have HMN := Lib.hid (pmust_no 151)
      clear hR hrc ha hpl hlen
      go_wp2_with (first | (go_at_call 38; refine (HF.out _ HLS.out.st.ps).mono ?_; rintro e w2 ⟨rfl, ss⟩; have HL2 := Lib.hid (HLS.out.stp ss); clear ss HF) | (go_at_call 21; refine (HMN.out _).mono ?_; rintro e w3 ⟨rfl, rfl⟩; clear HMN))
      exact ⟨rfl, by rw [← HP.out, HRC.out]; exact ⟨HL2.out.st.fr, rfl⟩⟩
end Go.Proofs.YtofnkfjhmjecjaaGreatDoor

namespace Go.Proofs.YtofnkfjhmjecjaaGreatDoor
set_option maxRecDepth 100000
open Go.RowKit Go.Joins Go.ChangeShapes Go.WideShapes
set_option linter.unusedVariables false
set_option linter.unusedSimpArgs false
set_option maxHeartbeats 4000000 in
theorem list_sr {g pb : Nat} {one : PS → RX Srt} (hone : PR g pb (RE srk) one) (henter : ∀ args w, (callFunc g args).run Tryz.prog w = .ok (.enter g args) w) (hus : ∀ s a s', one s = some (.ok (a, s')) → s'.rest.length ≤ s.rest.length)
  {w : World} {s : PS} {r : Except Nat (List Srt × PS)} (h : PsM w pb s) (n0 most : Nat) (hmost : most ≤ 100) (hmost1 : 1 ≤ most) (hr : listP one most n0 s = some r) :
  Calls Tryz.prog 112 #[.pointer (some ⟨pb, 0, none⟩), .func (.func g) #[.pointer (some ⟨pb, 0, none⟩)] #[], .int .i64 (most : Int)] w (EndP w pb (RL srk w.heap.size) r) := by
 generalize hP : EndP w pb (RL srk w.heap.size) r = P
 have HP := Lib.hid hP
 have hpb := h.lt
 unfold listP at hr
 cases h1 : one s with
 | none => rw [h1] at hr; cases hr
 | some r1 =>
  have HB := Lib.hid (hone w s r1 h h1)
  rw [h1] at hr
  have HONE := Lib.hid hone
  have HUS := Lib.hid hus
  clear hone hus h1 h hP
  match r1, hr, HB with
  | .error c, hr, HB =>
   have hrc : r = .error c := by injection hr with hr; exact hr.symm
   subst hrc
   clear hr
   go_enter Tryz.func112, Tryz.ntmps112
   go_wp2_with (first | (go_at_fn g; refine HB.out.mono ?_; rintro e w1 ⟨f1, rfl⟩; have F1 := Lib.hid f1; clear f1 HB))
   exact ⟨rfl, by rw [← HP.out]; exact ⟨F1.out, rfl⟩⟩
  | .ok (b1, s1), hr, HB =>
   have HR : Hid (lsP one most n0 [b1] s1 = some r) := Lib.hid hr
   clear hr
   go_enter Tryz.func112, Tryz.ntmps112
   go_wp2_with (first | (go_at_fn g; refine HB.out.mono ?_; rintro e w1 ⟨f1, v, rfl, ⟨x, rfl, hxe, m1⟩, p1⟩; have HL := Lib.hid (LsS.made (E := srk) (x := x) ⟨f1, p1⟩ hpb m1); have HXE := Lib.hid hxe; clear f1 p1 m1 HB hxe; obtain ⟨⟨op, kind, num, scale, text, qual, a, cap, args⟩, sb⟩ := x; simp only [srk]))
   go_loopw [7] (fun i wr => ∃ (s : PS) (xs : List (XE × Bool)) (m : Nat), Hid (lsP one most m (xs.map srk.er) s = some r) ∧ Hid (LsS srk w wr pb s i xs) ∧ xs.length ≤ most) (fun _ wr => plen wr pb)
   case atStart => exact ⟨s1, [(XE.mk op kind num scale text qual a cap args, sb)], n0, Lib.hid (by rw [List.map_cons, List.map_nil, HXE.out]; exact HR.out), HL, hmost1⟩
   case round =>
    clear HL HXE HR
    obtain ⟨s2, xs, m, HR, HLS, hxm⟩ := hrel
    obtain ⟨m, rfl⟩ : ∃ m', m = m' + 1 := by
     cases m with
     | zero => have := HR.out; rw [lsP] at this; cases this
     | succ m => exact ⟨m, rfl⟩
    have hR := HR.out
    rw [lsP] at hR
    have hpl := HLS.out.st.ps.plen
    obtain ⟨sa, sc, rfl, hc1, hc2⟩ := HLS.out.own.sl
    obtain ⟨n, hn⟩ : ∃ n, xs.length = n := ⟨_, rfl⟩
    have HN := Lib.hid hn
    rw [List.length_map, hn] at hR
    rw [hn] at HLS hxm ⊢
    clear hn
    cases ha : atP [44] s2 with
    | false =>
     rw [if_neg (by rw [ha]; decide)] at hR
     have hrc : r = .ok (xs.map srk.er, s2) := by injection hR with hR; exact hR.symm
     have HF := Lib.hid (fun (w' : World) (hp : PsM w' pb s2) => found_no hp qcomma (by decide) ha)
     have HRC := Lib.hid hrc
     clear hR ha hrc hpl
     go_wp2_with (first | (go_at_call 38; refine (HF.out _ HLS.out.st.ps).mono ?_; rintro e w2 ⟨rfl, ss⟩; have HL2 := Lib.hid (HLS.out.stp ss); clear ss HF))
     have hfin : P (.returned (.slice sa n sc)) w2 := by rw [← HP.out, HRC.out]; exact HL2.out.out
     exact hfin
    | true =>
     rw [if_pos ha] at hR
     have HF := Lib.hid (fun (w' : World) (hp : PsM w' pb s2) => found_yes hp qcomma (by decide) ha)
     have hlen := atP_len ha
     by_cases c : n < most
     ·rw [if_pos c] at hR
      have c1 : (n : Int) < (most : Int) := by omega
      have HMO := Lib.hid (pmust_ok 151)
      cases h2 : one s2.next with
      | none => rw [h2] at hR; cases hR
      | some r2 =>
       have HB2 := Lib.hid (fun (w' : World) (hp : PsM w' pb s2.next) => HONE.out w' s2.next r2 hp h2)
       have HU := Lib.hid (fun a s' (q : r2 = .ok (a, s')) => HUS.out s2.next a s' (by rw [h2, q]))
       have HPL := Lib.hid (And.intro hpl hlen)
       rw [h2] at hR
       clear h2 ha hpl hlen
       match r2, hR, HB2 with
       | .error e0, hR, HB2 =>
        have hrc : r = .error e0 := by injection hR with hR; exact hR.symm
        have HRC := Lib.hid hrc
        clear hR hrc HU
        go_wp2_with (first | (go_at_call 38; refine (HF.out _ HLS.out.st.ps).mono ?_; rintro e w2 ⟨rfl, ss⟩; have HL2 := Lib.hid (HLS.out.stp ss); clear ss HF) | (go_at_call 21; refine (HMO.out _).mono ?_; rintro e w3 ⟨rfl, rfl⟩; clear HMO) | (go_at_fn g; refine (HB2.out _ HL2.out.st.ps).mono ?_; rintro e w4 ⟨f4, rfl⟩; have F4 := Lib.hid (HL2.out.st.fr.trans f4 (New.refl _ _)); clear f4 HB2))
        exact ⟨rfl, by rw [← HP.out, HRC.out]; exact ⟨F4.out, rfl⟩⟩
       | .ok (b2, s3), hR, HB2 =>
        have HR3 : Hid (lsP one most m (xs.map srk.er ++ [b2]) s3 = some r) := Lib.hid hR
        have hu := HU.out b2 s3 rfl
        have HU3 := Lib.hid hu
        clear hR HU hu
        go_wp2_with (first | (go_at_call 38; refine (HF.out _ HLS.out.st.ps).mono ?_; rintro e w2 ⟨rfl, ss⟩; have HL2 := Lib.hid (HLS.out.stp ss); clear ss HF) | (go_at_call 21; refine (HMO.out _).mono ?_; rintro e w3 ⟨rfl, rfl⟩; clear HMO) | (go_at_fn g; refine (HB2.out _ HL2.out.st.ps).mono ?_; rintro e w4 ⟨f4, v4, rfl, ⟨x, rfl, hxe, m4⟩, p4⟩; have H4 := Lib.hid (And.intro (Stp.mk f4 p4) m4); have HXE2 := Lib.hid hxe; have HPU := Lib.hid (fun v9 w9 => LsS.push (E := srk) (y := x) (v' := v9) (w' := w9) HL2.out ⟨f4, p4⟩ m4); have HOW := Lib.hid (((HL2.out.stp ⟨f4, p4⟩).own).below ((Below.refl w4.heap.size w4).alloc (Nat.le_refl _) (.cells (srk.cells [x]).toArray srk.te))); have HNW := Lib.hid (OwR.made_cells (K := srk.toRK) w4 [x]); clear f4 p4 m4 HB2 hxe; obtain ⟨⟨op2, kind2, num2, scale2, text2, qual2, a2, cap2, args2⟩, sb2⟩ := x; simp only [srk]) | (at_builtin; refine OwR.wp (K := srk.toRK) rfl _ _ rfl w.heap.size (.slice sa n sc) xs rfl HOW.out (by have := HL2.out.st.fr.size; have := H4.out.1.fr.size; simp; omega) ⟨w4.heap.size, 0, none⟩ 1 1 [(XE.mk op2 kind2 num2 scale2 text2 qual2 a2 cap2 args2, sb2)] rfl rfl HNW.out (by have := HN.out; omega) ?_; intro v9 w9 o9 g9 n9; have HL9 := Lib.hid (HPU.out v9 w9 o9 g9 n9); clear o9 g9 n9))
        refine ⟨⟨s3, xs ++ [(XE.mk op2 kind2 num2 scale2 text2 qual2 a2 cap2 args2, sb2)], m, Lib.hid ?_, HL9, by rw [List.length_append, HN.out, List.length_singleton]; omega⟩, ?_⟩
        ·rw [List.map_append, List.map_cons, List.map_nil, HXE2.out]
         exact HR3.out
        ·rw [HL9.out.st.ps.plen]
         have h1 := HPL.out
         have h2 := HU3.out
         omega
     ·rw [if_neg c] at hR
      have hrc : r = .error 151 := by injection hR with hR; exact hR.symm
      have HRC := Lib.hid hrc
      have c1 : decide ((n : Int) < (most : Int)) = false := by simp; omega
      have HMN := Lib.hid (pmust_no 151)
      clear hR hrc ha hpl hlen
      go_wp2_with (first | (go_at_call 38; refine (HF.out _ HLS.out.st.ps).mono ?_; rintro e w2 ⟨rfl, ss⟩; have HL2 := Lib.hid (HLS.out.stp ss); clear ss HF) | (go_at_call 21; refine (HMN.out _).mono ?_; rintro e w3 ⟨rfl, rfl⟩; clear HMN))
      exact ⟨rfl, by rw [← HP.out, HRC.out]; exact ⟨HL2.out.st.fr, rfl⟩⟩
end Go.Proofs.YtofnkfjhmjecjaaGreatDoor

namespace Go.Proofs.YtofnkfjhmjecjaaGreatDoor
set_option maxRecDepth 100000
open Go.RowKit Go.Joins Go.ChangeShapes Go.WideShapes
set_option linter.unusedVariables false
set_option linter.unusedSimpArgs false
set_option maxHeartbeats 4000000 in
theorem list_se {g pb : Nat} {one : PS → RX Se} (hone : PR g pb (RE sek) one) (henter : ∀ args w, (callFunc g args).run Tryz.prog w = .ok (.enter g args) w) (hus : ∀ s a s', one s = some (.ok (a, s')) → s'.rest.length ≤ s.rest.length)
  {w : World} {s : PS} {r : Except Nat (List Se × PS)} (h : PsM w pb s) (n0 most : Nat) (hmost : most ≤ 100) (hmost1 : 1 ≤ most) (hr : listP one most n0 s = some r) :
  Calls Tryz.prog 114 #[.pointer (some ⟨pb, 0, none⟩), .func (.func g) #[.pointer (some ⟨pb, 0, none⟩)] #[], .int .i64 (most : Int)] w (EndP w pb (RL sek w.heap.size) r) := by
 generalize hP : EndP w pb (RL sek w.heap.size) r = P
 have HP := Lib.hid hP
 have hpb := h.lt
 unfold listP at hr
 cases h1 : one s with
 | none => rw [h1] at hr; cases hr
 | some r1 =>
  have HB := Lib.hid (hone w s r1 h h1)
  rw [h1] at hr
  have HONE := Lib.hid hone
  have HUS := Lib.hid hus
  clear hone hus h1 h hP
  match r1, hr, HB with
  | .error c, hr, HB =>
   have hrc : r = .error c := by injection hr with hr; exact hr.symm
   subst hrc
   clear hr
   go_enter Tryz.func114, Tryz.ntmps114
   go_wp2_with (first | (go_at_fn g; refine HB.out.mono ?_; rintro e w1 ⟨f1, rfl⟩; have F1 := Lib.hid f1; clear f1 HB))
   exact ⟨rfl, by rw [← HP.out]; exact ⟨F1.out, rfl⟩⟩
  | .ok (b1, s1), hr, HB =>
   have HR : Hid (lsP one most n0 [b1] s1 = some r) := Lib.hid hr
   clear hr
   go_enter Tryz.func114, Tryz.ntmps114
   go_wp2_with (first | (go_at_fn g; refine HB.out.mono ?_; rintro e w1 ⟨f1, v, rfl, ⟨x, rfl, hxe, m1⟩, p1⟩; have HL := Lib.hid (LsS.made (E := sek) (x := x) ⟨f1, p1⟩ hpb m1); have HXE := Lib.hid hxe; clear f1 p1 m1 HB hxe; obtain ⟨nm, ⟨op, kind, num, scale, text, qual, a, cap, args⟩⟩ := x; simp only [sek]))
   go_loopw [7] (fun i wr => ∃ (s : PS) (xs : List (List Nat × XE)) (m : Nat), Hid (lsP one most m (xs.map sek.er) s = some r) ∧ Hid (LsS sek w wr pb s i xs) ∧ xs.length ≤ most) (fun _ wr => plen wr pb)
   case atStart => exact ⟨s1, [(nm, XE.mk op kind num scale text qual a cap args)], n0, Lib.hid (by rw [List.map_cons, List.map_nil, HXE.out]; exact HR.out), HL, hmost1⟩
   case round =>
    clear HL HXE HR
    obtain ⟨s2, xs, m, HR, HLS, hxm⟩ := hrel
    obtain ⟨m, rfl⟩ : ∃ m', m = m' + 1 := by
     cases m with
     | zero => have := HR.out; rw [lsP] at this; cases this
     | succ m => exact ⟨m, rfl⟩
    have hR := HR.out
    rw [lsP] at hR
    have hpl := HLS.out.st.ps.plen
    obtain ⟨sa, sc, rfl, hc1, hc2⟩ := HLS.out.own.sl
    obtain ⟨n, hn⟩ : ∃ n, xs.length = n := ⟨_, rfl⟩
    have HN := Lib.hid hn
    rw [List.length_map, hn] at hR
    rw [hn] at HLS hxm ⊢
    clear hn
    cases ha : atP [44] s2 with
    | false =>
     rw [if_neg (by rw [ha]; decide)] at hR
     have hrc : r = .ok (xs.map sek.er, s2) := by injection hR with hR; exact hR.symm
     have HF := Lib.hid (fun (w' : World) (hp : PsM w' pb s2) => found_no hp qcomma (by decide) ha)
     have HRC := Lib.hid hrc
     clear hR ha hrc hpl
     go_wp2_with (first | (go_at_call 38; refine (HF.out _ HLS.out.st.ps).mono ?_; rintro e w2 ⟨rfl, ss⟩; have HL2 := Lib.hid (HLS.out.stp ss); clear ss HF))
     have hfin : P (.returned (.slice sa n sc)) w2 := by rw [← HP.out, HRC.out]; exact HL2.out.out
     exact hfin
    | true =>
     rw [if_pos ha] at hR
     have HF := Lib.hid (fun (w' : World) (hp : PsM w' pb s2) => found_yes hp qcomma (by decide) ha)
     have hlen := atP_len ha
     by_cases c : n < most
     ·rw [if_pos c] at hR
      have c1 : (n : Int) < (most : Int) := by omega
      have HMO := Lib.hid (pmust_ok 151)
      cases h2 : one s2.next with
      | none => rw [h2] at hR; cases hR
      | some r2 =>
       have HB2 := Lib.hid (fun (w' : World) (hp : PsM w' pb s2.next) => HONE.out w' s2.next r2 hp h2)
       have HU := Lib.hid (fun a s' (q : r2 = .ok (a, s')) => HUS.out s2.next a s' (by rw [h2, q]))
       have HPL := Lib.hid (And.intro hpl hlen)
       rw [h2] at hR
       clear h2 ha hpl hlen
       match r2, hR, HB2 with
       | .error e0, hR, HB2 =>
        have hrc : r = .error e0 := by injection hR with hR; exact hR.symm
        have HRC := Lib.hid hrc
        clear hR hrc HU
        go_wp2_with (first | (go_at_call 38; refine (HF.out _ HLS.out.st.ps).mono ?_; rintro e w2 ⟨rfl, ss⟩; have HL2 := Lib.hid (HLS.out.stp ss); clear ss HF) | (go_at_call 21; refine (HMO.out _).mono ?_; rintro e w3 ⟨rfl, rfl⟩; clear HMO) | (go_at_fn g; refine (HB2.out _ HL2.out.st.ps).mono ?_; rintro e w4 ⟨f4, rfl⟩; have F4 := Lib.hid (HL2.out.st.fr.trans f4 (New.refl _ _)); clear f4 HB2))
        exact ⟨rfl, by rw [← HP.out, HRC.out]; exact ⟨F4.out, rfl⟩⟩
       | .ok (b2, s3), hR, HB2 =>
        have HR3 : Hid (lsP one most m (xs.map sek.er ++ [b2]) s3 = some r) := Lib.hid hR
        have hu := HU.out b2 s3 rfl
        have HU3 := Lib.hid hu
        clear hR HU hu
        go_wp2_with (first | (go_at_call 38; refine (HF.out _ HLS.out.st.ps).mono ?_; rintro e w2 ⟨rfl, ss⟩; have HL2 := Lib.hid (HLS.out.stp ss); clear ss HF) | (go_at_call 21; refine (HMO.out _).mono ?_; rintro e w3 ⟨rfl, rfl⟩; clear HMO) | (go_at_fn g; refine (HB2.out _ HL2.out.st.ps).mono ?_; rintro e w4 ⟨f4, v4, rfl, ⟨x, rfl, hxe, m4⟩, p4⟩; have H4 := Lib.hid (And.intro (Stp.mk f4 p4) m4); have HXE2 := Lib.hid hxe; have HPU := Lib.hid (fun v9 w9 => LsS.push (E := sek) (y := x) (v' := v9) (w' := w9) HL2.out ⟨f4, p4⟩ m4); have HOW := Lib.hid (((HL2.out.stp ⟨f4, p4⟩).own).below ((Below.refl w4.heap.size w4).alloc (Nat.le_refl _) (.cells (sek.cells [x]).toArray sek.te))); have HNW := Lib.hid (OwR.made_cells (K := sek.toRK) w4 [x]); clear f4 p4 m4 HB2 hxe; obtain ⟨nm2, ⟨op2, kind2, num2, scale2, text2, qual2, a2, cap2, args2⟩⟩ := x; simp only [sek]) | (at_builtin; refine OwR.wp (K := sek.toRK) rfl _ _ rfl w.heap.size (.slice sa n sc) xs rfl HOW.out (by have := HL2.out.st.fr.size; have := H4.out.1.fr.size; simp; omega) ⟨w4.heap.size, 0, none⟩ 1 1 [(nm2, XE.mk op2 kind2 num2 scale2 text2 qual2 a2 cap2 args2)] rfl rfl HNW.out (by have := HN.out; omega) ?_; intro v9 w9 o9 g9 n9; have HL9 := Lib.hid (HPU.out v9 w9 o9 g9 n9); clear o9 g9 n9))
        refine ⟨⟨s3, xs ++ [(nm2, XE.mk op2 kind2 num2 scale2 text2 qual2 a2 cap2 args2)], m, Lib.hid ?_, HL9, by rw [List.length_append, HN.out, List.length_singleton]; omega⟩, ?_⟩
        ·rw [List.map_append, List.map_cons, List.map_nil, HXE2.out]
         exact HR3.out
        ·rw [HL9.out.st.ps.plen]
         have h1 := HPL.out
         have h2 := HU3.out
         omega
     ·rw [if_neg c] at hR
      have hrc : r = .error 151 := by injection hR with hR; exact hR.symm
      have HRC := Lib.hid hrc
      have c1 : decide ((n : Int) < (most : Int)) = false := by simp; omega
      have HMN := Lib.hid (pmust_no 151)
      clear hR hrc ha hpl hlen
      go_wp2_with (first | (go_at_call 38; refine (HF.out _ HLS.out.st.ps).mono ?_; rintro e w2 ⟨rfl, ss⟩; have HL2 := Lib.hid (HLS.out.stp ss); clear ss HF) | (go_at_call 21; refine (HMN.out _).mono ?_; rintro e w3 ⟨rfl, rfl⟩; clear HMN))
      exact ⟨rfl, by rw [← HP.out, HRC.out]; exact ⟨HL2.out.st.fr, rfl⟩⟩
end Go.Proofs.YtofnkfjhmjecjaaGreatDoor

namespace Go.Proofs.YtofnkfjhmjecjaaGreatDoor
set_option maxRecDepth 100000
open Go.RowKit Go.Joins Go.ChangeShapes Go.WideShapes
set_option linter.unusedVariables false
set_option linter.unusedSimpArgs false
set_option maxHeartbeats 4000000 in
theorem list_ro {g pb : Nat} {one : PS → RX (List Ex)} (hone : PR g pb (RE rok) one) (henter : ∀ args w, (callFunc g args).run Tryz.prog w = .ok (.enter g args) w) (hus : ∀ s a s', one s = some (.ok (a, s')) → s'.rest.length ≤ s.rest.length)
  {w : World} {s : PS} {r : Except Nat (List (List Ex) × PS)} (h : PsM w pb s) (n0 most : Nat) (hmost : most ≤ 100) (hmost1 : 1 ≤ most) (hr : listP one most n0 s = some r) :
  Calls Tryz.prog 107 #[.pointer (some ⟨pb, 0, none⟩), .func (.func g) #[.pointer (some ⟨pb, 0, none⟩)] #[], .int .i64 (most : Int)] w (EndP w pb (RL rok w.heap.size) r) := by
 generalize hP : EndP w pb (RL rok w.heap.size) r = P
 have HP := Lib.hid hP
 have hpb := h.lt
 unfold listP at hr
 cases h1 : one s with
 | none => rw [h1] at hr; cases hr
 | some r1 =>
  have HB := Lib.hid (hone w s r1 h h1)
  rw [h1] at hr
  have HONE := Lib.hid hone
  have HUS := Lib.hid hus
  clear hone hus h1 h hP
  match r1, hr, HB with
  | .error c, hr, HB =>
   have hrc : r = .error c := by injection hr with hr; exact hr.symm
   subst hrc
   clear hr
   go_enter Tryz.func107, Tryz.ntmps107
   go_wp2_with (first | (go_at_fn g; refine HB.out.mono ?_; rintro e w1 ⟨f1, rfl⟩; have F1 := Lib.hid f1; clear f1 HB))
   exact ⟨rfl, by rw [← HP.out]; exact ⟨F1.out, rfl⟩⟩
  | .ok (b1, s1), hr, HB =>
   have HR : Hid (lsP one most n0 [b1] s1 = some r) := Lib.hid hr
   clear hr
   go_enter Tryz.func107, Tryz.ntmps107
   go_wp2_with (first | (go_at_fn g; refine HB.out.mono ?_; rintro e w1 ⟨f1, v, rfl, ⟨x, rfl, hxe, m1⟩, p1⟩; have HL := Lib.hid (LsS.made (E := rok) (x := x) ⟨f1, p1⟩ hpb m1); have HXE := Lib.hid hxe; clear f1 p1 m1 HB hxe; obtain ⟨ra, rc, rx⟩ := x; simp only [rok, XL.val]))
   go_loopw [7] (fun i wr => ∃ (s : PS) (xs : List (XL XE)) (m : Nat), Hid (lsP one most m (xs.map rok.er) s = some r) ∧ Hid (LsS rok w wr pb s i xs) ∧ xs.length ≤ most) (fun _ wr => plen wr pb)
   case atStart => exact ⟨s1, [XL.mk ra rc rx], n0, Lib.hid (by rw [List.map_cons, List.map_nil, HXE.out]; exact HR.out), HL, hmost1⟩
   case round =>
    clear HL HXE HR
    obtain ⟨s2, xs, m, HR, HLS, hxm⟩ := hrel
    obtain ⟨m, rfl⟩ : ∃ m', m = m' + 1 := by
     cases m with
     | zero => have := HR.out; rw [lsP] at this; cases this
     | succ m => exact ⟨m, rfl⟩
    have hR := HR.out
    rw [lsP] at hR
    have hpl := HLS.out.st.ps.plen
    obtain ⟨sa, sc, rfl, hc1, hc2⟩ := HLS.out.own.sl
    obtain ⟨n, hn⟩ : ∃ n, xs.length = n := ⟨_, rfl⟩
    have HN := Lib.hid hn
    rw [List.length_map, hn] at hR
    rw [hn] at HLS hxm ⊢
    clear hn
    cases ha : atP [44] s2 with
    | false =>
     rw [if_neg (by rw [ha]; decide)] at hR
     have hrc : r = .ok (xs.map rok.er, s2) := by injection hR with hR; exact hR.symm
     have HF := Lib.hid (fun (w' : World) (hp : PsM w' pb s2) => found_no hp qcomma (by decide) ha)
     have HRC := Lib.hid hrc
     clear hR ha hrc hpl
     go_wp2_with (first | (go_at_call 38; refine (HF.out _ HLS.out.st.ps).mono ?_; rintro e w2 ⟨rfl, ss⟩; have HL2 := Lib.hid (HLS.out.stp ss); clear ss HF))
     have hfin : P (.returned (.slice sa n sc)) w2 := by rw [← HP.out, HRC.out]; exact HL2.out.out
     exact hfin
    | true =>
     rw [if_pos ha] at hR
     have HF := Lib.hid (fun (w' : World) (hp : PsM w' pb s2) => found_yes hp qcomma (by decide) ha)
     have hlen := atP_len ha
     by_cases c : n < most
     ·rw [if_pos c] at hR
      have c1 : (n : Int) < (most : Int) := by omega
      have HMO := Lib.hid (pmust_ok 151)
      cases h2 : one s2.next with
      | none => rw [h2] at hR; cases hR
      | some r2 =>
       have HB2 := Lib.hid (fun (w' : World) (hp : PsM w' pb s2.next) => HONE.out w' s2.next r2 hp h2)
       have HU := Lib.hid (fun a s' (q : r2 = .ok (a, s')) => HUS.out s2.next a s' (by rw [h2, q]))
       have HPL := Lib.hid (And.intro hpl hlen)
       rw [h2] at hR
       clear h2 ha hpl hlen
       match r2, hR, HB2 with
       | .error e0, hR, HB2 =>
        have hrc : r = .error e0 := by injection hR with hR; exact hR.symm
        have HRC := Lib.hid hrc
        clear hR hrc HU
        go_wp2_with (first | (go_at_call 38; refine (HF.out _ HLS.out.st.ps).mono ?_; rintro e w2 ⟨rfl, ss⟩; have HL2 := Lib.hid (HLS.out.stp ss); clear ss HF) | (go_at_call 21; refine (HMO.out _).mono ?_; rintro e w3 ⟨rfl, rfl⟩; clear HMO) | (go_at_fn g; refine (HB2.out _ HL2.out.st.ps).mono ?_; rintro e w4 ⟨f4, rfl⟩; have F4 := Lib.hid (HL2.out.st.fr.trans f4 (New.refl _ _)); clear f4 HB2))
        exact ⟨rfl, by rw [← HP.out, HRC.out]; exact ⟨F4.out, rfl⟩⟩
       | .ok (b2, s3), hR, HB2 =>
        have HR3 : Hid (lsP one most m (xs.map rok.er ++ [b2]) s3 = some r) := Lib.hid hR
        have hu := HU.out b2 s3 rfl
        have HU3 := Lib.hid hu
        clear hR HU hu
        go_wp2_with (first | (go_at_call 38; refine (HF.out _ HLS.out.st.ps).mono ?_; rintro e w2 ⟨rfl, ss⟩; have HL2 := Lib.hid (HLS.out.stp ss); clear ss HF) | (go_at_call 21; refine (HMO.out _).mono ?_; rintro e w3 ⟨rfl, rfl⟩; clear HMO) | (go_at_fn g; refine (HB2.out _ HL2.out.st.ps).mono ?_; rintro e w4 ⟨f4, v4, rfl, ⟨x, rfl, hxe, m4⟩, p4⟩; have H4 := Lib.hid (And.intro (Stp.mk f4 p4) m4); have HXE2 := Lib.hid hxe; have HPU := Lib.hid (fun v9 w9 => LsS.push (E := rok) (y := x) (v' := v9) (w' := w9) HL2.out ⟨f4, p4⟩ m4); have HOW := Lib.hid (((HL2.out.stp ⟨f4, p4⟩).own).below ((Below.refl w4.heap.size w4).alloc (Nat.le_refl _) (.cells (rok.cells [x]).toArray rok.te))); have HNW := Lib.hid (OwR.made_cells (K := rok.toRK) w4 [x]); clear f4 p4 m4 HB2 hxe; obtain ⟨ra2, rc2, rx2⟩ := x; simp only [rok, XL.val]) | (at_builtin; refine OwR.wp (K := rok.toRK) rfl _ _ rfl w.heap.size (.slice sa n sc) xs rfl HOW.out (by have := HL2.out.st.fr.size; have := H4.out.1.fr.size; simp; omega) ⟨w4.heap.size, 0, none⟩ 1 1 [XL.mk ra2 rc2 rx2] rfl rfl HNW.out (by have := HN.out; omega) ?_; intro v9 w9 o9 g9 n9; have HL9 := Lib.hid (HPU.out v9 w9 o9 g9 n9); clear o9 g9 n9))
        refine ⟨⟨s3, xs ++ [XL.mk ra2 rc2 rx2], m, Lib.hid ?_, HL9, by rw [List.length_append, HN.out, List.length_singleton]; omega⟩, ?_⟩
        ·rw [List.map_append, List.map_cons, List.map_nil, HXE2.out]
         exact HR3.out
        ·rw [HL9.out.st.ps.plen]
         have h1 := HPL.out
         have h2 := HU3.out
         omega
     ·rw [if_neg c] at hR
      have hrc : r = .error 151 := by injection hR with hR; exact hR.symm
      have HRC := Lib.hid hrc
      have c1 : decide ((n : Int) < (most : Int)) = false := by simp; omega
      have HMN := Lib.hid (pmust_no 151)
      clear hR hrc ha hpl hlen
      go_wp2_with (first | (go_at_call 38; refine (HF.out _ HLS.out.st.ps).mono ?_; rintro e w2 ⟨rfl, ss⟩; have HL2 := Lib.hid (HLS.out.stp ss); clear ss HF) | (go_at_call 21; refine (HMN.out _).mono ?_; rintro e w3 ⟨rfl, rfl⟩; clear HMN))
      exact ⟨rfl, by rw [← HP.out, HRC.out]; exact ⟨HL2.out.st.fr, rfl⟩⟩
end Go.Proofs.YtofnkfjhmjecjaaGreatDoor
