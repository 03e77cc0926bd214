/-
  Texts of mine put together, in build order.
  Conditions: as each declaration says.
-/
import Derived.Deep.MidRow
import Derived.Test.YtkffomfbnbcgaaaGreatDoorZp6
namespace Go.Proofs.YtkffomfbnbcgaaaGreatDoor
set_option maxRecDepth 100000
open Go.RowKit Go.Joins Go.ChangeShapes Go.WideShapes
set_option linter.unusedVariables false
set_option linter.unusedSimpArgs false
theorem at_q {w : World} {pb : Nat} {s : PS} (h : PsM w pb s) {q : ByteArray} {wd : List Nat} (hq : q = strB wd) (hw : ∀ x ∈ wd, x < 256) {b : Bool} (hb : atP wd s = b) :
    Calls Tryz.prog 118 #[.pointer (some ⟨pb, 0, none⟩), .string q] w fun e w' => e = .returned (.bool b) ∧ Stp w w' pb s := by
  subst hq
  rw [← hb]
  exact at_p h wd hw
theorem gotP_len (wd : List Nat) (s : PS) : (gotP wd s).2.rest.length ≤ s.rest.length := by
  unfold gotP
  split
  · exact next_le s
  · exact Nat.le_refl _
set_option maxHeartbeats 8000000 in
theorem sources_p (n pb : Nat) : PR 127 pb (RL sok) (fun s => bindR (sourceP isN s) fun x s1 => sourcesP isN n n [x] s1) := by
  intro w s r h hr
  generalize hP : EndP w pb (RL sok w.heap.size) r = P
  have HP := Lib.hid hP
  have hpb := h.lt
  have S0 := Lib.hid (Stp.refl h)
  have HR : Hid ((bindR (sourceP isN s) fun x s1 => sourcesP isN n n [x] s1) = some r) := Lib.hid hr
  clear hP h hr
  go_enter Tryz.func127, Tryz.ntmps127
  go_wp2_with (first | (go_at_call 177; rcases bind_call HR.out with ⟨c, hx, rfl⟩ | ⟨aa, sa, hx, hrr⟩; refine (source_p pb _ _ _ S0.out.ps hx).mono ?_; rintro e w1 ⟨ff, rfl⟩; exact ⟨rfl, by rw [← HP.out]; exact ⟨S0.out.fr.trans ff (New.refl _ _), rfl⟩⟩; refine (source_p pb _ _ _ S0.out.ps hx).mono ?_; rintro e w1 ⟨ff, v, rfl, hv, pp⟩; obtain ⟨y, rfl, hye, my⟩ := hv; have S1 := Lib.hid (S0.out.trans ⟨ff, pp⟩); have HR1 := Lib.hid hrr; have HL := Lib.hid (LsS.made (E := sok) (x := y) S1.out hpb my); have HYE := Lib.hid hye; clear hye my; obtain ⟨yt, ya, ⟨op0, kind0, num0, scale0, text0, qual0, a0, cap0, args0⟩⟩ := y; simp only [sok]; clear pp hrr hx HR))
  go_loopw [3] (fun i wr => ∃ (s : PS) (xs : List (List Nat × List Nat × XE)) (m : Nat), Hid (sourcesP isN n m (xs.map sok.er) s = some r) ∧ Hid (LsS sok w wr pb s i xs) ∧ xs.length ≤ 4) (fun _ wr => plen wr pb)
  case atStart => exact ⟨sa, [(yt, ya, XE.mk op0 kind0 num0 scale0 text0 qual0 a0 cap0 args0)], n, Lib.hid (by rw [List.map_cons, List.map_nil, HYE.out]; exact HR1.out), HL, by simp⟩
  case round =>
    clear HL HYE HR1 S0 S1
    obtain ⟨s2, xs, m, HR, HLS, hxm⟩ := hrel
    obtain ⟨m, rfl⟩ : ∃ m', m = m' + 1 := by
      cases m with
      | zero => have := HR.out; rw [sourcesP] at this; cases this
      | succ m => exact ⟨m, rfl⟩
    have hR := HR.out
    rw [sourcesP_eq] at hR
    have hpl := HLS.out.st.ps.plen
    obtain ⟨sla, slc, rfl, hc1, hc2⟩ := HLS.out.own.sl
    obtain ⟨n0, hn⟩ : ∃ n, xs.length = n := ⟨_, rfl⟩
    have HN := Lib.hid hn
    rw [List.length_map, hn] at hR
    rw [hn] at HLS hxm ⊢
    have S0 := Lib.hid HLS.out.st
    clear hn HR
    by_cases hj : atP wInner s2 = true ∨ atP wJoin s2 = true
    · rw [if_pos hj] at hR
      by_cases c4 : n0 < 4
      · rw [if_pos c4] at hR
        have c1 : (n0 : Int) < 4 := by omega
        have HMO := Lib.hid (pmust_ok 151)
        have hml : ∀ x s', moreSrc isN n s2 = some (.ok (x, s')) → s'.rest.length < s2.rest.length := fun x s' q => moreSrc_less isN q
        have hml2 : ∀ s', (∃ x, moreSrc isN n s2 = some (.ok (x, s'))) → s'.rest.length < s2.rest.length := fun s' q => by obtain ⟨x, q⟩ := q; exact hml x s' q
        unfold moreSrc at hR
        simp only [bindR_assoc, bindR_ret] at hR
        have HR3 : Hid ((bindR (needP wJoin (gotP wInner s2).2) fun _ s1 => bindR (sourceP isN s1) fun x s2 => bindR (needP wOn s2) fun _ s3 => bindR (wholeP isN n s3) fun e s4 => sourcesP isN n m (xs.map sok.er ++ [{ x with on_ := e }]) s4) = some r) := Lib.hid hR
        have HPL := Lib.hid hpl
        have HG := Lib.hid (gotP_len wInner s2)
        clear hR hml hml2 hpl
        cases hi : atP wInner s2 with
        | true =>
            go_wp2_with (first | (go_at_call 118; refine (at_q S0.out.ps zqinner (by decide) hi).mono ?_; rintro e w2 ⟨rfl, ss⟩; have S2 := Lib.hid (S0.out.trans ss); have HL2 := Lib.hid (HLS.out.stp ss); clear ss hi) | (go_at_call 31; refine (HMO.out _).mono ?_; rintro e wm ⟨rfl, rfl⟩; clear HMO) | (go_at_call 50; refine (found_q S2.out.ps zqinner (by decide)).mono ?_; rintro e w3 ⟨rfl, ss⟩; have S3 := Lib.hid (S2.out.trans ss); have HL3 := Lib.hid (HL2.out.stp ss); clear ss) | (go_at_call 56; rcases need_bind HR3.out with ⟨ha, rfl⟩ | ⟨ha, hrr⟩; refine (need_g S3.out.ps zqjoin (by decide) (by first | rfl | simp | assumption)).mono ?_; rintro e w4 hn; obtain ⟨rfl, ff⟩ := hn.2 ha; exact ⟨rfl, by rw [← HP.out]; exact ⟨S3.out.fr.trans ff (New.refl _ _), rfl⟩⟩; refine (need_g S3.out.ps zqjoin (by decide) (by first | rfl | simp | assumption)).mono ?_; rintro e w4 hn; obtain ⟨rfl, ss⟩ := hn.1 ha; have S4 := Lib.hid (S3.out.trans ss); have HR4 := Lib.hid hrr; have HL4 := Lib.hid (HL3.out.stp ss); have L4 := Lib.hid (atP_len ha); clear ss hn hrr ha HR3) | (go_at_call 177; rcases bind_call HR4.out with ⟨c, hx, rfl⟩ | ⟨aa, sa, hx, hrr⟩; refine (source_p pb _ _ _ S4.out.ps hx).mono ?_; rintro e w6 ⟨ff, rfl⟩; exact ⟨rfl, by rw [← HP.out]; exact ⟨S4.out.fr.trans ff (New.refl _ _), rfl⟩⟩; refine (source_p pb _ _ _ S4.out.ps hx).mono ?_; rintro e w6 ⟨ff, v, rfl, hv, pp⟩; obtain ⟨y, rfl, hye, my⟩ := hv; have S6 := Lib.hid (S4.out.trans ⟨ff, pp⟩); have HR6 := Lib.hid hrr; have L6 := Lib.hid ((Rdr.source isN).us 0 _ _ _ hx); have HL6 := Lib.hid (HL4.out.stp ⟨ff, pp⟩); have HYE := Lib.hid hye; clear hye my; obtain ⟨yt, ya, ⟨op0, kind0, num0, scale0, text0, qual0, a0, cap0, args0⟩⟩ := y; simp only [sok]; have T6 := Lib.hid ((Stp.refl S6.out.ps).alloc (.cells #[.string (strB yt), .string (strB ya), .int .i64 op0, .slice a0 args0.length cap0, .int .i64 kind0, .int .i64 num0, .int .i64 scale0, .string text0, .string qual0] 65)); have S6a := Lib.hid (S6.out.alloc (.cells #[.string (strB yt), .string (strB ya), .int .i64 op0, .slice a0 args0.length cap0, .int .i64 kind0, .int .i64 num0, .int .i64 scale0, .string text0, .string qual0] 65)); have LB6 := Lib.hid (Bx.new w6 #[.string (strB yt), .string (strB ya), .int .i64 op0, .slice a0 args0.length cap0, .int .i64 kind0, .int .i64 num0, .int .i64 scale0, .string text0, .string qual0] 65); have g3 : ¬ w6.heap.size = pb := (by have := S6.out.fr.size; omega); have g4 : pb < w6.heap.size := (by have := S6.out.fr.size; omega); clear pp hrr hx HR4) | (go_at_call 56; rcases need_bind HR6.out with ⟨ha, rfl⟩ | ⟨ha, hrr⟩; refine (need_g S6a.out.ps zqon (by decide) (by first | rfl | simp | assumption)).mono ?_; rintro e w7 hn; obtain ⟨rfl, ff⟩ := hn.2 ha; exact ⟨rfl, by rw [← HP.out]; exact ⟨S6a.out.fr.trans ff (New.refl _ _), rfl⟩⟩; refine (need_g S6a.out.ps zqon (by decide) (by first | rfl | simp | assumption)).mono ?_; rintro e w7 hn; obtain ⟨rfl, ss⟩ := hn.1 ha; have S7 := Lib.hid (S6a.out.trans ss); have HR7 := Lib.hid hrr; have L7 := Lib.hid (atP_len ha); have T7 := Lib.hid (T6.out.trans ss); have LB7 := Lib.hid (LB6.out.frm ss.fr g3); clear ss hn hrr ha HR6) | (go_at_call 132; rcases bind_call HR7.out with ⟨c, hx, rfl⟩ | ⟨aa, sa, hx, hrr⟩; refine (whole_p n pb _ _ _ S7.out.ps hx).mono ?_; rintro e w8 ⟨ff, rfl⟩; exact ⟨rfl, by rw [← HP.out]; exact ⟨S7.out.fr.trans ff (New.refl _ _), rfl⟩⟩; refine (whole_p n pb _ _ _ S7.out.ps hx).mono ?_; rintro e w8 ⟨ff, v, rfl, hv, pp⟩; obtain ⟨x, rfl, hxe, mx⟩ := hv; have S8 := Lib.hid (S7.out.trans ⟨ff, pp⟩); have HR8 := Lib.hid hrr; have L8 := Lib.hid ((Rdr.whole isN).us n _ _ _ hx); have T8 := Lib.hid (T7.out.trans ⟨ff, pp⟩); have LB8 := Lib.hid (LB7.out.frm ff g3); obtain ⟨⟨q0, q1, q2, q3, q4, q5, q6, q7, q8⟩, y0, y1, y2, y3, y4, y5, y6, y7, y8⟩ := (LB8.out).n9; have h67 : w6.heap.size < w7.heap.size := LB7.out.lt; have HXE := Lib.hid hxe; obtain ⟨op, kind, num, scale, text, qual, a, cap, args⟩ := x; unfold XE.val; have T9 := Lib.hid (T8.out.stL (g := w6.heap.size) (Nat.le_refl _) g4 (XE.enc (XE.mk op kind num scale text qual a cap args)) 2); have hmx : XE.Mem (GE w6.heap.size) (stL w8 w6.heap.size 2 (XE.enc (XE.mk op kind num scale text qual a cap args))) (XE.mk op kind num scale text qual a cap args) := (XE.Mem.mono (fun k hk => by have : w7.heap.size ≤ k := hk; show _ ≤ _; omega) _ (XE.Mem.frm (stL_one w8 w6.heap.size 2 (XE.enc (XE.mk op kind num scale text qual a cap args))) (fun k hk e => by have : w7.heap.size ≤ k := hk; omega) _ mx)); have HPU := Lib.hid (fun v9 w9 => LsS.push (E := sok) (y := (yt, ya, XE.mk op kind num scale text qual a cap args)) (v' := v9) (w' := w9) HL6.out T9.out hmx); have HOW := Lib.hid ((HL6.out.stp T9.out).own.below ((Below.refl _ _).alloc (Nat.le_refl _) (.cells (sok.cells [(yt, ya, XE.mk op kind num scale text qual a cap args)]).toArray sok.te))); have HNW := Lib.hid (OwR.made_cells (K := sok.toRK) (stL w8 w6.heap.size 2 (XE.enc (XE.mk op kind num scale text qual a cap args))) [(yt, ya, XE.mk op kind num scale text qual a cap args)]); have hsz9 : w8.heap.size = (stL w8 w6.heap.size 2 (XE.enc (XE.mk op kind num scale text qual a cap args))).heap.size := (by simp [stL, XE.enc, World.setCell]); have HS9 := Lib.hid hsz9; clear hxe mx hmx hsz9; clear pp hrr hx HR7) | (at_builtin; refine OwR.wp (K := sok.toRK) rfl _ _ rfl w.heap.size (.slice sla n0 slc) xs rfl HOW.out (by have := S8.out.fr.size; simp; omega) ⟨w8.heap.size, 0, none⟩ 1 1 [(yt, ya, XE.mk op kind num scale text qual a cap args)] rfl rfl (by rw [HS9.out]; exact HNW.out) (by have := HN.out; omega) ?_; intro v9 w9 o9 g9 n9; have HL9 := Lib.hid (HPU.out v9 w9 o9 g9 n9); clear o9 g9 n9))
            refine ⟨⟨sa, xs ++ [(yt, ya, XE.mk op kind num scale text qual a cap args)], m, Lib.hid ?_, HL9, by rw [List.length_append, HN.out, List.length_singleton]; omega⟩, ?_⟩
            · rw [List.map_append, List.map_cons, List.map_nil]
              have h1 := HR8.out
              have h2 := HYE.out
              have h3 := HXE.out
              rw [← h2, ← h3] at h1
              exact h1
            · rw [HL9.out.st.ps.plen]
              have h1 := HPL.out
              have h2 := HG.out
              have h3 := L4.out
              have h4 := L6.out
              have h5 := L7.out
              have h6 := L8.out
              omega
        | false =>
            have hjj : atP wJoin s2 = true := by
              rcases hj with h | h
              · rw [hi] at h; cases h
              · exact h
            go_wp2_with (first | (go_at_call 118; refine (at_q S0.out.ps zqinner (by decide) hi).mono ?_; rintro e w2a ⟨rfl, ss⟩; have S2a := Lib.hid (S0.out.trans ss); have HL2a := Lib.hid (HLS.out.stp ss); clear ss hi) | (go_at_call 118; refine (at_q S2a.out.ps zqjoin (by decide) hjj).mono ?_; rintro e w2 ⟨rfl, ss⟩; have S2 := Lib.hid (S2a.out.trans ss); have HL2 := Lib.hid (HL2a.out.stp ss); clear ss hjj) | (go_at_call 31; refine (HMO.out _).mono ?_; rintro e wm ⟨rfl, rfl⟩; clear HMO) | (go_at_call 50; refine (found_q S2.out.ps zqinner (by decide)).mono ?_; rintro e w3 ⟨rfl, ss⟩; have S3 := Lib.hid (S2.out.trans ss); have HL3 := Lib.hid (HL2.out.stp ss); clear ss) | (go_at_call 56; rcases need_bind HR3.out with ⟨ha, rfl⟩ | ⟨ha, hrr⟩; refine (need_g S3.out.ps zqjoin (by decide) (by first | rfl | simp | assumption)).mono ?_; rintro e w4 hn; obtain ⟨rfl, ff⟩ := hn.2 ha; exact ⟨rfl, by rw [← HP.out]; exact ⟨S3.out.fr.trans ff (New.refl _ _), rfl⟩⟩; refine (need_g S3.out.ps zqjoin (by decide) (by first | rfl | simp | assumption)).mono ?_; rintro e w4 hn; obtain ⟨rfl, ss⟩ := hn.1 ha; have S4 := Lib.hid (S3.out.trans ss); have HR4 := Lib.hid hrr; have HL4 := Lib.hid (HL3.out.stp ss); have L4 := Lib.hid (atP_len ha); clear ss hn hrr ha HR3) | (go_at_call 177; rcases bind_call HR4.out with ⟨c, hx, rfl⟩ | ⟨aa, sa, hx, hrr⟩; refine (source_p pb _ _ _ S4.out.ps hx).mono ?_; rintro e w6 ⟨ff, rfl⟩; exact ⟨rfl, by rw [← HP.out]; exact ⟨S4.out.fr.trans ff (New.refl _ _), rfl⟩⟩; refine (source_p pb _ _ _ S4.out.ps hx).mono ?_; rintro e w6 ⟨ff, v, rfl, hv, pp⟩; obtain ⟨y, rfl, hye, my⟩ := hv; have S6 := Lib.hid (S4.out.trans ⟨ff, pp⟩); have HR6 := Lib.hid hrr; have L6 := Lib.hid ((Rdr.source isN).us 0 _ _ _ hx); have HL6 := Lib.hid (HL4.out.stp ⟨ff, pp⟩); have HYE := Lib.hid hye; clear hye my; obtain ⟨yt, ya, ⟨op0, kind0, num0, scale0, text0, qual0, a0, cap0, args0⟩⟩ := y; simp only [sok]; have T6 := Lib.hid ((Stp.refl S6.out.ps).alloc (.cells #[.string (strB yt), .string (strB ya), .int .i64 op0, .slice a0 args0.length cap0, .int .i64 kind0, .int .i64 num0, .int .i64 scale0, .string text0, .string qual0] 65)); have S6a := Lib.hid (S6.out.alloc (.cells #[.string (strB yt), .string (strB ya), .int .i64 op0, .slice a0 args0.length cap0, .int .i64 kind0, .int .i64 num0, .int .i64 scale0, .string text0, .string qual0] 65)); have LB6 := Lib.hid (Bx.new w6 #[.string (strB yt), .string (strB ya), .int .i64 op0, .slice a0 args0.length cap0, .int .i64 kind0, .int .i64 num0, .int .i64 scale0, .string text0, .string qual0] 65); have g3 : ¬ w6.heap.size = pb := (by have := S6.out.fr.size; omega); have g4 : pb < w6.heap.size := (by have := S6.out.fr.size; omega); clear pp hrr hx HR4) | (go_at_call 56; rcases need_bind HR6.out with ⟨ha, rfl⟩ | ⟨ha, hrr⟩; refine (need_g S6a.out.ps zqon (by decide) (by first | rfl | simp | assumption)).mono ?_; rintro e w7 hn; obtain ⟨rfl, ff⟩ := hn.2 ha; exact ⟨rfl, by rw [← HP.out]; exact ⟨S6a.out.fr.trans ff (New.refl _ _), rfl⟩⟩; refine (need_g S6a.out.ps zqon (by decide) (by first | rfl | simp | assumption)).mono ?_; rintro e w7 hn; obtain ⟨rfl, ss⟩ := hn.1 ha; have S7 := Lib.hid (S6a.out.trans ss); have HR7 := Lib.hid hrr; have L7 := Lib.hid (atP_len ha); have T7 := Lib.hid (T6.out.trans ss); have LB7 := Lib.hid (LB6.out.frm ss.fr g3); clear ss hn hrr ha HR6) | (go_at_call 132; rcases bind_call HR7.out with ⟨c, hx, rfl⟩ | ⟨aa, sa, hx, hrr⟩; refine (whole_p n pb _ _ _ S7.out.ps hx).mono ?_; rintro e w8 ⟨ff, rfl⟩; exact ⟨rfl, by rw [← HP.out]; exact ⟨S7.out.fr.trans ff (New.refl _ _), rfl⟩⟩; refine (whole_p n pb _ _ _ S7.out.ps hx).mono ?_; rintro e w8 ⟨ff, v, rfl, hv, pp⟩; obtain ⟨x, rfl, hxe, mx⟩ := hv; have S8 := Lib.hid (S7.out.trans ⟨ff, pp⟩); have HR8 := Lib.hid hrr; have L8 := Lib.hid ((Rdr.whole isN).us n _ _ _ hx); have T8 := Lib.hid (T7.out.trans ⟨ff, pp⟩); have LB8 := Lib.hid (LB7.out.frm ff g3); obtain ⟨⟨q0, q1, q2, q3, q4, q5, q6, q7, q8⟩, y0, y1, y2, y3, y4, y5, y6, y7, y8⟩ := (LB8.out).n9; have h67 : w6.heap.size < w7.heap.size := LB7.out.lt; have HXE := Lib.hid hxe; obtain ⟨op, kind, num, scale, text, qual, a, cap, args⟩ := x; unfold XE.val; have T9 := Lib.hid (T8.out.stL (g := w6.heap.size) (Nat.le_refl _) g4 (XE.enc (XE.mk op kind num scale text qual a cap args)) 2); have hmx : XE.Mem (GE w6.heap.size) (stL w8 w6.heap.size 2 (XE.enc (XE.mk op kind num scale text qual a cap args))) (XE.mk op kind num scale text qual a cap args) := (XE.Mem.mono (fun k hk => by have : w7.heap.size ≤ k := hk; show _ ≤ _; omega) _ (XE.Mem.frm (stL_one w8 w6.heap.size 2 (XE.enc (XE.mk op kind num scale text qual a cap args))) (fun k hk e => by have : w7.heap.size ≤ k := hk; omega) _ mx)); have HPU := Lib.hid (fun v9 w9 => LsS.push (E := sok) (y := (yt, ya, XE.mk op kind num scale text qual a cap args)) (v' := v9) (w' := w9) HL6.out T9.out hmx); have HOW := Lib.hid ((HL6.out.stp T9.out).own.below ((Below.refl _ _).alloc (Nat.le_refl _) (.cells (sok.cells [(yt, ya, XE.mk op kind num scale text qual a cap args)]).toArray sok.te))); have HNW := Lib.hid (OwR.made_cells (K := sok.toRK) (stL w8 w6.heap.size 2 (XE.enc (XE.mk op kind num scale text qual a cap args))) [(yt, ya, XE.mk op kind num scale text qual a cap args)]); have hsz9 : w8.heap.size = (stL w8 w6.heap.size 2 (XE.enc (XE.mk op kind num scale text qual a cap args))).heap.size := (by simp [stL, XE.enc, World.setCell]); have HS9 := Lib.hid hsz9; clear hxe mx hmx hsz9; clear pp hrr hx HR7) | (at_builtin; refine OwR.wp (K := sok.toRK) rfl _ _ rfl w.heap.size (.slice sla n0 slc) xs rfl HOW.out (by have := S8.out.fr.size; simp; omega) ⟨w8.heap.size, 0, none⟩ 1 1 [(yt, ya, XE.mk op kind num scale text qual a cap args)] rfl rfl (by rw [HS9.out]; exact HNW.out) (by have := HN.out; omega) ?_; intro v9 w9 o9 g9 n9; have HL9 := Lib.hid (HPU.out v9 w9 o9 g9 n9); clear o9 g9 n9))
            refine ⟨⟨sa, xs ++ [(yt, ya, XE.mk op kind num scale text qual a cap args)], m, Lib.hid ?_, HL9, by rw [List.length_append, HN.out, List.length_singleton]; omega⟩, ?_⟩
            · rw [List.map_append, List.map_cons, List.map_nil]
              have h1 := HR8.out
              have h2 := HYE.out
              have h3 := HXE.out
              rw [← h2, ← h3] at h1
              exact h1
            · rw [HL9.out.st.ps.plen]
              have h1 := HPL.out
              have h2 := HG.out
              have h3 := L4.out
              have h4 := L6.out
              have h5 := L7.out
              have h6 := L8.out
              omega
      · rw [if_neg c4] at hR
        have hrc : r = .error 151 := by injection hR with hR; exact hR.symm
        have HRC := Lib.hid hrc
        have c1 : decide ((n0 : Int) < 4) = false := by simp; omega
        have HMN := Lib.hid (pmust_no 151)
        clear hR hrc hpl
        cases hi : atP wInner s2 with
        | true =>
          go_wp2_with (first | (go_at_call 118; refine (at_q S0.out.ps zqinner (by decide) hi).mono ?_; rintro e w2 ⟨rfl, ss⟩; have S2 := Lib.hid (S0.out.trans ss); have HL2 := Lib.hid (HLS.out.stp ss); clear ss hi) | (go_at_call 31; refine (HMN.out _).mono ?_; rintro e wm ⟨rfl, rfl⟩; clear HMN))
          exact ⟨rfl, by rw [← HP.out, HRC.out]; exact ⟨S2.out.fr, rfl⟩⟩
        | false =>
          have hjj : atP wJoin s2 = true := by
            rcases hj with h | h
            · rw [hi] at h; cases h
            · exact h
          go_wp2_with (first | (go_at_call 118; refine (at_q S0.out.ps zqinner (by decide) hi).mono ?_; rintro e w2a ⟨rfl, ss⟩; have S2a := Lib.hid (S0.out.trans ss); have HL2a := Lib.hid (HLS.out.stp ss); clear ss hi) | (go_at_call 118; refine (at_q S2a.out.ps zqjoin (by decide) hjj).mono ?_; rintro e w2 ⟨rfl, ss⟩; have S2 := Lib.hid (S2a.out.trans ss); have HL2 := Lib.hid (HL2a.out.stp ss); clear ss hjj) | (go_at_call 31; refine (HMN.out _).mono ?_; rintro e wm ⟨rfl, rfl⟩; clear HMN))
          exact ⟨rfl, by rw [← HP.out, HRC.out]; exact ⟨S2.out.fr, rfl⟩⟩
    · rw [if_neg hj] at hR
      have hrc : r = .ok (xs.map sok.er, s2) := by injection hR with hR; exact hR.symm
      have HRC := Lib.hid hrc
      have hi : atP wInner s2 = false := by
        cases h : atP wInner s2 with
        | false => rfl
        | true => exact absurd (.inl h) hj
      have hjj : atP wJoin s2 = false := by
        cases h : atP wJoin s2 with
        | false => rfl
        | true => exact absurd (.inr h) hj
      clear hR hrc hpl
      go_wp2_with (first | (go_at_call 118; refine (at_q S0.out.ps zqinner (by decide) hi).mono ?_; rintro e w2a ⟨rfl, ss⟩; have S2a := Lib.hid (S0.out.trans ss); have HL2a := Lib.hid (HLS.out.stp ss); clear ss hi) | (go_at_call 118; refine (at_q S2a.out.ps zqjoin (by decide) hjj).mono ?_; rintro e w2 ⟨rfl, ss⟩; have S2 := Lib.hid (S2a.out.trans ss); have HL2 := Lib.hid (HL2a.out.stp ss); clear ss hjj))
      have hfin : P (.returned (.slice sla n0 slc)) w2 := by rw [← HP.out, HRC.out]; exact HL2.out.out
      exact hfin

end Go.Proofs.YtkffomfbnbcgaaaGreatDoor

namespace Go.Proofs.YtkffomfbnbcgaaaGreatDoor
set_option maxRecDepth 100000
open Go.RowKit Go.Joins Go.ChangeShapes Go.WideShapes
set_option linter.unusedVariables false
set_option linter.unusedSimpArgs false

set_option maxHeartbeats 4000000 in
theorem list_it {g pb : Nat} {one : PS → RX Ite} (hone : PR g pb (RE itk) one) (henter : ∀ args w, (callFunc g args).run Tryz.prog w = .ok (.enter g args) w) (hus : ∀ s a s', one s = some (.ok (a, s')) → s'.rest.length ≤ s.rest.length)
    {w : World} {s : PS} {r : Except Nat (List Ite × PS)} (h : PsM w pb s) (n0 most : Nat) (hmost : most ≤ 100) (hmost1 : 1 ≤ most) (hr : listP one most n0 s = some r) :
    Calls Tryz.prog 125 #[.pointer (some ⟨pb, 0, none⟩), .func (.func g) #[.pointer (some ⟨pb, 0, none⟩)] #[], .int .i64 (most : Int)] w (EndP w pb (RL itk w.heap.size) r) := by
  generalize hP : EndP w pb (RL itk w.heap.size) r = P
  have HP := Lib.hid hP
  have hpb := h.lt
  unfold listP at hr
  cases h1 : one s with
  | none => rw [h1] at hr; cases hr
  | some r1 =>
    have HB := Lib.hid (hone w s r1 h h1)
    rw [h1] at hr
    have HONE := Lib.hid hone
    have HUS := Lib.hid hus
    clear hone hus h1 h hP
    match r1, hr, HB with
    | .error c, hr, HB =>
      have hrc : r = .error c := by injection hr with hr; exact hr.symm
      subst hrc
      clear hr
      go_enter Tryz.func125, Tryz.ntmps125
      go_wp2_with (first | (go_at_fn g; refine HB.out.mono ?_; rintro e w1 ⟨f1, rfl⟩; have F1 := Lib.hid f1; clear f1 HB))
      exact ⟨rfl, by rw [← HP.out]; exact ⟨F1.out, rfl⟩⟩
    | .ok (b1, s1), hr, HB =>
      have HR : Hid (lsP one most n0 [b1] s1 = some r) := Lib.hid hr
      clear hr
      go_enter Tryz.func125, Tryz.ntmps125
      go_wp2_with (first | (go_at_fn g; refine HB.out.mono ?_; rintro e w1 ⟨f1, v, rfl, ⟨x, rfl, hxe, m1⟩, p1⟩; have HL := Lib.hid (LsS.made (E := itk) (x := x) ⟨f1, p1⟩ hpb m1); have HXE := Lib.hid hxe; clear f1 p1 m1 HB hxe; obtain ⟨⟨op, kind, num, scale, text, qual, a, cap, args⟩, nm⟩ := x; simp only [itk]))
      go_loopw [7] (fun i wr => ∃ (s : PS) (xs : List (XE × List Nat)) (m : Nat), Hid (lsP one most m (xs.map itk.er) s = some r) ∧ Hid (LsS itk w wr pb s i xs) ∧ xs.length ≤ most) (fun _ wr => plen wr pb)
      case atStart => exact ⟨s1, [(XE.mk op kind num scale text qual a cap args, nm)], n0, Lib.hid (by rw [List.map_cons, List.map_nil, HXE.out]; exact HR.out), HL, hmost1⟩
      case round =>
        clear HL HXE HR
        obtain ⟨s2, xs, m, HR, HLS, hxm⟩ := hrel
        obtain ⟨m, rfl⟩ : ∃ m', m = m' + 1 := by
          cases m with
          | zero => have := HR.out; rw [lsP] at this; cases this
          | succ m => exact ⟨m, rfl⟩
        have hR := HR.out
        rw [lsP] at hR
        have hpl := HLS.out.st.ps.plen
        obtain ⟨sa, sc, rfl, hc1, hc2⟩ := HLS.out.own.sl
        obtain ⟨n, hn⟩ : ∃ n, xs.length = n := ⟨_, rfl⟩
        have HN := Lib.hid hn
        rw [List.length_map, hn] at hR
        rw [hn] at HLS hxm ⊢
        clear hn
        cases ha : atP [44] s2 with
        | false =>
          rw [if_neg (by rw [ha]; decide)] at hR
          have hrc : r = .ok (xs.map itk.er, s2) := by injection hR with hR; exact hR.symm
          have HF := Lib.hid (fun (w' : World) (hp : PsM w' pb s2) => found_no hp qcomma (by decide) ha)
          have HRC := Lib.hid hrc
          clear hR ha hrc hpl
          go_wp2_with (first | (go_at_call 50; refine (HF.out _ HLS.out.st.ps).mono ?_; rintro e w2 ⟨rfl, ss⟩; have HL2 := Lib.hid (HLS.out.stp ss); clear ss HF))
          have hfin : P (.returned (.slice sa n sc)) w2 := by rw [← HP.out, HRC.out]; exact HL2.out.out
          exact hfin
        | true =>
          rw [if_pos ha] at hR
          have HF := Lib.hid (fun (w' : World) (hp : PsM w' pb s2) => found_yes hp qcomma (by decide) ha)
          have hlen := atP_len ha
          by_cases c : n < most
          · rw [if_pos c] at hR
            have c1 : (n : Int) < (most : Int) := by omega
            have HMO := Lib.hid (pmust_ok 151)
            cases h2 : one s2.next with
            | none => rw [h2] at hR; cases hR
            | some r2 =>
              have HB2 := Lib.hid (fun (w' : World) (hp : PsM w' pb s2.next) => HONE.out w' s2.next r2 hp h2)
              have HU := Lib.hid (fun a s' (q : r2 = .ok (a, s')) => HUS.out s2.next a s' (by rw [h2, q]))
              have HPL := Lib.hid (And.intro hpl hlen)
              rw [h2] at hR
              clear h2 ha hpl hlen
              match r2, hR, HB2 with
              | .error e0, hR, HB2 =>
                have hrc : r = .error e0 := by injection hR with hR; exact hR.symm
                have HRC := Lib.hid hrc
                clear hR hrc HU
                go_wp2_with (first | (go_at_call 50; refine (HF.out _ HLS.out.st.ps).mono ?_; rintro e w2 ⟨rfl, ss⟩; have HL2 := Lib.hid (HLS.out.stp ss); clear ss HF) | (go_at_call 31; refine (HMO.out _).mono ?_; rintro e w3 ⟨rfl, rfl⟩; clear HMO) | (go_at_fn g; refine (HB2.out _ HL2.out.st.ps).mono ?_; rintro e w4 ⟨f4, rfl⟩; have F4 := Lib.hid (HL2.out.st.fr.trans f4 (New.refl _ _)); clear f4 HB2))
                exact ⟨rfl, by rw [← HP.out, HRC.out]; exact ⟨F4.out, rfl⟩⟩
              | .ok (b2, s3), hR, HB2 =>
                have HR3 : Hid (lsP one most m (xs.map itk.er ++ [b2]) s3 = some r) := Lib.hid hR
                have hu := HU.out b2 s3 rfl
                have HU3 := Lib.hid hu
                clear hR HU hu
                go_wp2_with (first | (go_at_call 50; refine (HF.out _ HLS.out.st.ps).mono ?_; rintro e w2 ⟨rfl, ss⟩; have HL2 := Lib.hid (HLS.out.stp ss); clear ss HF) | (go_at_call 31; refine (HMO.out _).mono ?_; rintro e w3 ⟨rfl, rfl⟩; clear HMO) | (go_at_fn g; refine (HB2.out _ HL2.out.st.ps).mono ?_; rintro e w4 ⟨f4, v4, rfl, ⟨x, rfl, hxe, m4⟩, p4⟩; have H4 := Lib.hid (And.intro (Stp.mk f4 p4) m4); have HXE2 := Lib.hid hxe; have HPU := Lib.hid (fun v9 w9 => LsS.push (E := itk) (y := x) (v' := v9) (w' := w9) HL2.out ⟨f4, p4⟩ m4); have HOW := Lib.hid (((HL2.out.stp ⟨f4, p4⟩).own).below ((Below.refl w4.heap.size w4).alloc (Nat.le_refl _) (.cells (itk.cells [x]).toArray itk.te))); have HNW := Lib.hid (OwR.made_cells (K := itk.toRK) w4 [x]); clear f4 p4 m4 HB2 hxe; obtain ⟨⟨op2, kind2, num2, scale2, text2, qual2, a2, cap2, args2⟩, nm2⟩ := x; simp only [itk]) | (at_builtin; refine OwR.wp (K := itk.toRK) rfl _ _ rfl w.heap.size (.slice sa n sc) xs rfl HOW.out (by have := HL2.out.st.fr.size; have := H4.out.1.fr.size; simp; omega) ⟨w4.heap.size, 0, none⟩ 1 1 [(XE.mk op2 kind2 num2 scale2 text2 qual2 a2 cap2 args2, nm2)] rfl rfl HNW.out (by have := HN.out; omega) ?_; intro v9 w9 o9 g9 n9; have HL9 := Lib.hid (HPU.out v9 w9 o9 g9 n9); clear o9 g9 n9))
                refine ⟨⟨s3, xs ++ [(XE.mk op2 kind2 num2 scale2 text2 qual2 a2 cap2 args2, nm2)], m, Lib.hid ?_, HL9, by rw [List.length_append, HN.out, List.length_singleton]; omega⟩, ?_⟩
                · rw [List.map_append, List.map_cons, List.map_nil, HXE2.out]
                  exact HR3.out
                · rw [HL9.out.st.ps.plen]
                  have h1 := HPL.out
                  have h2 := HU3.out
                  omega
          · rw [if_neg c] at hR
            have hrc : r = .error 151 := by injection hR with hR; exact hR.symm
            have HRC := Lib.hid hrc
            have c1 : decide ((n : Int) < (most : Int)) = false := by simp; omega
            have HMN := Lib.hid (pmust_no 151)
            clear hR hrc ha hpl hlen
            go_wp2_with (first | (go_at_call 50; refine (HF.out _ HLS.out.st.ps).mono ?_; rintro e w2 ⟨rfl, ss⟩; have HL2 := Lib.hid (HLS.out.stp ss); clear ss HF) | (go_at_call 31; refine (HMN.out _).mono ?_; rintro e w3 ⟨rfl, rfl⟩; clear HMN))
            exact ⟨rfl, by rw [← HP.out, HRC.out]; exact ⟨HL2.out.st.fr, rfl⟩⟩

end Go.Proofs.YtkffomfbnbcgaaaGreatDoor

namespace Go.Proofs.YtkffomfbnbcgaaaGreatDoor
set_option maxRecDepth 100000
open Go.RowKit Go.Joins Go.ChangeShapes Go.WideShapes
set_option linter.unusedVariables false
set_option linter.unusedSimpArgs false

set_option maxHeartbeats 4000000 in
theorem list_sr {g pb : Nat} {one : PS → RX Srt} (hone : PR g pb (RE srk) one) (henter : ∀ args w, (callFunc g args).run Tryz.prog w = .ok (.enter g args) w) (hus : ∀ s a s', one s = some (.ok (a, s')) → s'.rest.length ≤ s.rest.length)
    {w : World} {s : PS} {r : Except Nat (List Srt × PS)} (h : PsM w pb s) (n0 most : Nat) (hmost : most ≤ 100) (hmost1 : 1 ≤ most) (hr : listP one most n0 s = some r) :
    Calls Tryz.prog 128 #[.pointer (some ⟨pb, 0, none⟩), .func (.func g) #[.pointer (some ⟨pb, 0, none⟩)] #[], .int .i64 (most : Int)] w (EndP w pb (RL srk w.heap.size) r) := by
  generalize hP : EndP w pb (RL srk w.heap.size) r = P
  have HP := Lib.hid hP
  have hpb := h.lt
  unfold listP at hr
  cases h1 : one s with
  | none => rw [h1] at hr; cases hr
  | some r1 =>
    have HB := Lib.hid (hone w s r1 h h1)
    rw [h1] at hr
    have HONE := Lib.hid hone
    have HUS := Lib.hid hus
    clear hone hus h1 h hP
    match r1, hr, HB with
    | .error c, hr, HB =>
      have hrc : r = .error c := by injection hr with hr; exact hr.symm
      subst hrc
      clear hr
      go_enter Tryz.func128, Tryz.ntmps128
      go_wp2_with (first | (go_at_fn g; refine HB.out.mono ?_; rintro e w1 ⟨f1, rfl⟩; have F1 := Lib.hid f1; clear f1 HB))
      exact ⟨rfl, by rw [← HP.out]; exact ⟨F1.out, rfl⟩⟩
    | .ok (b1, s1), hr, HB =>
      have HR : Hid (lsP one most n0 [b1] s1 = some r) := Lib.hid hr
      clear hr
      go_enter Tryz.func128, Tryz.ntmps128
      go_wp2_with (first | (go_at_fn g; refine HB.out.mono ?_; rintro e w1 ⟨f1, v, rfl, ⟨x, rfl, hxe, m1⟩, p1⟩; have HL := Lib.hid (LsS.made (E := srk) (x := x) ⟨f1, p1⟩ hpb m1); have HXE := Lib.hid hxe; clear f1 p1 m1 HB hxe; obtain ⟨⟨op, kind, num, scale, text, qual, a, cap, args⟩, sb⟩ := x; simp only [srk]))
      go_loopw [7] (fun i wr => ∃ (s : PS) (xs : List (XE × Bool)) (m : Nat), Hid (lsP one most m (xs.map srk.er) s = some r) ∧ Hid (LsS srk w wr pb s i xs) ∧ xs.length ≤ most) (fun _ wr => plen wr pb)
      case atStart => exact ⟨s1, [(XE.mk op kind num scale text qual a cap args, sb)], n0, Lib.hid (by rw [List.map_cons, List.map_nil, HXE.out]; exact HR.out), HL, hmost1⟩
      case round =>
        clear HL HXE HR
        obtain ⟨s2, xs, m, HR, HLS, hxm⟩ := hrel
        obtain ⟨m, rfl⟩ : ∃ m', m = m' + 1 := by
          cases m with
          | zero => have := HR.out; rw [lsP] at this; cases this
          | succ m => exact ⟨m, rfl⟩
        have hR := HR.out
        rw [lsP] at hR
        have hpl := HLS.out.st.ps.plen
        obtain ⟨sa, sc, rfl, hc1, hc2⟩ := HLS.out.own.sl
        obtain ⟨n, hn⟩ : ∃ n, xs.length = n := ⟨_, rfl⟩
        have HN := Lib.hid hn
        rw [List.length_map, hn] at hR
        rw [hn] at HLS hxm ⊢
        clear hn
        cases ha : atP [44] s2 with
        | false =>
          rw [if_neg (by rw [ha]; decide)] at hR
          have hrc : r = .ok (xs.map srk.er, s2) := by injection hR with hR; exact hR.symm
          have HF := Lib.hid (fun (w' : World) (hp : PsM w' pb s2) => found_no hp qcomma (by decide) ha)
          have HRC := Lib.hid hrc
          clear hR ha hrc hpl
          go_wp2_with (first | (go_at_call 50; refine (HF.out _ HLS.out.st.ps).mono ?_; rintro e w2 ⟨rfl, ss⟩; have HL2 := Lib.hid (HLS.out.stp ss); clear ss HF))
          have hfin : P (.returned (.slice sa n sc)) w2 := by rw [← HP.out, HRC.out]; exact HL2.out.out
          exact hfin
        | true =>
          rw [if_pos ha] at hR
          have HF := Lib.hid (fun (w' : World) (hp : PsM w' pb s2) => found_yes hp qcomma (by decide) ha)
          have hlen := atP_len ha
          by_cases c : n < most
          · rw [if_pos c] at hR
            have c1 : (n : Int) < (most : Int) := by omega
            have HMO := Lib.hid (pmust_ok 151)
            cases h2 : one s2.next with
            | none => rw [h2] at hR; cases hR
            | some r2 =>
              have HB2 := Lib.hid (fun (w' : World) (hp : PsM w' pb s2.next) => HONE.out w' s2.next r2 hp h2)
              have HU := Lib.hid (fun a s' (q : r2 = .ok (a, s')) => HUS.out s2.next a s' (by rw [h2, q]))
              have HPL := Lib.hid (And.intro hpl hlen)
              rw [h2] at hR
              clear h2 ha hpl hlen
              match r2, hR, HB2 with
              | .error e0, hR, HB2 =>
                have hrc : r = .error e0 := by injection hR with hR; exact hR.symm
                have HRC := Lib.hid hrc
                clear hR hrc HU
                go_wp2_with (first | (go_at_call 50; refine (HF.out _ HLS.out.st.ps).mono ?_; rintro e w2 ⟨rfl, ss⟩; have HL2 := Lib.hid (HLS.out.stp ss); clear ss HF) | (go_at_call 31; refine (HMO.out _).mono ?_; rintro e w3 ⟨rfl, rfl⟩; clear HMO) | (go_at_fn g; refine (HB2.out _ HL2.out.st.ps).mono ?_; rintro e w4 ⟨f4, rfl⟩; have F4 := Lib.hid (HL2.out.st.fr.trans f4 (New.refl _ _)); clear f4 HB2))
                exact ⟨rfl, by rw [← HP.out, HRC.out]; exact ⟨F4.out, rfl⟩⟩
              | .ok (b2, s3), hR, HB2 =>
                have HR3 : Hid (lsP one most m (xs.map srk.er ++ [b2]) s3 = some r) := Lib.hid hR
                have hu := HU.out b2 s3 rfl
                have HU3 := Lib.hid hu
                clear hR HU hu
                go_wp2_with (first | (go_at_call 50; refine (HF.out _ HLS.out.st.ps).mono ?_; rintro e w2 ⟨rfl, ss⟩; have HL2 := Lib.hid (HLS.out.stp ss); clear ss HF) | (go_at_call 31; refine (HMO.out _).mono ?_; rintro e w3 ⟨rfl, rfl⟩; clear HMO) | (go_at_fn g; refine (HB2.out _ HL2.out.st.ps).mono ?_; rintro e w4 ⟨f4, v4, rfl, ⟨x, rfl, hxe, m4⟩, p4⟩; have H4 := Lib.hid (And.intro (Stp.mk f4 p4) m4); have HXE2 := Lib.hid hxe; have HPU := Lib.hid (fun v9 w9 => LsS.push (E := srk) (y := x) (v' := v9) (w' := w9) HL2.out ⟨f4, p4⟩ m4); have HOW := Lib.hid (((HL2.out.stp ⟨f4, p4⟩).own).below ((Below.refl w4.heap.size w4).alloc (Nat.le_refl _) (.cells (srk.cells [x]).toArray srk.te))); have HNW := Lib.hid (OwR.made_cells (K := srk.toRK) w4 [x]); clear f4 p4 m4 HB2 hxe; obtain ⟨⟨op2, kind2, num2, scale2, text2, qual2, a2, cap2, args2⟩, sb2⟩ := x; simp only [srk]) | (at_builtin; refine OwR.wp (K := srk.toRK) rfl _ _ rfl w.heap.size (.slice sa n sc) xs rfl HOW.out (by have := HL2.out.st.fr.size; have := H4.out.1.fr.size; simp; omega) ⟨w4.heap.size, 0, none⟩ 1 1 [(XE.mk op2 kind2 num2 scale2 text2 qual2 a2 cap2 args2, sb2)] rfl rfl HNW.out (by have := HN.out; omega) ?_; intro v9 w9 o9 g9 n9; have HL9 := Lib.hid (HPU.out v9 w9 o9 g9 n9); clear o9 g9 n9))
                refine ⟨⟨s3, xs ++ [(XE.mk op2 kind2 num2 scale2 text2 qual2 a2 cap2 args2, sb2)], m, Lib.hid ?_, HL9, by rw [List.length_append, HN.out, List.length_singleton]; omega⟩, ?_⟩
                · rw [List.map_append, List.map_cons, List.map_nil, HXE2.out]
                  exact HR3.out
                · rw [HL9.out.st.ps.plen]
                  have h1 := HPL.out
                  have h2 := HU3.out
                  omega
          · rw [if_neg c] at hR
            have hrc : r = .error 151 := by injection hR with hR; exact hR.symm
            have HRC := Lib.hid hrc
            have c1 : decide ((n : Int) < (most : Int)) = false := by simp; omega
            have HMN := Lib.hid (pmust_no 151)
            clear hR hrc ha hpl hlen
            go_wp2_with (first | (go_at_call 50; refine (HF.out _ HLS.out.st.ps).mono ?_; rintro e w2 ⟨rfl, ss⟩; have HL2 := Lib.hid (HLS.out.stp ss); clear ss HF) | (go_at_call 31; refine (HMN.out _).mono ?_; rintro e w3 ⟨rfl, rfl⟩; clear HMN))
            exact ⟨rfl, by rw [← HP.out, HRC.out]; exact ⟨HL2.out.st.fr, rfl⟩⟩

end Go.Proofs.YtkffomfbnbcgaaaGreatDoor

namespace Go.Proofs.YtkffomfbnbcgaaaGreatDoor
set_option maxRecDepth 100000
open Go.RowKit Go.Joins Go.ChangeShapes Go.WideShapes
set_option linter.unusedVariables false
set_option linter.unusedSimpArgs false

set_option maxHeartbeats 4000000 in
theorem list_se {g pb : Nat} {one : PS → RX Se} (hone : PR g pb (RE sek) one) (henter : ∀ args w, (callFunc g args).run Tryz.prog w = .ok (.enter g args) w) (hus : ∀ s a s', one s = some (.ok (a, s')) → s'.rest.length ≤ s.rest.length)
    {w : World} {s : PS} {r : Except Nat (List Se × PS)} (h : PsM w pb s) (n0 most : Nat) (hmost : most ≤ 100) (hmost1 : 1 ≤ most) (hr : listP one most n0 s = some r) :
    Calls Tryz.prog 130 #[.pointer (some ⟨pb, 0, none⟩), .func (.func g) #[.pointer (some ⟨pb, 0, none⟩)] #[], .int .i64 (most : Int)] w (EndP w pb (RL sek w.heap.size) r) := by
  generalize hP : EndP w pb (RL sek w.heap.size) r = P
  have HP := Lib.hid hP
  have hpb := h.lt
  unfold listP at hr
  cases h1 : one s with
  | none => rw [h1] at hr; cases hr
  | some r1 =>
    have HB := Lib.hid (hone w s r1 h h1)
    rw [h1] at hr
    have HONE := Lib.hid hone
    have HUS := Lib.hid hus
    clear hone hus h1 h hP
    match r1, hr, HB with
    | .error c, hr, HB =>
      have hrc : r = .error c := by injection hr with hr; exact hr.symm
      subst hrc
      clear hr
      go_enter Tryz.func130, Tryz.ntmps130
      go_wp2_with (first | (go_at_fn g; refine HB.out.mono ?_; rintro e w1 ⟨f1, rfl⟩; have F1 := Lib.hid f1; clear f1 HB))
      exact ⟨rfl, by rw [← HP.out]; exact ⟨F1.out, rfl⟩⟩
    | .ok (b1, s1), hr, HB =>
      have HR : Hid (lsP one most n0 [b1] s1 = some r) := Lib.hid hr
      clear hr
      go_enter Tryz.func130, Tryz.ntmps130
      go_wp2_with (first | (go_at_fn g; refine HB.out.mono ?_; rintro e w1 ⟨f1, v, rfl, ⟨x, rfl, hxe, m1⟩, p1⟩; have HL := Lib.hid (LsS.made (E := sek) (x := x) ⟨f1, p1⟩ hpb m1); have HXE := Lib.hid hxe; clear f1 p1 m1 HB hxe; obtain ⟨nm, ⟨op, kind, num, scale, text, qual, a, cap, args⟩⟩ := x; simp only [sek]))
      go_loopw [7] (fun i wr => ∃ (s : PS) (xs : List (List Nat × XE)) (m : Nat), Hid (lsP one most m (xs.map sek.er) s = some r) ∧ Hid (LsS sek w wr pb s i xs) ∧ xs.length ≤ most) (fun _ wr => plen wr pb)
      case atStart => exact ⟨s1, [(nm, XE.mk op kind num scale text qual a cap args)], n0, Lib.hid (by rw [List.map_cons, List.map_nil, HXE.out]; exact HR.out), HL, hmost1⟩
      case round =>
        clear HL HXE HR
        obtain ⟨s2, xs, m, HR, HLS, hxm⟩ := hrel
        obtain ⟨m, rfl⟩ : ∃ m', m = m' + 1 := by
          cases m with
          | zero => have := HR.out; rw [lsP] at this; cases this
          | succ m => exact ⟨m, rfl⟩
        have hR := HR.out
        rw [lsP] at hR
        have hpl := HLS.out.st.ps.plen
        obtain ⟨sa, sc, rfl, hc1, hc2⟩ := HLS.out.own.sl
        obtain ⟨n, hn⟩ : ∃ n, xs.length = n := ⟨_, rfl⟩
        have HN := Lib.hid hn
        rw [List.length_map, hn] at hR
        rw [hn] at HLS hxm ⊢
        clear hn
        cases ha : atP [44] s2 with
        | false =>
          rw [if_neg (by rw [ha]; decide)] at hR
          have hrc : r = .ok (xs.map sek.er, s2) := by injection hR with hR; exact hR.symm
          have HF := Lib.hid (fun (w' : World) (hp : PsM w' pb s2) => found_no hp qcomma (by decide) ha)
          have HRC := Lib.hid hrc
          clear hR ha hrc hpl
          go_wp2_with (first | (go_at_call 50; refine (HF.out _ HLS.out.st.ps).mono ?_; rintro e w2 ⟨rfl, ss⟩; have HL2 := Lib.hid (HLS.out.stp ss); clear ss HF))
          have hfin : P (.returned (.slice sa n sc)) w2 := by rw [← HP.out, HRC.out]; exact HL2.out.out
          exact hfin
        | true =>
          rw [if_pos ha] at hR
          have HF := Lib.hid (fun (w' : World) (hp : PsM w' pb s2) => found_yes hp qcomma (by decide) ha)
          have hlen := atP_len ha
          by_cases c : n < most
          · rw [if_pos c] at hR
            have c1 : (n : Int) < (most : Int) := by omega
            have HMO := Lib.hid (pmust_ok 151)
            cases h2 : one s2.next with
            | none => rw [h2] at hR; cases hR
            | some r2 =>
              have HB2 := Lib.hid (fun (w' : World) (hp : PsM w' pb s2.next) => HONE.out w' s2.next r2 hp h2)
              have HU := Lib.hid (fun a s' (q : r2 = .ok (a, s')) => HUS.out s2.next a s' (by rw [h2, q]))
              have HPL := Lib.hid (And.intro hpl hlen)
              rw [h2] at hR
              clear h2 ha hpl hlen
              match r2, hR, HB2 with
              | .error e0, hR, HB2 =>
                have hrc : r = .error e0 := by injection hR with hR; exact hR.symm
                have HRC := Lib.hid hrc
                clear hR hrc HU
                go_wp2_with (first | (go_at_call 50; refine (HF.out _ HLS.out.st.ps).mono ?_; rintro e w2 ⟨rfl, ss⟩; have HL2 := Lib.hid (HLS.out.stp ss); clear ss HF) | (go_at_call 31; refine (HMO.out _).mono ?_; rintro e w3 ⟨rfl, rfl⟩; clear HMO) | (go_at_fn g; refine (HB2.out _ HL2.out.st.ps).mono ?_; rintro e w4 ⟨f4, rfl⟩; have F4 := Lib.hid (HL2.out.st.fr.trans f4 (New.refl _ _)); clear f4 HB2))
                exact ⟨rfl, by rw [← HP.out, HRC.out]; exact ⟨F4.out, rfl⟩⟩
              | .ok (b2, s3), hR, HB2 =>
                have HR3 : Hid (lsP one most m (xs.map sek.er ++ [b2]) s3 = some r) := Lib.hid hR
                have hu := HU.out b2 s3 rfl
                have HU3 := Lib.hid hu
                clear hR HU hu
                go_wp2_with (first | (go_at_call 50; refine (HF.out _ HLS.out.st.ps).mono ?_; rintro e w2 ⟨rfl, ss⟩; have HL2 := Lib.hid (HLS.out.stp ss); clear ss HF) | (go_at_call 31; refine (HMO.out _).mono ?_; rintro e w3 ⟨rfl, rfl⟩; clear HMO) | (go_at_fn g; refine (HB2.out _ HL2.out.st.ps).mono ?_; rintro e w4 ⟨f4, v4, rfl, ⟨x, rfl, hxe, m4⟩, p4⟩; have H4 := Lib.hid (And.intro (Stp.mk f4 p4) m4); have HXE2 := Lib.hid hxe; have HPU := Lib.hid (fun v9 w9 => LsS.push (E := sek) (y := x) (v' := v9) (w' := w9) HL2.out ⟨f4, p4⟩ m4); have HOW := Lib.hid (((HL2.out.stp ⟨f4, p4⟩).own).below ((Below.refl w4.heap.size w4).alloc (Nat.le_refl _) (.cells (sek.cells [x]).toArray sek.te))); have HNW := Lib.hid (OwR.made_cells (K := sek.toRK) w4 [x]); clear f4 p4 m4 HB2 hxe; obtain ⟨nm2, ⟨op2, kind2, num2, scale2, text2, qual2, a2, cap2, args2⟩⟩ := x; simp only [sek]) | (at_builtin; refine OwR.wp (K := sek.toRK) rfl _ _ rfl w.heap.size (.slice sa n sc) xs rfl HOW.out (by have := HL2.out.st.fr.size; have := H4.out.1.fr.size; simp; omega) ⟨w4.heap.size, 0, none⟩ 1 1 [(nm2, XE.mk op2 kind2 num2 scale2 text2 qual2 a2 cap2 args2)] rfl rfl HNW.out (by have := HN.out; omega) ?_; intro v9 w9 o9 g9 n9; have HL9 := Lib.hid (HPU.out v9 w9 o9 g9 n9); clear o9 g9 n9))
                refine ⟨⟨s3, xs ++ [(nm2, XE.mk op2 kind2 num2 scale2 text2 qual2 a2 cap2 args2)], m, Lib.hid ?_, HL9, by rw [List.length_append, HN.out, List.length_singleton]; omega⟩, ?_⟩
                · rw [List.map_append, List.map_cons, List.map_nil, HXE2.out]
                  exact HR3.out
                · rw [HL9.out.st.ps.plen]
                  have h1 := HPL.out
                  have h2 := HU3.out
                  omega
          · rw [if_neg c] at hR
            have hrc : r = .error 151 := by injection hR with hR; exact hR.symm
            have HRC := Lib.hid hrc
            have c1 : decide ((n : Int) < (most : Int)) = false := by simp; omega
            have HMN := Lib.hid (pmust_no 151)
            clear hR hrc ha hpl hlen
            go_wp2_with (first | (go_at_call 50; refine (HF.out _ HLS.out.st.ps).mono ?_; rintro e w2 ⟨rfl, ss⟩; have HL2 := Lib.hid (HLS.out.stp ss); clear ss HF) | (go_at_call 31; refine (HMN.out _).mono ?_; rintro e w3 ⟨rfl, rfl⟩; clear HMN))
            exact ⟨rfl, by rw [← HP.out, HRC.out]; exact ⟨HL2.out.st.fr, rfl⟩⟩

end Go.Proofs.YtkffomfbnbcgaaaGreatDoor

namespace Go.Proofs.YtkffomfbnbcgaaaGreatDoor
set_option maxRecDepth 100000
open Go.RowKit Go.Joins Go.ChangeShapes Go.WideShapes
set_option linter.unusedVariables false
set_option linter.unusedSimpArgs false

set_option maxHeartbeats 4000000 in
theorem list_ro {g pb : Nat} {one : PS → RX (List Ex)} (hone : PR g pb (RE rok) one) (henter : ∀ args w, (callFunc g args).run Tryz.prog w = .ok (.enter g args) w) (hus : ∀ s a s', one s = some (.ok (a, s')) → s'.rest.length ≤ s.rest.length)
    {w : World} {s : PS} {r : Except Nat (List (List Ex) × PS)} (h : PsM w pb s) (n0 most : Nat) (hmost : most ≤ 100) (hmost1 : 1 ≤ most) (hr : listP one most n0 s = some r) :
    Calls Tryz.prog 123 #[.pointer (some ⟨pb, 0, none⟩), .func (.func g) #[.pointer (some ⟨pb, 0, none⟩)] #[], .int .i64 (most : Int)] w (EndP w pb (RL rok w.heap.size) r) := by
  generalize hP : EndP w pb (RL rok w.heap.size) r = P
  have HP := Lib.hid hP
  have hpb := h.lt
  unfold listP at hr
  cases h1 : one s with
  | none => rw [h1] at hr; cases hr
  | some r1 =>
    have HB := Lib.hid (hone w s r1 h h1)
    rw [h1] at hr
    have HONE := Lib.hid hone
    have HUS := Lib.hid hus
    clear hone hus h1 h hP
    match r1, hr, HB with
    | .error c, hr, HB =>
      have hrc : r = .error c := by injection hr with hr; exact hr.symm
      subst hrc
      clear hr
      go_enter Tryz.func123, Tryz.ntmps123
      go_wp2_with (first | (go_at_fn g; refine HB.out.mono ?_; rintro e w1 ⟨f1, rfl⟩; have F1 := Lib.hid f1; clear f1 HB))
      exact ⟨rfl, by rw [← HP.out]; exact ⟨F1.out, rfl⟩⟩
    | .ok (b1, s1), hr, HB =>
      have HR : Hid (lsP one most n0 [b1] s1 = some r) := Lib.hid hr
      clear hr
      go_enter Tryz.func123, Tryz.ntmps123
      go_wp2_with (first | (go_at_fn g; refine HB.out.mono ?_; rintro e w1 ⟨f1, v, rfl, ⟨x, rfl, hxe, m1⟩, p1⟩; have HL := Lib.hid (LsS.made (E := rok) (x := x) ⟨f1, p1⟩ hpb m1); have HXE := Lib.hid hxe; clear f1 p1 m1 HB hxe; obtain ⟨ra, rc, rx⟩ := x; simp only [rok, XL.val]))
      go_loopw [7] (fun i wr => ∃ (s : PS) (xs : List (XL XE)) (m : Nat), Hid (lsP one most m (xs.map rok.er) s = some r) ∧ Hid (LsS rok w wr pb s i xs) ∧ xs.length ≤ most) (fun _ wr => plen wr pb)
      case atStart => exact ⟨s1, [XL.mk ra rc rx], n0, Lib.hid (by rw [List.map_cons, List.map_nil, HXE.out]; exact HR.out), HL, hmost1⟩
      case round =>
        clear HL HXE HR
        obtain ⟨s2, xs, m, HR, HLS, hxm⟩ := hrel
        obtain ⟨m, rfl⟩ : ∃ m', m = m' + 1 := by
          cases m with
          | zero => have := HR.out; rw [lsP] at this; cases this
          | succ m => exact ⟨m, rfl⟩
        have hR := HR.out
        rw [lsP] at hR
        have hpl := HLS.out.st.ps.plen
        obtain ⟨sa, sc, rfl, hc1, hc2⟩ := HLS.out.own.sl
        obtain ⟨n, hn⟩ : ∃ n, xs.length = n := ⟨_, rfl⟩
        have HN := Lib.hid hn
        rw [List.length_map, hn] at hR
        rw [hn] at HLS hxm ⊢
        clear hn
        cases ha : atP [44] s2 with
        | false =>
          rw [if_neg (by rw [ha]; decide)] at hR
          have hrc : r = .ok (xs.map rok.er, s2) := by injection hR with hR; exact hR.symm
          have HF := Lib.hid (fun (w' : World) (hp : PsM w' pb s2) => found_no hp qcomma (by decide) ha)
          have HRC := Lib.hid hrc
          clear hR ha hrc hpl
          go_wp2_with (first | (go_at_call 50; refine (HF.out _ HLS.out.st.ps).mono ?_; rintro e w2 ⟨rfl, ss⟩; have HL2 := Lib.hid (HLS.out.stp ss); clear ss HF))
          have hfin : P (.returned (.slice sa n sc)) w2 := by rw [← HP.out, HRC.out]; exact HL2.out.out
          exact hfin
        | true =>
          rw [if_pos ha] at hR
          have HF := Lib.hid (fun (w' : World) (hp : PsM w' pb s2) => found_yes hp qcomma (by decide) ha)
          have hlen := atP_len ha
          by_cases c : n < most
          · rw [if_pos c] at hR
            have c1 : (n : Int) < (most : Int) := by omega
            have HMO := Lib.hid (pmust_ok 151)
            cases h2 : one s2.next with
            | none => rw [h2] at hR; cases hR
            | some r2 =>
              have HB2 := Lib.hid (fun (w' : World) (hp : PsM w' pb s2.next) => HONE.out w' s2.next r2 hp h2)
              have HU := Lib.hid (fun a s' (q : r2 = .ok (a, s')) => HUS.out s2.next a s' (by rw [h2, q]))
              have HPL := Lib.hid (And.intro hpl hlen)
              rw [h2] at hR
              clear h2 ha hpl hlen
              match r2, hR, HB2 with
              | .error e0, hR, HB2 =>
                have hrc : r = .error e0 := by injection hR with hR; exact hR.symm
                have HRC := Lib.hid hrc
                clear hR hrc HU
                go_wp2_with (first | (go_at_call 50; refine (HF.out _ HLS.out.st.ps).mono ?_; rintro e w2 ⟨rfl, ss⟩; have HL2 := Lib.hid (HLS.out.stp ss); clear ss HF) | (go_at_call 31; refine (HMO.out _).mono ?_; rintro e w3 ⟨rfl, rfl⟩; clear HMO) | (go_at_fn g; refine (HB2.out _ HL2.out.st.ps).mono ?_; rintro e w4 ⟨f4, rfl⟩; have F4 := Lib.hid (HL2.out.st.fr.trans f4 (New.refl _ _)); clear f4 HB2))
                exact ⟨rfl, by rw [← HP.out, HRC.out]; exact ⟨F4.out, rfl⟩⟩
              | .ok (b2, s3), hR, HB2 =>
                have HR3 : Hid (lsP one most m (xs.map rok.er ++ [b2]) s3 = some r) := Lib.hid hR
                have hu := HU.out b2 s3 rfl
                have HU3 := Lib.hid hu
                clear hR HU hu
                go_wp2_with (first | (go_at_call 50; refine (HF.out _ HLS.out.st.ps).mono ?_; rintro e w2 ⟨rfl, ss⟩; have HL2 := Lib.hid (HLS.out.stp ss); clear ss HF) | (go_at_call 31; refine (HMO.out _).mono ?_; rintro e w3 ⟨rfl, rfl⟩; clear HMO) | (go_at_fn g; refine (HB2.out _ HL2.out.st.ps).mono ?_; rintro e w4 ⟨f4, v4, rfl, ⟨x, rfl, hxe, m4⟩, p4⟩; have H4 := Lib.hid (And.intro (Stp.mk f4 p4) m4); have HXE2 := Lib.hid hxe; have HPU := Lib.hid (fun v9 w9 => LsS.push (E := rok) (y := x) (v' := v9) (w' := w9) HL2.out ⟨f4, p4⟩ m4); have HOW := Lib.hid (((HL2.out.stp ⟨f4, p4⟩).own).below ((Below.refl w4.heap.size w4).alloc (Nat.le_refl _) (.cells (rok.cells [x]).toArray rok.te))); have HNW := Lib.hid (OwR.made_cells (K := rok.toRK) w4 [x]); clear f4 p4 m4 HB2 hxe; obtain ⟨ra2, rc2, rx2⟩ := x; simp only [rok, XL.val]) | (at_builtin; refine OwR.wp (K := rok.toRK) rfl _ _ rfl w.heap.size (.slice sa n sc) xs rfl HOW.out (by have := HL2.out.st.fr.size; have := H4.out.1.fr.size; simp; omega) ⟨w4.heap.size, 0, none⟩ 1 1 [XL.mk ra2 rc2 rx2] rfl rfl HNW.out (by have := HN.out; omega) ?_; intro v9 w9 o9 g9 n9; have HL9 := Lib.hid (HPU.out v9 w9 o9 g9 n9); clear o9 g9 n9))
                refine ⟨⟨s3, xs ++ [XL.mk ra2 rc2 rx2], m, Lib.hid ?_, HL9, by rw [List.length_append, HN.out, List.length_singleton]; omega⟩, ?_⟩
                · rw [List.map_append, List.map_cons, List.map_nil, HXE2.out]
                  exact HR3.out
                · rw [HL9.out.st.ps.plen]
                  have h1 := HPL.out
                  have h2 := HU3.out
                  omega
          · rw [if_neg c] at hR
            have hrc : r = .error 151 := by injection hR with hR; exact hR.symm
            have HRC := Lib.hid hrc
            have c1 : decide ((n : Int) < (most : Int)) = false := by simp; omega
            have HMN := Lib.hid (pmust_no 151)
            clear hR hrc ha hpl hlen
            go_wp2_with (first | (go_at_call 50; refine (HF.out _ HLS.out.st.ps).mono ?_; rintro e w2 ⟨rfl, ss⟩; have HL2 := Lib.hid (HLS.out.stp ss); clear ss HF) | (go_at_call 31; refine (HMN.out _).mono ?_; rintro e w3 ⟨rfl, rfl⟩; clear HMN))
            exact ⟨rfl, by rw [← HP.out, HRC.out]; exact ⟨HL2.out.st.fr, rfl⟩⟩

end Go.Proofs.YtkffomfbnbcgaaaGreatDoor

namespace Go.Proofs.YtkffomfbnbcgaaaGreatDoor
set_option maxRecDepth 100000
open Go.RowKit Go.Joins Go.ChangeShapes Go.WideShapes
set_option linter.unusedVariables false
set_option linter.unusedSimpArgs false
/-- a statement with the places of its lists -/
structure XSt where
  kind : Nat
  table : List Nat := []
  index : List Nat := []
  cols : XL Co := ⟨none, 0, []⟩
  names : XL (List Nat) := ⟨none, 0, []⟩
  uniq : Bool := false
  rows : XL (XL XE) := ⟨none, 0, []⟩
  items : XL (XE × List Nat) := ⟨none, 0, []⟩
  src : XL (List Nat × List Nat × XE) := ⟨none, 0, []⟩
  whr : XE := .mk 0 0 0 0 ⟨#[]⟩ ⟨#[]⟩ none 0 []
  order : XL (XE × Bool) := ⟨none, 0, []⟩
  sets : XL (List Nat × XE) := ⟨none, 0, []⟩
def XSt.er (x : XSt) : Stm := { kind := x.kind, table := x.table, index := x.index, cols := x.cols.xs.map cok.er, names := x.names.xs.map stk.er, uniq := x.uniq, rows := x.rows.xs.map rok.er, items := x.items.xs.map itk.er, src := x.src.xs.map sok.er, whr := x.whr.er, order := x.order.xs.map srk.er, sets := x.sets.xs.map sek.er }
def XSt.enc (x : XSt) : List Value := [.int .i64 (x.kind : Int), .string (strB x.table), .string (strB x.index), x.cols.val, x.names.val, .bool x.uniq, x.rows.val, x.items.val, x.src.val] ++ x.whr.enc ++ [x.order.val, x.sets.val]
def XSt.val (x : XSt) : Value := .agg x.enc.toArray
structure XSt.Mem (K : Bl) (w : World) (x : XSt) : Prop where
  cols : XL.Mem cok K w x.cols
  names : XL.Mem stk K w x.names
  rows : XL.Mem rok K w x.rows
  items : XL.Mem itk K w x.items
  src : XL.Mem sok K w x.src
  whr : XE.Mem K w x.whr
  order : XL.Mem srk K w x.order
  sets : XL.Mem sek K w x.sets
theorem XSt.Mem.frm {K F : Bl} {w w1 : World} (f : Frm F w w1) (hd : ∀ k, K k → ¬ F k) {x : XSt} (h : XSt.Mem K w x) : XSt.Mem K w1 x :=
  ⟨XL.Mem.frm f hd _ h.cols, XL.Mem.frm f hd _ h.names, XL.Mem.frm f hd _ h.rows, XL.Mem.frm f hd _ h.items, XL.Mem.frm f hd _ h.src, XE.Mem.frm f hd _ h.whr, XL.Mem.frm f hd _ h.order, XL.Mem.frm f hd _ h.sets⟩
theorem XSt.Mem.mono {K K' : Bl} {w : World} (hd : ∀ k, K k → K' k) {x : XSt} (h : XSt.Mem K w x) : XSt.Mem K' w x :=
  ⟨XL.Mem.mono hd _ h.cols, XL.Mem.mono hd _ h.names, XL.Mem.mono hd _ h.rows, XL.Mem.mono hd _ h.items, XL.Mem.mono hd _ h.src, XE.Mem.mono hd _ h.whr, XL.Mem.mono hd _ h.order, XL.Mem.mono hd _ h.sets⟩
/-- a value that is a statement, all in new memory -/
def RSt (B : Nat) (w : World) (v : Value) (st : Stm) : Prop := ∃ x : XSt, v = x.val ∧ x.er = st ∧ XSt.Mem (GE B) w x
theorem fin_St {w w2 : World} {pb : Nat} {s : PS} (hS : Stp w w2 pb s) (hp : pb < w.heap.size) {cs : Array Value} (hb : Bx w2 w.heap.size cs 34) (hcs : cs.size = 18) (x : XSt) (hm : XSt.Mem (fun k => w.heap.size < k) w2 x) :
    Bx (stL w2 w.heap.size 0 x.enc) w.heap.size x.enc.toArray 34 ∧ EndP w pb (RSt w.heap.size) (.ok (x.er, s)) (.returned x.val) (stL w2 w.heap.size 0 x.enc) := by
  have hS2 := hS.stL (Nat.le_refl _) hp x.enc 0
  refine ⟨stL_all hb _ (by rw [hcs]; unfold XSt.enc; simp [XE.enc_len]), hS2.fr, _, rfl, ⟨x, rfl, rfl, ?_⟩, hS2.ps⟩
  exact XSt.Mem.mono (fun k hk => Nat.le_of_lt hk) (XSt.Mem.frm (stL_one w2 w.heap.size 0 x.enc) (fun k hk e => by omega) hm)
abbrev GT (g : Nat) : Bl := fun k => g < k
theorem upL {α β : Type} {P : Program} {E : EK P α β} {pb g : Nat} {w w' : World} {y : XL α} (f : Frm (PF pb) w w') (hg : pb < g) (h : XL.Mem E (GT g) w y) : XL.Mem E (GT g) w' y := XL.Mem.frm f (fun k hk e => by have : g < k := hk; omega) y h
theorem upLs {α β : Type} {P : Program} {E : EK P α β} {g : Nat} {w : World} {y : XL α} (h : XL.Mem E (GT g) w y) (o : Nat) (l : List Value) : XL.Mem E (GT g) (stL w g o l) y := XL.Mem.frm (stL_one w g o l) (fun k hk e => by have : g < k := hk; omega) y h
theorem upX {pb g : Nat} {w w' : World} {x : XE} (f : Frm (PF pb) w w') (hg : pb < g) (h : XE.Mem (GT g) w x) : XE.Mem (GT g) w' x := XE.Mem.frm f (fun k hk e => by have : g < k := hk; omega) x h
theorem upXs {g : Nat} {w : World} {x : XE} (h : XE.Mem (GT g) w x) (o : Nat) (l : List Value) : XE.Mem (GT g) (stL w g o l) x := XE.Mem.frm (stL_one w g o l) (fun k hk e => by have : g < k := hk; omega) x h
theorem gtL {α β : Type} {P : Program} {E : EK P α β} {g B : Nat} {w : World} {y : XL α} (hg : g < B) (h : XL.Mem E (GE B) w y) : XL.Mem E (GT g) w y := XL.Mem.mono (fun k hk => Nat.lt_of_lt_of_le hg hk) y h
theorem gtX {g B : Nat} {w : World} {x : XE} (hg : g < B) (h : XE.Mem (GE B) w x) : XE.Mem (GT g) w x := XE.Mem.mono (fun k hk => Nat.lt_of_lt_of_le hg hk) x h
theorem dnL {α β : Type} {P : Program} {E : EK P α β} {g g' : Nat} {w : World} {y : XL α} (hg : g ≤ g') (h : XL.Mem E (GT g') w y) : XL.Mem E (GT g) w y := XL.Mem.mono (fun k hk => Nat.lt_of_le_of_lt hg hk) y h
theorem dnX {g g' : Nat} {w : World} {x : XE} (hg : g ≤ g') (h : XE.Mem (GT g') w x) : XE.Mem (GT g) w x := XE.Mem.mono (fun k hk => Nat.lt_of_le_of_lt hg hk) x h
theorem memz (g : Nat) (w : World) {x : XSt} (h1 : XL.Mem cok (GT g) w x.cols) (h2 : XL.Mem stk (GT g) w x.names) (h3 : XL.Mem rok (GT g) w x.rows) (h4 : XL.Mem itk (GT g) w x.items) (h5 : XL.Mem sok (GT g) w x.src) (h6 : XE.Mem (GT g) w x.whr) (h7 : XL.Mem srk (GT g) w x.order) (h8 : XL.Mem sek (GT g) w x.sets) : XSt.Mem (fun k => g < k) w x := ⟨h1, h2, h3, h4, h5, h6, h7, h8⟩
abbrev nl {α β : Type} {P : Program} {E : EK P α β} {g : Nat} {w : World} : XL.Mem E (GT g) w ⟨none, 0, []⟩ := XL.Mem.nil _ _
abbrev nx {g : Nat} {w : World} : XE.Mem (GT g) w (.mk 0 0 0 0 ⟨#[]⟩ ⟨#[]⟩ none 0 []) := XE.Mem.leaf _ _ _ _ _ _ _ _
theorem er0 : XE.er (.mk 0 0 0 0 ⟨#[]⟩ ⟨#[]⟩ none 0 []) = zE := by simp [XE.er, XE.erL, zE]
/-- a statement stored in its box -/
def st18 (w : World) (g : Nat) (v0 v1 v2 v3 v4 v5 v6 v7 v8 v9 v10 v11 v12 v13 v14 v15 v16 v17 : Value) : World := (((((((((((((((((w.setCell ⟨g, 0, none⟩ v0).setCell ⟨g, 1, none⟩ v1).setCell ⟨g, 2, none⟩ v2).setCell ⟨g, 3, none⟩ v3).setCell ⟨g, 4, none⟩ v4).setCell ⟨g, 5, none⟩ v5).setCell ⟨g, 6, none⟩ v6).setCell ⟨g, 7, none⟩ v7).setCell ⟨g, 8, none⟩ v8).setCell ⟨g, 9, none⟩ v9).setCell ⟨g, 10, none⟩ v10).setCell ⟨g, 11, none⟩ v11).setCell ⟨g, 12, none⟩ v12).setCell ⟨g, 13, none⟩ v13).setCell ⟨g, 14, none⟩ v14).setCell ⟨g, 15, none⟩ v15).setCell ⟨g, 16, none⟩ v16).setCell ⟨g, 17, none⟩ v17
theorem stL18 (w : World) (g : Nat) (v0 v1 v2 v3 v4 v5 v6 v7 v8 v9 v10 v11 v12 v13 v14 v15 v16 v17 : Value) : stL w g 0 [v0, v1, v2, v3, v4, v5, v6, v7, v8, v9, v10, v11, v12, v13, v14, v15, v16, v17] = st18 w g v0 v1 v2 v3 v4 v5 v6 v7 v8 v9 v10 v11 v12 v13 v14 v15 v16 v17 := rfl
theorem fin_S {w w2 : World} {pb : Nat} {s : PS} (hS : Stp w w2 pb s) (hp : pb < w.heap.size) {cs : Array Value} (hb : Bx w2 w.heap.size cs 34) (hcs : cs.size = 18) (x : XSt) (hm : XSt.Mem (fun k => w.heap.size < k) w2 x) {v0 v1 v2 v3 v4 v5 v6 v7 v8 v9 v10 v11 v12 v13 v14 v15 v16 v17 : Value} (he : x.enc = [v0, v1, v2, v3, v4, v5, v6, v7, v8, v9, v10, v11, v12, v13, v14, v15, v16, v17]) {st : Stm} (hst : x.er = st) :
    Bx (st18 w2 w.heap.size v0 v1 v2 v3 v4 v5 v6 v7 v8 v9 v10 v11 v12 v13 v14 v15 v16 v17) w.heap.size #[v0, v1, v2, v3, v4, v5, v6, v7, v8, v9, v10, v11, v12, v13, v14, v15, v16, v17] 34 ∧ EndP w pb (RSt w.heap.size) (.ok (st, s)) (.returned (.agg #[v0, v1, v2, v3, v4, v5, v6, v7, v8, v9, v10, v11, v12, v13, v14, v15, v16, v17])) (st18 w2 w.heap.size v0 v1 v2 v3 v4 v5 v6 v7 v8 v9 v10 v11 v12 v13 v14 v15 v16 v17) := by
  have h := fin_St hS hp hb hcs x hm
  have hv : x.val = .agg #[v0, v1, v2, v3, v4, v5, v6, v7, v8, v9, v10, v11, v12, v13, v14, v15, v16, v17] := by unfold XSt.val; rw [he]
  rw [he, stL18, hv, hst] at h
  exact h
theorem setCells_stL (g : Nat) : ∀ (l : List Value) (o : Nat) (w : World), w.setCells g o l = stL w g o l
  | [], o, w => rfl
  | v :: r, o, w => by rw [World.setCells, stL]; exact setCells_stL g r (o + 1) _
theorem XSt.enc_one (x : XSt) : ∀ u ∈ x.enc, u.oneCell' = true := by
  unfold XSt.enc
  refine one_app (one_app ?_ (XE.enc_one x.whr)) ?_
  · intro u hu
    simp only [List.mem_cons, List.not_mem_nil, or_false] at hu
    rcases hu with rfl | rfl | rfl | rfl | rfl | rfl | rfl | rfl | rfl <;> rfl
  · intro u hu
    simp only [List.mem_cons, List.not_mem_nil, or_false] at hu
    rcases hu with rfl | rfl <;> rfl
theorem infoSt : (Tryz.prog.info? 34).map (·.size) = some 18 := by kernel_rfl
theorem fin_T {w w2 : World} {pb : Nat} {s : PS} (hS : Stp w w2 pb s) (hp : pb < w.heap.size) {cs : Array Value} (hb : Bx w2 w.heap.size cs 34) (hcs : cs.size = 18) (x : XSt) (hm : XSt.Mem (fun k => w.heap.size < k) w2 x) {v0 v1 v2 v3 v4 v5 v6 v7 v8 v9 v10 v11 v12 v13 v14 v15 v16 v17 : Value} (he : x.enc = [v0, v1, v2, v3, v4, v5, v6, v7, v8, v9, v10, v11, v12, v13, v14, v15, v16, v17]) {st : Stm} (hst : x.er = st) :
    ∃ wz, (Instr.storeAt 34 (.pointer (some ⟨w.heap.size, 0, none⟩)) (.agg #[v0, v1, v2, v3, v4, v5, v6, v7, v8, v9, v10, v11, v12, v13, v14, v15, v16, v17])).run Tryz.prog w2 = .ok () wz ∧ Bx wz w.heap.size #[v0, v1, v2, v3, v4, v5, v6, v7, v8, v9, v10, v11, v12, v13, v14, v15, v16, v17] 34 ∧ EndP w pb (RSt w.heap.size) (.ok (st, s)) (.returned (.agg #[v0, v1, v2, v3, v4, v5, v6, v7, v8, v9, v10, v11, v12, v13, v14, v15, v16, v17])) wz := by
  have h := fin_S hS hp hb hcs x hm he hst
  refine ⟨_, ?_, h.1, h.2⟩
  rw [← stL18, ← setCells_stL]
  have := run_storeAt_mid (P := Tryz.prog) w2 w.heap.size 0 34 #[v0, v1, v2, v3, v4, v5, v6, v7, v8, v9, v10, v11, v12, v13, v14, v15, v16, v17] (fun j hj => by
    rw [Nat.zero_add]
    exact ⟨by rw [cell_of_block hb, Array.getElem?_eq_getElem (by rw [hcs]; exact hj)]; rfl, hb.frz j⟩) infoSt (by
      have h1 := XSt.enc_one x
      rw [he] at h1
      exact all_oneCell_toArray h1)
  exact this
theorem ld_T {w : World} {g : Nat} {v0 v1 v2 v3 v4 v5 v6 v7 v8 v9 v10 v11 v12 v13 v14 v15 v16 v17 : Value} (hb : Bx w g #[v0, v1, v2, v3, v4, v5, v6, v7, v8, v9, v10, v11, v12, v13, v14, v15, v16, v17] 34) : (Instr.loadAt 34 (.pointer (some ⟨g, 0, none⟩))).run Tryz.prog w = .ok (.agg #[v0, v1, v2, v3, v4, v5, v6, v7, v8, v9, v10, v11, v12, v13, v14, v15, v16, v17]) w := by
  have hu : ∃ d, Tryz.prog.underlying 34 = some d ∧ d.isRow = true := ⟨_, Tryz.underlying34, rfl⟩
  obtain ⟨d, h1, h2⟩ := hu
  exact run_loadAt_mid w g 0 34 [v0, v1, v2, v3, v4, v5, v6, v7, v8, v9, v10, v11, v12, v13, v14, v15, v16, v17] d (fun j v hj => by rw [Nat.zero_add]; exact hb.cell (by simpa using hj)) h1 h2 infoSt
theorem wpSt {ops : Array Oper} {rest : List Oper} {o : Oper} {a : Act} {w wz : World} {Q : Exit → Act → World → Prop} (hgd : o.guard = none) (x y : Operand) (ho : o.op = .store 34 x y) {p v : Value} (hx : a.eval x = p) (hy : a.eval y = v)
    (hst : (Instr.storeAt 34 p v).run Tryz.prog w = .ok () wz) (h : wpList Tryz.prog ops Q rest (a.put o.dst undef) wz) : wpList Tryz.prog ops Q (o :: rest) a w :=
  wpList_plain hgd fun _ hK => by
    unfold Oper.wp execOp
    simp only [ho, hx, hy, Sem.run_bind, Sem.run_pure, Result.andThen_ok, hst]
    exact hK _ _ h
theorem wpLd {ops : Array Oper} {rest : List Oper} {o : Oper} {a : Act} {w : World} {Q : Exit → Act → World → Prop} (hgd : o.guard = none) (x : Operand) (ho : o.op = .load 34 x) {p v : Value} (hx : a.eval x = p)
    (hld : (Instr.loadAt 34 p).run Tryz.prog w = .ok v w) (h : wpList Tryz.prog ops Q rest (a.put o.dst v) w) : wpList Tryz.prog ops Q (o :: rest) a w :=
  wpList_plain hgd fun _ hK => by
    unfold Oper.wp execOp
    simp only [ho, hx, Sem.run_bind, Sem.run_pure, Result.andThen_ok, hld]
    exact hK _ _ h
theorem bx_where {w : World} {g : Nat} {T : TypeId} {u0 u1 u2 u3 u4 u5 u6 u7 u8 u9 u10 u11 u12 u13 u14 u15 u16 u17 : Value} (hb : Bx w g #[u0, u1, u2, u3, u4, u5, u6, u7, u8, u9, u10, u11, u12, u13, u14, u15, u16, u17] T) (op kind num scale : Int) (text qual : ByteArray) (a : Option Addr) (cap : Nat) (args : List XE) :
    Bx (stL w g 9 (XE.enc (.mk op kind num scale text qual a cap args))) g #[u0, u1, u2, u3, u4, u5, u6, u7, u8, .int .i64 op, .slice a args.length cap, .int .i64 kind, .int .i64 num, .int .i64 scale, .string text, .string qual, u16, u17] T := by
  have h0 : Bx _ g #[u0, u1, u2, u3, u4, u5, u6, u7, u8, .int .i64 op, u10, u11, u12, u13, u14, u15, u16, u17] T := box_set hb 9 (.int .i64 op)
  have h1 : Bx _ g #[u0, u1, u2, u3, u4, u5, u6, u7, u8, .int .i64 op, .slice a args.length cap, u11, u12, u13, u14, u15, u16, u17] T := box_set h0 10 (.slice a args.length cap)
  have h2 : Bx _ g #[u0, u1, u2, u3, u4, u5, u6, u7, u8, .int .i64 op, .slice a args.length cap, .int .i64 kind, u12, u13, u14, u15, u16, u17] T := box_set h1 11 (.int .i64 kind)
  have h3 : Bx _ g #[u0, u1, u2, u3, u4, u5, u6, u7, u8, .int .i64 op, .slice a args.length cap, .int .i64 kind, .int .i64 num, u13, u14, u15, u16, u17] T := box_set h2 12 (.int .i64 num)
  have h4 : Bx _ g #[u0, u1, u2, u3, u4, u5, u6, u7, u8, .int .i64 op, .slice a args.length cap, .int .i64 kind, .int .i64 num, .int .i64 scale, u14, u15, u16, u17] T := box_set h3 13 (.int .i64 scale)
  have h5 : Bx _ g #[u0, u1, u2, u3, u4, u5, u6, u7, u8, .int .i64 op, .slice a args.length cap, .int .i64 kind, .int .i64 num, .int .i64 scale, .string text, u15, u16, u17] T := box_set h4 14 (.string text)
  have h6 : Bx _ g #[u0, u1, u2, u3, u4, u5, u6, u7, u8, .int .i64 op, .slice a args.length cap, .int .i64 kind, .int .i64 num, .int .i64 scale, .string text, .string qual, u16, u17] T := box_set h5 15 (.string qual)
  exact h6

end Go.Proofs.YtkffomfbnbcgaaaGreatDoor

namespace Go.Proofs.YtkffomfbnbcgaaaGreatDoor
set_option maxRecDepth 100000
open Go.RowKit Go.Joins Go.ChangeShapes Go.WideShapes
set_option linter.unusedVariables false
set_option linter.unusedSimpArgs false
set_option maxHeartbeats 8000000 in
theorem drop_p (pb : Nat) : PR 52 pb RSt (dropP isN) := by
  intro w s r h hr
  generalize hP : EndP w pb (RSt w.heap.size) r = P
  have HP := Lib.hid hP
  have hpb := h.lt
  have hne : ¬ w.heap.size = pb := by omega
  obtain ⟨w1, hw1⟩ : ∃ w1, w.alloc (.cells #[.int .i64 0, .string ⟨#[]⟩, .string ⟨#[]⟩, .slice none 0 0, .slice none 0 0, .bool false, .slice none 0 0, .slice none 0 0, .slice none 0 0, .int .i64 0, .slice none 0 0, .int .i64 0, .int .i64 0, .int .i64 0, .string ⟨#[]⟩, .string ⟨#[]⟩, .slice none 0 0, .slice none 0 0] 34) = w1 := ⟨_, rfl⟩
  have hb1 := Bx.new w #[.int .i64 0, .string ⟨#[]⟩, .string ⟨#[]⟩, .slice none 0 0, .slice none 0 0, .bool false, .slice none 0 0, .slice none 0 0, .slice none 0 0, .int .i64 0, .slice none 0 0, .int .i64 0, .int .i64 0, .int .i64 0, .string ⟨#[]⟩, .string ⟨#[]⟩, .slice none 0 0, .slice none 0 0] 34
  have S1 := Lib.hid ((Stp.refl h).alloc (.cells #[.int .i64 0, .string ⟨#[]⟩, .string ⟨#[]⟩, .slice none 0 0, .slice none 0 0, .bool false, .slice none 0 0, .slice none 0 0, .slice none 0 0, .int .i64 0, .slice none 0 0, .int .i64 0, .int .i64 0, .int .i64 0, .string ⟨#[]⟩, .string ⟨#[]⟩, .slice none 0 0, .slice none 0 0] 34))
  have hz1 : w1.heap.size = w.heap.size + 1 := by rw [← hw1]; simp
  rw [hw1] at hb1 S1
  have HB1 := Lib.hid hb1
  have HZ1 := Lib.hid hz1
  have HR := Lib.hid hr
  skip
  clear hP h hr hb1 hz1
  have hR := HR.out
  unfold dropP at hR
  clear HR
  cases hc : atP wTable s with
  | true =>
    rw [if_pos hc] at hR
    have HR := Lib.hid hR
    clear hR
    go_enter Tryz.func52, Tryz.ntmps52
    go_wp2_with (first | (go_at_call 50; refine (found_yes S1.out.ps zqtable (by decide) hc).mono ?_; rintro e w2 ⟨rfl, ss⟩; have S2 := Lib.hid (S1.out.trans ss); have HB2 := Lib.hid (HB1.out.frm ss.fr hne); clear ss hc) | (go_at_call 57; rcases bind_call HR.out with ⟨c, hx, rfl⟩ | ⟨aa, sa, hx, hrr⟩; refine (name_p S2.out.ps hx).mono ?_; rintro e w3 ⟨ff, rfl⟩; exact ⟨rfl, by rw [← HP.out]; exact ⟨S2.out.fr.trans ff (New.refl _ _), rfl⟩⟩; refine (name_p S2.out.ps hx).mono ?_; rintro e w3 ⟨ff, v, rfl, hv, pp⟩; obtain ⟨tb, htb⟩ : ∃ t, t = aa := ⟨_, rfl⟩; subst htb; have hv2 : v = .string (strB tb) := hv; subst hv2; have S3 := Lib.hid (S2.out.trans ⟨ff, pp⟩); have HR3 := Lib.hid hrr; have HB3 := Lib.hid (HB2.out.frm ff hne); have hq : XSt.er { kind := 2, table := tb } = { kind := 2, table := tb } := (by unfold XSt.er; simp only [er0, List.map_nil]); obtain ⟨wz, hst, hbz, hez⟩ := fin_T S3.out hpb HB3.out rfl { kind := 2, table := tb } (memz _ _ nl nl nl nl nl nx nl nl) (show XSt.enc { kind := 2, table := tb } = [.int .i64 2, .string (strB tb), .string ⟨#[]⟩, .slice none 0 0, .slice none 0 0, .bool false, .slice none 0 0, .slice none 0 0, .slice none 0 0, .int .i64 0, .slice none 0 0, .int .i64 0, .int .i64 0, .int .i64 0, .string ⟨#[]⟩, .string ⟨#[]⟩, .slice none 0 0, .slice none 0 0] from rfl) hq; have HFI := Lib.hid (And.intro hbz hez); have HST := Lib.hid hst; clear hq hst hbz hez; clear hv; clear pp hrr hx HR) | (refine wpSt rfl _ _ rfl rfl rfl HST.out ?_; clear HST))
    have hrc := ret_ok HR3.out
    exact retStmt Tryz.results52 HFI.out.1 rfl rfl (by rw [← HP.out, hrc]; exact HFI.out.2)
  | false =>
    rw [if_neg (by rw [hc]; decide)] at hR
    have HR := Lib.hid hR
    clear hR
    go_enter Tryz.func52, Tryz.ntmps52
    go_wp2_with (first | (go_at_call 50; refine (found_no S1.out.ps zqtable (by decide) hc).mono ?_; rintro e w2 ⟨rfl, ss⟩; have S2 := Lib.hid (S1.out.trans ss); have HB2 := Lib.hid (HB1.out.frm ss.fr hne); clear ss hc) | (go_at_call 56; rcases need_bind HR.out with ⟨ha, rfl⟩ | ⟨ha, hrr⟩; refine (need_g S2.out.ps zqindex (by decide) (by first | rfl | simp | assumption)).mono ?_; rintro e w3 hn; obtain ⟨rfl, ff⟩ := hn.2 ha; exact ⟨rfl, by rw [← HP.out]; exact ⟨S2.out.fr.trans ff (New.refl _ _), rfl⟩⟩; refine (need_g S2.out.ps zqindex (by decide) (by first | rfl | simp | assumption)).mono ?_; rintro e w3 hn; obtain ⟨rfl, ss⟩ := hn.1 ha; have S3 := Lib.hid (S2.out.trans ss); have HR3 := Lib.hid hrr; have HB3 := Lib.hid (HB2.out.frm ss.fr hne); clear ss hn hrr ha HR) | (go_at_call 57; rcases bind_call HR3.out with ⟨c, hx, rfl⟩ | ⟨aa, sa, hx, hrr⟩; refine (name_p S3.out.ps hx).mono ?_; rintro e w4 ⟨ff, rfl⟩; exact ⟨rfl, by rw [← HP.out]; exact ⟨S3.out.fr.trans ff (New.refl _ _), rfl⟩⟩; refine (name_p S3.out.ps hx).mono ?_; rintro e w4 ⟨ff, v, rfl, hv, pp⟩; obtain ⟨tb, htb⟩ : ∃ t, t = aa := ⟨_, rfl⟩; subst htb; have hv2 : v = .string (strB tb) := hv; subst hv2; have S4 := Lib.hid (S3.out.trans ⟨ff, pp⟩); have HR4 := Lib.hid hrr; have HB4 := Lib.hid (HB3.out.frm ff hne); have hq : XSt.er { kind := 4, index := tb } = { kind := 4, index := tb } := (by unfold XSt.er; simp only [er0, List.map_nil]); obtain ⟨wz, hst, hbz, hez⟩ := fin_T S4.out hpb HB4.out rfl { kind := 4, index := tb } (memz _ _ nl nl nl nl nl nx nl nl) (show XSt.enc { kind := 4, index := tb } = [.int .i64 4, .string ⟨#[]⟩, .string (strB tb), .slice none 0 0, .slice none 0 0, .bool false, .slice none 0 0, .slice none 0 0, .slice none 0 0, .int .i64 0, .slice none 0 0, .int .i64 0, .int .i64 0, .int .i64 0, .string ⟨#[]⟩, .string ⟨#[]⟩, .slice none 0 0, .slice none 0 0] from rfl) hq; have HFI := Lib.hid (And.intro hbz hez); have HST := Lib.hid hst; clear hq hst hbz hez; clear hv; clear pp hrr hx HR3) | (refine wpSt rfl _ _ rfl rfl rfl HST.out ?_; clear HST))
    have hrc := ret_ok HR4.out
    exact retStmt Tryz.results52 HFI.out.1 rfl rfl (by rw [← HP.out, hrc]; exact HFI.out.2)

end Go.Proofs.YtkffomfbnbcgaaaGreatDoor

namespace Go.Proofs.YtkffomfbnbcgaaaGreatDoor
set_option maxRecDepth 100000
open Go.RowKit Go.Joins Go.ChangeShapes Go.WideShapes
set_option linter.unusedVariables false
set_option linter.unusedSimpArgs false
theorem al_T (w : World) {vs : List Value} (x : XSt) (hx : x.enc = vs) :
    ∃ wl, (Instr.storeAt 34 (.pointer (some ⟨w.heap.size, 0, none⟩)) (.agg vs.toArray)).run Tryz.prog (w.alloc (.cells #[.int .i64 0, .string ⟨#[]⟩, .string ⟨#[]⟩, .slice none 0 0, .slice none 0 0, .bool false, .slice none 0 0, .slice none 0 0, .slice none 0 0, .int .i64 0, .slice none 0 0, .int .i64 0, .int .i64 0, .int .i64 0, .string ⟨#[]⟩, .string ⟨#[]⟩, .slice none 0 0, .slice none 0 0] 34)) = .ok () wl ∧ Below w.heap.size w wl ∧ Bx wl w.heap.size vs.toArray 34 := by
  have b1 : Below w.heap.size w (w.alloc (.cells #[.int .i64 0, .string ⟨#[]⟩, .string ⟨#[]⟩, .slice none 0 0, .slice none 0 0, .bool false, .slice none 0 0, .slice none 0 0, .slice none 0 0, .int .i64 0, .slice none 0 0, .int .i64 0, .int .i64 0, .int .i64 0, .string ⟨#[]⟩, .string ⟨#[]⟩, .slice none 0 0, .slice none 0 0] 34)) := (Below.refl _ _).alloc (Nat.le_refl _) _
  have hl : vs.length = 18 := by rw [← hx]; unfold XSt.enc; simp [XE.enc_len]
  have h1 : vs.toArray.all (·.oneCell') = true := by
    have := XSt.enc_one x
    rw [hx] at this
    exact all_oneCell_toArray this
  have hb := Bx.new w #[.int .i64 0, .string ⟨#[]⟩, .string ⟨#[]⟩, .slice none 0 0, .slice none 0 0, .bool false, .slice none 0 0, .slice none 0 0, .slice none 0 0, .int .i64 0, .slice none 0 0, .int .i64 0, .int .i64 0, .int .i64 0, .string ⟨#[]⟩, .string ⟨#[]⟩, .slice none 0 0, .slice none 0 0] 34
  refine ⟨_, run_storeAt_mid (P := Tryz.prog) _ w.heap.size 0 34 vs.toArray (fun j hj => ?_) (by rw [infoSt]; simp [hl]) h1, ?_, ?_⟩
  · rw [Nat.zero_add]
    have hj' : j < 18 := by simpa [hl] using hj
    exact ⟨by rw [cell_of_block hb, Array.getElem?_eq_getElem (by exact hj')]; rfl, hb.frz j⟩
  · rw [setCells_stL]
    exact (stL_frm (F := fun _ => False) (.inr (Nat.le_refl _)) _ _ (Frm.of_below b1)).nothing
  · rw [setCells_stL]
    exact stL_all hb _ (by simp [hl])
theorem Bx.setc {w : World} {g' g : Nat} {cs : Array Value} {T : TypeId} (h : Bx w g' cs T) (hne : ¬ g' = g) (o : Nat) (u : Value) : Bx (w.setCell ⟨g, o, none⟩ u) g' cs T := h.frm (Frm.set1 (F := fun k => k = g) w rfl o u) hne
theorem upLc {α β : Type} {P : Program} {E : EK P α β} {g : Nat} {w : World} {y : XL α} (h : XL.Mem E (GT g) w y) (o : Nat) (u : Value) : XL.Mem E (GT g) (w.setCell ⟨g, o, none⟩ u) y := upLs h o [u]
theorem upXc {g : Nat} {w : World} {x : XE} (h : XE.Mem (GT g) w x) (o : Nat) (u : Value) : XE.Mem (GT g) (w.setCell ⟨g, o, none⟩ u) x := upXs h o [u]
def stW (w : World) (g : Nat) (op kind num scale : Int) (text qual : ByteArray) (a : Option Addr) (cap : Nat) (args : List XE) : World := ((((((w.setCell ⟨g, 9, none⟩ (.int .i64 op)).setCell ⟨g, 10, none⟩ (.slice a args.length cap)).setCell ⟨g, 11, none⟩ (.int .i64 kind)).setCell ⟨g, 12, none⟩ (.int .i64 num)).setCell ⟨g, 13, none⟩ (.int .i64 scale)).setCell ⟨g, 14, none⟩ (.string text)).setCell ⟨g, 15, none⟩ (.string qual)
theorem stW_eq (w : World) (g : Nat) (op kind num scale : Int) (text qual : ByteArray) (a : Option Addr) (cap : Nat) (args : List XE) : stW w g op kind num scale text qual a cap args = stL w g 9 (XE.enc (.mk op kind num scale text qual a cap args)) := rfl
set_option maxHeartbeats 8000000 in
theorem insert_p (n pb : Nat) : PR 53 pb RSt (insertP isN n) := by
  intro w s r h hr
  generalize hP : EndP w pb (RSt w.heap.size) r = P
  have HP := Lib.hid hP
  have hpb := h.lt
  have hne : ¬ w.heap.size = pb := by omega
  obtain ⟨w1, hw1⟩ : ∃ w1, w.alloc (.cells #[.int .i64 0, .string ⟨#[]⟩, .string ⟨#[]⟩, .slice none 0 0, .slice none 0 0, .bool false, .slice none 0 0, .slice none 0 0, .slice none 0 0, .int .i64 0, .slice none 0 0, .int .i64 0, .int .i64 0, .int .i64 0, .string ⟨#[]⟩, .string ⟨#[]⟩, .slice none 0 0, .slice none 0 0] 34) = w1 := ⟨_, rfl⟩
  have hb1 := Bx.new w #[.int .i64 0, .string ⟨#[]⟩, .string ⟨#[]⟩, .slice none 0 0, .slice none 0 0, .bool false, .slice none 0 0, .slice none 0 0, .slice none 0 0, .int .i64 0, .slice none 0 0, .int .i64 0, .int .i64 0, .int .i64 0, .string ⟨#[]⟩, .string ⟨#[]⟩, .slice none 0 0, .slice none 0 0] 34
  have S1 := Lib.hid ((Stp.refl h).alloc (.cells #[.int .i64 0, .string ⟨#[]⟩, .string ⟨#[]⟩, .slice none 0 0, .slice none 0 0, .bool false, .slice none 0 0, .slice none 0 0, .slice none 0 0, .int .i64 0, .slice none 0 0, .int .i64 0, .int .i64 0, .int .i64 0, .string ⟨#[]⟩, .string ⟨#[]⟩, .slice none 0 0, .slice none 0 0] 34))
  have hz1 : w1.heap.size = w.heap.size + 1 := by rw [← hw1]; simp
  rw [hw1] at hb1 S1
  have HB1 := Lib.hid hb1
  have HZ1 := Lib.hid hz1
  have HR := Lib.hid hr
  unfold insertP at HR
  clear hP h hr hb1 hz1
  go_enter Tryz.func53, Tryz.ntmps53
  go_wp2_with (first | (go_at_call 56; rcases need_bind HR.out with ⟨ha, rfl⟩ | ⟨ha, hrr⟩; refine (need_g S1.out.ps zqinto (by decide) (by first | rfl | simp | assumption)).mono ?_; rintro e w2 hn; obtain ⟨rfl, ff⟩ := hn.2 ha; exact ⟨rfl, by rw [← HP.out]; exact ⟨S1.out.fr.trans ff (New.refl _ _), rfl⟩⟩; refine (need_g S1.out.ps zqinto (by decide) (by first | rfl | simp | assumption)).mono ?_; rintro e w2 hn; obtain ⟨rfl, ss⟩ := hn.1 ha; have S2 := Lib.hid (S1.out.trans ss); have HR2 := Lib.hid hrr; have HB2 := Lib.hid (HB1.out.frm ss.fr hne); clear ss hn hrr ha HR) | (go_at_call 57; rcases bind_call HR2.out with ⟨c, hx, rfl⟩ | ⟨aa, sa, hx, hrr⟩; refine (name_p S2.out.ps hx).mono ?_; rintro e w3 ⟨ff, rfl⟩; exact ⟨rfl, by rw [← HP.out]; exact ⟨S2.out.fr.trans ff (New.refl _ _), rfl⟩⟩; refine (name_p S2.out.ps hx).mono ?_; rintro e w3 ⟨ff, v, rfl, hv, pp⟩; obtain ⟨tb, htb⟩ : ∃ t, t = aa := ⟨_, rfl⟩; subst htb; have hv2 : v = .string (strB tb) := hv; subst hv2; have S3 := Lib.hid (S2.out.trans ⟨ff, pp⟩); have HR3 := Lib.hid hrr; have HB3 := Lib.hid (HB2.out.frm ff hne); obtain ⟨wl, hsl, hbl, hll⟩ := al_T w3 (vs := [.int .i64 5, .string (strB tb), .string ⟨#[]⟩, .slice none 0 0, .slice none 0 0, .bool false, .slice none 0 0, .slice none 0 0, .slice none 0 0, .int .i64 0, .slice none 0 0, .int .i64 0, .int .i64 0, .int .i64 0, .string ⟨#[]⟩, .string ⟨#[]⟩, .slice none 0 0, .slice none 0 0]) ({ kind := 5, table := tb } : XSt) rfl; have S4 := Lib.hid (S3.out.below hbl); have HB4 := Lib.hid (HB3.out.below hbl); have LB4 : Hid (Bx wl w3.heap.size #[.int .i64 5, .string (strB tb), .string ⟨#[]⟩, .slice none 0 0, .slice none 0 0, .bool false, .slice none 0 0, .slice none 0 0, .slice none 0 0, .int .i64 0, .slice none 0 0, .int .i64 0, .int .i64 0, .int .i64 0, .string ⟨#[]⟩, .string ⟨#[]⟩, .slice none 0 0, .slice none 0 0] 34) := Lib.hid hll; have HSL := Lib.hid hsl; have g1 : w.heap.size < w3.heap.size := HB3.out.lt; have g2 : ¬ w.heap.size = w3.heap.size := (by omega); have g3 : ¬ w3.heap.size = pb := (by omega); have g4 : pb < w3.heap.size := (by omega); have g5 : w.heap.size ≤ w3.heap.size := (by omega); clear hsl hbl hll; clear hv; clear pp hrr hx HR2) | (go_at_call 56; rcases need_bind HR3.out with ⟨ha, rfl⟩ | ⟨ha, hrr⟩; refine (need_g S4.out.ps zqvalues (by decide) (by first | rfl | simp | simp [World.setCell] | assumption)).mono ?_; rintro e w5 hn; obtain ⟨rfl, ff⟩ := hn.2 ha; exact ⟨rfl, by rw [← HP.out]; exact ⟨S4.out.fr.trans ff (New.refl _ _), rfl⟩⟩; refine (need_g S4.out.ps zqvalues (by decide) (by first | rfl | simp | simp [World.setCell] | assumption)).mono ?_; rintro e w5 hn; obtain ⟨rfl, ss⟩ := hn.1 ha; have S5 := Lib.hid (S4.out.trans ss); have HR5 := Lib.hid hrr; have HB5 := Lib.hid (HB4.out.frm ss.fr hne); have LB5 := Lib.hid (LB4.out.frm ss.fr g3); clear ss hn hrr ha HR3) | (go_at_call 123; rcases bind_call HR5.out with ⟨c, hx, rfl⟩ | ⟨aa, sa, hx, hrr⟩; refine (list_ro (row_p n pb) (enters_of Tryz.func124 (by kernel_rfl) rfl) (fun s a s' q => ((Rdr.whole isN).encl 50).us n s a s' q) S5.out.ps n 50 (by decide) (by decide) hx).mono ?_; rintro e w6 ⟨ff, rfl⟩; exact ⟨rfl, by rw [← HP.out]; exact ⟨S5.out.fr.trans ff (New.refl _ _), rfl⟩⟩; refine (list_ro (row_p n pb) (enters_of Tryz.func124 (by kernel_rfl) rfl) (fun s a s' q => ((Rdr.whole isN).encl 50).us n s a s' q) S5.out.ps n 50 (by decide) (by decide) hx).mono ?_; rintro e w6 ⟨ff, v, rfl, hv, pp⟩; obtain ⟨yv, rfl, hye, my⟩ := hv; have S6 := Lib.hid (S5.out.trans ⟨ff, pp⟩); have HR6 := Lib.hid hrr; have HB6 := Lib.hid (HB5.out.frm ff hne); have LB6 := Lib.hid (LB5.out.frm ff g3); have Y6 := Lib.hid (gtL (show w3.heap.size < _ from LB5.out.lt) my); have EY := Lib.hid hye; clear hye my; obtain ⟨Ya, Yc, Yx⟩ := yv; simp only [XL.val]; have q6 := LB6.out.cell (o := 6) (v := .slice none 0 0) rfl; have y6 := LB6.out.frz 6; have S7 := Lib.hid (S6.out.set g5 g4 6 (.slice Ya Yx.length Yc)); have HB7 := Lib.hid (HB6.out.setc g2 6 (.slice Ya Yx.length Yc)); have LB7 : Hid (Bx _ w3.heap.size #[.int .i64 5, .string (strB tb), .string ⟨#[]⟩, .slice none 0 0, .slice none 0 0, .bool false, .slice Ya Yx.length Yc, .slice none 0 0, .slice none 0 0, .int .i64 0, .slice none 0 0, .int .i64 0, .int .i64 0, .int .i64 0, .string ⟨#[]⟩, .string ⟨#[]⟩, .slice none 0 0, .slice none 0 0] 34) := Lib.hid (box_set LB6.out 6 (.slice Ya Yx.length Yc)); have Y7 := Lib.hid (upLc Y6.out 6 (.slice Ya Yx.length Yc)); have HLD := Lib.hid (ld_T LB7.out); have hq : XSt.er { kind := 5, table := tb, rows := XL.mk Ya Yc Yx } = { kind := 5, table := tb, rows := aa } := (by unfold XSt.er; simp only [er0, List.map_nil, EY.out]); obtain ⟨wz, hst, hbz, hez⟩ := fin_T S7.out hpb HB7.out rfl { kind := 5, table := tb, rows := XL.mk Ya Yc Yx } (memz _ _ nl nl (dnL g5 Y7.out) nl nl nx nl nl) (show XSt.enc { kind := 5, table := tb, rows := XL.mk Ya Yc Yx } = [.int .i64 5, .string (strB tb), .string ⟨#[]⟩, .slice none 0 0, .slice none 0 0, .bool false, .slice Ya Yx.length Yc, .slice none 0 0, .slice none 0 0, .int .i64 0, .slice none 0 0, .int .i64 0, .int .i64 0, .int .i64 0, .string ⟨#[]⟩, .string ⟨#[]⟩, .slice none 0 0, .slice none 0 0] from rfl) hq; have HFI := Lib.hid (And.intro hbz hez); have HST := Lib.hid hst; clear hq hst hbz hez; clear pp hrr hx HR5) | (refine wpSt rfl _ _ rfl rfl rfl HSL.out ?_; clear HSL) | (refine wpLd rfl _ rfl rfl HLD.out ?_; clear HLD) | (refine wpSt rfl _ _ rfl rfl rfl HST.out ?_; clear HST))
  have hrc := ret_ok HR6.out
  exact retStmt Tryz.results53 HFI.out.1 rfl rfl (by rw [← HP.out, hrc]; exact HFI.out.2)
set_option maxHeartbeats 8000000 in
theorem update_p (n pb : Nat) : PR 55 pb RSt (updateP isN n) := by
  intro w s r h hr
  generalize hP : EndP w pb (RSt w.heap.size) r = P
  have HP := Lib.hid hP
  have hpb := h.lt
  have hne : ¬ w.heap.size = pb := by omega
  obtain ⟨w1, hw1⟩ : ∃ w1, w.alloc (.cells #[.int .i64 0, .string ⟨#[]⟩, .string ⟨#[]⟩, .slice none 0 0, .slice none 0 0, .bool false, .slice none 0 0, .slice none 0 0, .slice none 0 0, .int .i64 0, .slice none 0 0, .int .i64 0, .int .i64 0, .int .i64 0, .string ⟨#[]⟩, .string ⟨#[]⟩, .slice none 0 0, .slice none 0 0] 34) = w1 := ⟨_, rfl⟩
  have hb1 := Bx.new w #[.int .i64 0, .string ⟨#[]⟩, .string ⟨#[]⟩, .slice none 0 0, .slice none 0 0, .bool false, .slice none 0 0, .slice none 0 0, .slice none 0 0, .int .i64 0, .slice none 0 0, .int .i64 0, .int .i64 0, .int .i64 0, .string ⟨#[]⟩, .string ⟨#[]⟩, .slice none 0 0, .slice none 0 0] 34
  have S1 := Lib.hid ((Stp.refl h).alloc (.cells #[.int .i64 0, .string ⟨#[]⟩, .string ⟨#[]⟩, .slice none 0 0, .slice none 0 0, .bool false, .slice none 0 0, .slice none 0 0, .slice none 0 0, .int .i64 0, .slice none 0 0, .int .i64 0, .int .i64 0, .int .i64 0, .string ⟨#[]⟩, .string ⟨#[]⟩, .slice none 0 0, .slice none 0 0] 34))
  have hz1 : w1.heap.size = w.heap.size + 1 := by rw [← hw1]; simp
  rw [hw1] at hb1 S1
  have HB1 := Lib.hid hb1
  have HZ1 := Lib.hid hz1
  have HR := Lib.hid hr
  unfold updateP at HR
  clear hP h hr hb1 hz1
  go_enter Tryz.func55, Tryz.ntmps55
  go_wp2_with (first | (go_at_call 57; rcases bind_call HR.out with ⟨c, hx, rfl⟩ | ⟨aa, sa, hx, hrr⟩; refine (name_p S1.out.ps hx).mono ?_; rintro e w2 ⟨ff, rfl⟩; exact ⟨rfl, by rw [← HP.out]; exact ⟨S1.out.fr.trans ff (New.refl _ _), rfl⟩⟩; refine (name_p S1.out.ps hx).mono ?_; rintro e w2 ⟨ff, v, rfl, hv, pp⟩; obtain ⟨tb, htb⟩ : ∃ t, t = aa := ⟨_, rfl⟩; subst htb; have hv2 : v = .string (strB tb) := hv; subst hv2; have S2 := Lib.hid (S1.out.trans ⟨ff, pp⟩); have HR2 := Lib.hid hrr; have HB2 := Lib.hid (HB1.out.frm ff hne); obtain ⟨wl, hsl, hbl, hll⟩ := al_T w2 (vs := [.int .i64 7, .string (strB tb), .string ⟨#[]⟩, .slice none 0 0, .slice none 0 0, .bool false, .slice none 0 0, .slice none 0 0, .slice none 0 0, .int .i64 0, .slice none 0 0, .int .i64 0, .int .i64 0, .int .i64 0, .string ⟨#[]⟩, .string ⟨#[]⟩, .slice none 0 0, .slice none 0 0]) ({ kind := 7, table := tb } : XSt) rfl; have S3 := Lib.hid (S2.out.below hbl); have HB3 := Lib.hid (HB2.out.below hbl); have LB3 : Hid (Bx wl w2.heap.size #[.int .i64 7, .string (strB tb), .string ⟨#[]⟩, .slice none 0 0, .slice none 0 0, .bool false, .slice none 0 0, .slice none 0 0, .slice none 0 0, .int .i64 0, .slice none 0 0, .int .i64 0, .int .i64 0, .int .i64 0, .string ⟨#[]⟩, .string ⟨#[]⟩, .slice none 0 0, .slice none 0 0] 34) := Lib.hid hll; have HSL := Lib.hid hsl; have g1 : w.heap.size < w2.heap.size := HB2.out.lt; have g2 : ¬ w.heap.size = w2.heap.size := (by omega); have g3 : ¬ w2.heap.size = pb := (by omega); have g4 : pb < w2.heap.size := (by omega); have g5 : w.heap.size ≤ w2.heap.size := (by omega); clear hsl hbl hll; clear hv; clear pp hrr hx HR) | (go_at_call 56; rcases need_bind HR2.out with ⟨ha, rfl⟩ | ⟨ha, hrr⟩; refine (need_g S3.out.ps zqset (by decide) (by first | rfl | simp | simp [World.setCell] | assumption)).mono ?_; rintro e w4 hn; obtain ⟨rfl, ff⟩ := hn.2 ha; exact ⟨rfl, by rw [← HP.out]; exact ⟨S3.out.fr.trans ff (New.refl _ _), rfl⟩⟩; refine (need_g S3.out.ps zqset (by decide) (by first | rfl | simp | simp [World.setCell] | assumption)).mono ?_; rintro e w4 hn; obtain ⟨rfl, ss⟩ := hn.1 ha; have S4 := Lib.hid (S3.out.trans ss); have HR4 := Lib.hid hrr; have HB4 := Lib.hid (HB3.out.frm ss.fr hne); have LB4 := Lib.hid (LB3.out.frm ss.fr g3); clear ss hn hrr ha HR2) | (go_at_call 130; rcases bind_call HR4.out with ⟨c, hx, rfl⟩ | ⟨aa, sa, hx, hrr⟩; refine (list_se (set_p n pb) (enters_of Tryz.func131 (by kernel_rfl) rfl) (fun s a s' q => (Rdr.set isN).us n s a s' q) S4.out.ps n 50 (by decide) (by decide) hx).mono ?_; rintro e w5 ⟨ff, rfl⟩; exact ⟨rfl, by rw [← HP.out]; exact ⟨S4.out.fr.trans ff (New.refl _ _), rfl⟩⟩; refine (list_se (set_p n pb) (enters_of Tryz.func131 (by kernel_rfl) rfl) (fun s a s' q => (Rdr.set isN).us n s a s' q) S4.out.ps n 50 (by decide) (by decide) hx).mono ?_; rintro e w5 ⟨ff, v, rfl, hv, pp⟩; obtain ⟨yv, rfl, hye, my⟩ := hv; have S5 := Lib.hid (S4.out.trans ⟨ff, pp⟩); have HR5 := Lib.hid hrr; have HB5 := Lib.hid (HB4.out.frm ff hne); have LB5 := Lib.hid (LB4.out.frm ff g3); have Y5 := Lib.hid (gtL (show w2.heap.size < _ from LB4.out.lt) my); have EY := Lib.hid hye; clear hye my; obtain ⟨Ya, Yc, Yx⟩ := yv; simp only [XL.val]; obtain ⟨ya, hya⟩ : ∃ t, t = aa := ⟨_, rfl⟩; subst hya; have q17 := LB5.out.cell (o := 17) (v := .slice none 0 0) rfl; have y17 := LB5.out.frz 17; have S6 := Lib.hid (S5.out.set g5 g4 17 (.slice Ya Yx.length Yc)); have HB6 := Lib.hid (HB5.out.setc g2 17 (.slice Ya Yx.length Yc)); have LB6 : Hid (Bx _ w2.heap.size #[.int .i64 7, .string (strB tb), .string ⟨#[]⟩, .slice none 0 0, .slice none 0 0, .bool false, .slice none 0 0, .slice none 0 0, .slice none 0 0, .int .i64 0, .slice none 0 0, .int .i64 0, .int .i64 0, .int .i64 0, .string ⟨#[]⟩, .string ⟨#[]⟩, .slice none 0 0, .slice Ya Yx.length Yc] 34) := Lib.hid (box_set LB5.out 17 (.slice Ya Yx.length Yc)); have Y6 := Lib.hid (upLc Y5.out 17 (.slice Ya Yx.length Yc)); clear pp hrr hx HR4) | (go_at_call 58; rcases bind_call HR5.out with ⟨c, hx, rfl⟩ | ⟨aa, sa, hx, hrr⟩; refine (where_p n pb _ _ _ S6.out.ps hx).mono ?_; rintro e w7 ⟨ff, rfl⟩; exact ⟨rfl, by rw [← HP.out]; exact ⟨S6.out.fr.trans ff (New.refl _ _), rfl⟩⟩; refine (where_p n pb _ _ _ S6.out.ps hx).mono ?_; rintro e w7 ⟨ff, v, rfl, hv, pp⟩; obtain ⟨x, rfl, hxe, mx⟩ := hv; have S7 := Lib.hid (S6.out.trans ⟨ff, pp⟩); have HR7 := Lib.hid hrr; have HB7 := Lib.hid (HB6.out.frm ff hne); have LB7 := Lib.hid (LB6.out.frm ff g3); have Y7 := Lib.hid (upL ff g4 Y6.out); have X7 := Lib.hid (gtX (show w2.heap.size < _ from LB6.out.lt) mx); have EX := Lib.hid hxe; clear hxe mx; obtain ⟨op, kind, num, scale, text, qual, a, cap, args⟩ := x; unfold XE.val; have q9 := LB7.out.cell (o := 9) (v := .int .i64 0) rfl; have y9 := LB7.out.frz 9; have q10 := LB7.out.cell (o := 10) (v := .slice none 0 0) rfl; have y10 := LB7.out.frz 10; have q11 := LB7.out.cell (o := 11) (v := .int .i64 0) rfl; have y11 := LB7.out.frz 11; have q12 := LB7.out.cell (o := 12) (v := .int .i64 0) rfl; have y12 := LB7.out.frz 12; have q13 := LB7.out.cell (o := 13) (v := .int .i64 0) rfl; have y13 := LB7.out.frz 13; have q14 := LB7.out.cell (o := 14) (v := .string ⟨#[]⟩) rfl; have y14 := LB7.out.frz 14; have q15 := LB7.out.cell (o := 15) (v := .string ⟨#[]⟩) rfl; have y15 := LB7.out.frz 15; obtain ⟨wq, hwq⟩ : ∃ wq, stW w7 w2.heap.size op kind num scale text qual a cap args = wq := ⟨_, rfl⟩; have hsq := S7.out.stL g5 g4 (XE.enc (XE.mk op kind num scale text qual a cap args)) 9; have hbq := HB7.out.frm (stL_one w7 w2.heap.size 9 (XE.enc (XE.mk op kind num scale text qual a cap args))) g2; have hlq := bx_where LB7.out op kind num scale text qual a cap args; rw [← stW_eq, hwq] at hsq hbq hlq; have S8 := Lib.hid hsq; have HB8 := Lib.hid hbq; have LB8 : Hid (Bx wq w2.heap.size #[.int .i64 7, .string (strB tb), .string ⟨#[]⟩, .slice none 0 0, .slice none 0 0, .bool false, .slice none 0 0, .slice none 0 0, .slice none 0 0, .int .i64 op, .slice a args.length cap, .int .i64 kind, .int .i64 num, .int .i64 scale, .string text, .string qual, .slice none 0 0, .slice Ya Yx.length Yc] 34) := Lib.hid hlq; clear hsq hbq hlq; have Y8 := upLs Y7.out 9 (XE.enc (XE.mk op kind num scale text qual a cap args)); rw [← stW_eq, hwq] at Y8; have Y8 := Lib.hid Y8; have X8 := upXs X7.out 9 (XE.enc (XE.mk op kind num scale text qual a cap args)); rw [← stW_eq, hwq] at X8; have X8 := Lib.hid X8; unfold stW at hwq; have HLD := Lib.hid (ld_T LB8.out); have hq : XSt.er { kind := 7, table := tb, sets := XL.mk Ya Yc Yx, whr := XE.mk op kind num scale text qual a cap args } = { kind := 7, table := tb, sets := ya, whr := aa } := (by unfold XSt.er; simp only [List.map_nil, EY.out, EX.out]); obtain ⟨wz, hst, hbz, hez⟩ := fin_T S8.out hpb HB8.out rfl { kind := 7, table := tb, sets := XL.mk Ya Yc Yx, whr := XE.mk op kind num scale text qual a cap args } (memz _ _ nl nl nl nl nl (dnX g5 X8.out) nl (dnL g5 Y8.out)) (show XSt.enc { kind := 7, table := tb, sets := XL.mk Ya Yc Yx, whr := XE.mk op kind num scale text qual a cap args } = [.int .i64 7, .string (strB tb), .string ⟨#[]⟩, .slice none 0 0, .slice none 0 0, .bool false, .slice none 0 0, .slice none 0 0, .slice none 0 0, .int .i64 op, .slice a args.length cap, .int .i64 kind, .int .i64 num, .int .i64 scale, .string text, .string qual, .slice none 0 0, .slice Ya Yx.length Yc] from rfl) hq; have HFI := Lib.hid (And.intro hbz hez); have HST := Lib.hid hst; clear hq hst hbz hez; clear pp hrr hx HR5) | (refine wpSt rfl _ _ rfl rfl rfl HSL.out ?_; clear HSL) | (refine wpLd rfl _ rfl rfl HLD.out ?_; clear HLD) | (refine wpSt rfl _ _ rfl rfl rfl HST.out ?_; clear HST))
  have hrc := ret_ok HR7.out
  exact retStmt Tryz.results55 HFI.out.1 rfl rfl (by rw [← HP.out, hrc]; exact HFI.out.2)

end Go.Proofs.YtkffomfbnbcgaaaGreatDoor

namespace Go.Proofs.YtkffomfbnbcgaaaGreatDoor
set_option maxRecDepth 100000
open Go.RowKit Go.Joins Go.ChangeShapes Go.WideShapes
set_option linter.unusedVariables false
set_option linter.unusedSimpArgs false
theorem name_pe (pb : Nat) : PR 57 pb (RE stk) (nameP isN) := fun w s r h hr => (name_p h hr).mono fun e w' h1 => by
  obtain ⟨f, h2⟩ := h1
  refine ⟨f, ?_⟩
  match r, h2 with
  | .error c, h2 => exact h2
  | .ok (a, s'), ⟨v, e1, e2, e3⟩ => exact ⟨v, e1, ⟨a, e2, rfl, trivial⟩, e3⟩
theorem got1 (wd : List Nat) (s : PS) : (gotP wd s).1 = atP wd s := by unfold gotP; cases atP wd s <;> rfl
set_option maxHeartbeats 8000000 in
theorem create_p (n pb : Nat) : PR 51 pb RSt (createP isN n) := by
  intro w s r h hr
  generalize hP : EndP w pb (RSt w.heap.size) r = P
  have HP := Lib.hid hP
  have hpb := h.lt
  have hne : ¬ w.heap.size = pb := by omega
  obtain ⟨w1, hw1⟩ : ∃ w1, w.alloc (.cells #[.int .i64 0, .string ⟨#[]⟩, .string ⟨#[]⟩, .slice none 0 0, .slice none 0 0, .bool false, .slice none 0 0, .slice none 0 0, .slice none 0 0, .int .i64 0, .slice none 0 0, .int .i64 0, .int .i64 0, .int .i64 0, .string ⟨#[]⟩, .string ⟨#[]⟩, .slice none 0 0, .slice none 0 0] 34) = w1 := ⟨_, rfl⟩
  have hb1 := Bx.new w #[.int .i64 0, .string ⟨#[]⟩, .string ⟨#[]⟩, .slice none 0 0, .slice none 0 0, .bool false, .slice none 0 0, .slice none 0 0, .slice none 0 0, .int .i64 0, .slice none 0 0, .int .i64 0, .int .i64 0, .int .i64 0, .string ⟨#[]⟩, .string ⟨#[]⟩, .slice none 0 0, .slice none 0 0] 34
  have S1 := Lib.hid ((Stp.refl h).alloc (.cells #[.int .i64 0, .string ⟨#[]⟩, .string ⟨#[]⟩, .slice none 0 0, .slice none 0 0, .bool false, .slice none 0 0, .slice none 0 0, .slice none 0 0, .int .i64 0, .slice none 0 0, .int .i64 0, .int .i64 0, .int .i64 0, .string ⟨#[]⟩, .string ⟨#[]⟩, .slice none 0 0, .slice none 0 0] 34))
  have hz1 : w1.heap.size = w.heap.size + 1 := by rw [← hw1]; simp
  rw [hw1] at hb1 S1
  have HB1 := Lib.hid hb1
  have HZ1 := Lib.hid hz1
  have HR := Lib.hid hr
  skip
  clear hP h hr hb1 hz1
  have hR := HR.out
  unfold createP at hR
  clear HR
  cases hc : atP wTable s with
  | true =>
    rw [if_pos hc] at hR
    have HR := Lib.hid hR
    clear hR
    go_enter Tryz.func51, Tryz.ntmps51
    go_wp2_with (first | (go_at_call 50; refine (found_yes S1.out.ps zqtable (by decide) hc).mono ?_; rintro e w2 ⟨rfl, ss⟩; have S2 := Lib.hid (S1.out.trans ss); have HB2 := Lib.hid (HB1.out.frm ss.fr hne); clear ss hc) | (go_at_call 57; rcases bind_call HR.out with ⟨c, hx, rfl⟩ | ⟨aa, sa, hx, hrr⟩; refine (name_p S2.out.ps hx).mono ?_; rintro e w3 ⟨ff, rfl⟩; exact ⟨rfl, by rw [← HP.out]; exact ⟨S2.out.fr.trans ff (New.refl _ _), rfl⟩⟩; refine (name_p S2.out.ps hx).mono ?_; rintro e w3 ⟨ff, v, rfl, hv, pp⟩; obtain ⟨tb, htb⟩ : ∃ t, t = aa := ⟨_, rfl⟩; subst htb; have hv2 : v = .string (strB tb) := hv; subst hv2; have S3 := Lib.hid (S2.out.trans ⟨ff, pp⟩); have HR3 := Lib.hid hrr; have HB3 := Lib.hid (HB2.out.frm ff hne); clear hv; clear pp hrr hx HR) | (go_at_call 120; rcases bind_call HR3.out with ⟨c, hx, rfl⟩ | ⟨aa, sa, hx, hrr⟩; refine (encl_co (column_p pb) (enters_of Tryz.func121 (by kernel_rfl) rfl) (fun s a s' q => (Rdr.col isN).us 0 s a s' q) S3.out.ps n 16 (by decide) (by decide) hx).mono ?_; rintro e w4 ⟨ff, rfl⟩; exact ⟨rfl, by rw [← HP.out]; exact ⟨S3.out.fr.trans ff (New.refl _ _), rfl⟩⟩; refine (encl_co (column_p pb) (enters_of Tryz.func121 (by kernel_rfl) rfl) (fun s a s' q => (Rdr.col isN).us 0 s a s' q) S3.out.ps n 16 (by decide) (by decide) hx).mono ?_; rintro e w4 ⟨ff, v, rfl, hv, pp⟩; obtain ⟨yv, rfl, hye, my⟩ := hv; have S4 := Lib.hid (S3.out.trans ⟨ff, pp⟩); have HR4 := Lib.hid hrr; have HB4 := Lib.hid (HB3.out.frm ff hne); obtain ⟨Ya, Yc, Yx⟩ := yv; simp only [XL.val]; have hq : XSt.er { kind := 1, table := tb, cols := XL.mk Ya Yc Yx } = { kind := 1, table := tb, cols := aa } := (by unfold XSt.er; simp only [er0, List.map_nil, hye]); obtain ⟨wz, hst, hbz, hez⟩ := fin_T S4.out hpb HB4.out rfl { kind := 1, table := tb, cols := XL.mk Ya Yc Yx } (memz _ _ (gtL (show w.heap.size < _ from HB3.out.lt) my) nl nl nl nl nx nl nl) (show XSt.enc { kind := 1, table := tb, cols := XL.mk Ya Yc Yx } = [.int .i64 1, .string (strB tb), .string ⟨#[]⟩, .slice Ya Yx.length Yc, .slice none 0 0, .bool false, .slice none 0 0, .slice none 0 0, .slice none 0 0, .int .i64 0, .slice none 0 0, .int .i64 0, .int .i64 0, .int .i64 0, .string ⟨#[]⟩, .string ⟨#[]⟩, .slice none 0 0, .slice none 0 0] from rfl) hq; have HFI := Lib.hid (And.intro hbz hez); have HST := Lib.hid hst; clear hq hst hbz hez; clear hye my; clear pp hrr hx HR3) | (refine wpSt rfl _ _ rfl rfl rfl HST.out ?_; clear HST))
    have hrc := ret_ok HR4.out
    exact retStmt Tryz.results51 HFI.out.1 rfl rfl (by rw [← HP.out, hrc]; exact HFI.out.2)
  | false =>
    rw [if_neg (by rw [hc]; decide)] at hR
    have HR := Lib.hid hR
    clear hR
    go_enter Tryz.func51, Tryz.ntmps51
    go_wp2_with (first | (go_at_call 50; refine (found_no S1.out.ps zqtable (by decide) hc).mono ?_; rintro e w2 ⟨rfl, ss⟩; have S2 := Lib.hid (S1.out.trans ss); have HB2 := Lib.hid (HB1.out.frm ss.fr hne); clear ss hc) | (go_at_call 50; refine (found_q S2.out.ps zqunique (by decide)).mono ?_; rintro e w3 ⟨rfl, ss⟩; have S3 := Lib.hid (S2.out.trans ss); have HB3 := Lib.hid (HB2.out.frm ss.fr hne); clear ss; obtain ⟨wl, hsl, hbl, hll⟩ := al_T w3 (vs := [.int .i64 3, .string ⟨#[]⟩, .string ⟨#[]⟩, .slice none 0 0, .slice none 0 0, .bool (atP wUnique s), .slice none 0 0, .slice none 0 0, .slice none 0 0, .int .i64 0, .slice none 0 0, .int .i64 0, .int .i64 0, .int .i64 0, .string ⟨#[]⟩, .string ⟨#[]⟩, .slice none 0 0, .slice none 0 0]) ({ kind := 3, uniq := atP wUnique s } : XSt) rfl; have S4 := Lib.hid (S3.out.below hbl); have HB4 := Lib.hid (HB3.out.below hbl); have LB4 : Hid (Bx wl w3.heap.size #[.int .i64 3, .string ⟨#[]⟩, .string ⟨#[]⟩, .slice none 0 0, .slice none 0 0, .bool (atP wUnique s), .slice none 0 0, .slice none 0 0, .slice none 0 0, .int .i64 0, .slice none 0 0, .int .i64 0, .int .i64 0, .int .i64 0, .string ⟨#[]⟩, .string ⟨#[]⟩, .slice none 0 0, .slice none 0 0] 34) := Lib.hid hll; have HSL := Lib.hid hsl; have g1 : w.heap.size < w3.heap.size := HB3.out.lt; have g2 : ¬ w.heap.size = w3.heap.size := (by omega); have g3 : ¬ w3.heap.size = pb := (by omega); have g4 : pb < w3.heap.size := (by omega); have g5 : w.heap.size ≤ w3.heap.size := (by omega); clear hsl hbl hll) | (go_at_call 56; rcases need_bind HR.out with ⟨ha, rfl⟩ | ⟨ha, hrr⟩; refine (need_g S4.out.ps zqindex (by decide) (by first | rfl | simp | simp [World.setCell] | assumption)).mono ?_; rintro e w5 hn; obtain ⟨rfl, ff⟩ := hn.2 ha; exact ⟨rfl, by rw [← HP.out]; exact ⟨S4.out.fr.trans ff (New.refl _ _), rfl⟩⟩; refine (need_g S4.out.ps zqindex (by decide) (by first | rfl | simp | simp [World.setCell] | assumption)).mono ?_; rintro e w5 hn; obtain ⟨rfl, ss⟩ := hn.1 ha; have S5 := Lib.hid (S4.out.trans ss); have HR5 := Lib.hid hrr; have HB5 := Lib.hid (HB4.out.frm ss.fr hne); have LB5 := Lib.hid (LB4.out.frm ss.fr g3); clear ss hn hrr ha HR) | (go_at_call 57; rcases bind_call HR5.out with ⟨c, hx, rfl⟩ | ⟨aa, sa, hx, hrr⟩; refine (name_p S5.out.ps hx).mono ?_; rintro e w6 ⟨ff, rfl⟩; exact ⟨rfl, by rw [← HP.out]; exact ⟨S5.out.fr.trans ff (New.refl _ _), rfl⟩⟩; refine (name_p S5.out.ps hx).mono ?_; rintro e w6 ⟨ff, v, rfl, hv, pp⟩; obtain ⟨ib, hib⟩ : ∃ t, t = aa := ⟨_, rfl⟩; subst hib; have hv2 : v = .string (strB ib) := hv; subst hv2; have S6 := Lib.hid (S5.out.trans ⟨ff, pp⟩); have HR6 := Lib.hid hrr; have HB6 := Lib.hid (HB5.out.frm ff hne); have LB6 := Lib.hid (LB5.out.frm ff g3); have q2 := LB6.out.cell (o := 2) (v := .string ⟨#[]⟩) rfl; have y2 := LB6.out.frz 2; have S7 := Lib.hid (S6.out.set g5 g4 2 (.string (strB ib))); have HB7 := Lib.hid (HB6.out.setc g2 2 (.string (strB ib))); have LB7 : Hid (Bx _ w3.heap.size #[.int .i64 3, .string ⟨#[]⟩, .string (strB ib), .slice none 0 0, .slice none 0 0, .bool (atP wUnique s), .slice none 0 0, .slice none 0 0, .slice none 0 0, .int .i64 0, .slice none 0 0, .int .i64 0, .int .i64 0, .int .i64 0, .string ⟨#[]⟩, .string ⟨#[]⟩, .slice none 0 0, .slice none 0 0] 34) := Lib.hid (box_set LB6.out 2 (.string (strB ib))); clear hv; clear pp hrr hx HR5) | (go_at_call 56; rcases need_bind HR6.out with ⟨ha, rfl⟩ | ⟨ha, hrr⟩; refine (need_g S7.out.ps zqon (by decide) (by first | rfl | simp | simp [World.setCell] | assumption)).mono ?_; rintro e w8 hn; obtain ⟨rfl, ff⟩ := hn.2 ha; exact ⟨rfl, by rw [← HP.out]; exact ⟨S7.out.fr.trans ff (New.refl _ _), rfl⟩⟩; refine (need_g S7.out.ps zqon (by decide) (by first | rfl | simp | simp [World.setCell] | assumption)).mono ?_; rintro e w8 hn; obtain ⟨rfl, ss⟩ := hn.1 ha; have S8 := Lib.hid (S7.out.trans ss); have HR8 := Lib.hid hrr; have HB8 := Lib.hid (HB7.out.frm ss.fr hne); have LB8 := Lib.hid (LB7.out.frm ss.fr g3); clear ss hn hrr ha HR6) | (go_at_call 57; rcases bind_call HR8.out with ⟨c, hx, rfl⟩ | ⟨aa, sa, hx, hrr⟩; refine (name_p S8.out.ps hx).mono ?_; rintro e w9 ⟨ff, rfl⟩; exact ⟨rfl, by rw [← HP.out]; exact ⟨S8.out.fr.trans ff (New.refl _ _), rfl⟩⟩; refine (name_p S8.out.ps hx).mono ?_; rintro e w9 ⟨ff, v, rfl, hv, pp⟩; obtain ⟨tb, htb⟩ : ∃ t, t = aa := ⟨_, rfl⟩; subst htb; have hv2 : v = .string (strB tb) := hv; subst hv2; have S9 := Lib.hid (S8.out.trans ⟨ff, pp⟩); have HR9 := Lib.hid hrr; have HB9 := Lib.hid (HB8.out.frm ff hne); have LB9 := Lib.hid (LB8.out.frm ff g3); have q1 := LB9.out.cell (o := 1) (v := .string ⟨#[]⟩) rfl; have y1 := LB9.out.frz 1; have S10 := Lib.hid (S9.out.set g5 g4 1 (.string (strB tb))); have HB10 := Lib.hid (HB9.out.setc g2 1 (.string (strB tb))); have LB10 : Hid (Bx _ w3.heap.size #[.int .i64 3, .string (strB tb), .string (strB ib), .slice none 0 0, .slice none 0 0, .bool (atP wUnique s), .slice none 0 0, .slice none 0 0, .slice none 0 0, .int .i64 0, .slice none 0 0, .int .i64 0, .int .i64 0, .int .i64 0, .string ⟨#[]⟩, .string ⟨#[]⟩, .slice none 0 0, .slice none 0 0] 34) := Lib.hid (box_set LB9.out 1 (.string (strB tb))); clear hv; clear pp hrr hx HR8) | (go_at_call 122; rcases bind_call HR9.out with ⟨c, hx, rfl⟩ | ⟨aa, sa, hx, hrr⟩; refine (encl_st (name_pe pb) (enters_of Tryz.func57 (by kernel_rfl) rfl) (fun s a s' q => (Rdr.name isN).us 0 s a s' q) S10.out.ps n 4 (by decide) (by decide) hx).mono ?_; rintro e w11 ⟨ff, rfl⟩; exact ⟨rfl, by rw [← HP.out]; exact ⟨S10.out.fr.trans ff (New.refl _ _), rfl⟩⟩; refine (encl_st (name_pe pb) (enters_of Tryz.func57 (by kernel_rfl) rfl) (fun s a s' q => (Rdr.name isN).us 0 s a s' q) S10.out.ps n 4 (by decide) (by decide) hx).mono ?_; rintro e w11 ⟨ff, v, rfl, hv, pp⟩; obtain ⟨yv, rfl, hye, my⟩ := hv; have S11 := Lib.hid (S10.out.trans ⟨ff, pp⟩); have HRz := Lib.hid hrr; have HB11 := Lib.hid (HB10.out.frm ff hne); have LB11 := Lib.hid (LB10.out.frm ff g3); have Y11 := Lib.hid (gtL (show w3.heap.size < _ from LB10.out.lt) my); have EY := Lib.hid hye; clear hye my; obtain ⟨Ya, Yc, Yx⟩ := yv; simp only [XL.val]; have q4 := LB11.out.cell (o := 4) (v := .slice none 0 0) rfl; have y4 := LB11.out.frz 4; have S12 := Lib.hid (S11.out.set g5 g4 4 (.slice Ya Yx.length Yc)); have HB12 := Lib.hid (HB11.out.setc g2 4 (.slice Ya Yx.length Yc)); have LB12 : Hid (Bx _ w3.heap.size #[.int .i64 3, .string (strB tb), .string (strB ib), .slice none 0 0, .slice Ya Yx.length Yc, .bool (atP wUnique s), .slice none 0 0, .slice none 0 0, .slice none 0 0, .int .i64 0, .slice none 0 0, .int .i64 0, .int .i64 0, .int .i64 0, .string ⟨#[]⟩, .string ⟨#[]⟩, .slice none 0 0, .slice none 0 0] 34) := Lib.hid (box_set LB11.out 4 (.slice Ya Yx.length Yc)); have Y12 := Lib.hid (upLc Y11.out 4 (.slice Ya Yx.length Yc)); have HLD := Lib.hid (ld_T LB12.out); have hq : XSt.er { kind := 3, table := tb, index := ib, names := XL.mk Ya Yc Yx, uniq := atP wUnique s } = { kind := 3, table := tb, index := ib, names := aa, uniq := (gotP wUnique s).1 } := (by unfold XSt.er; simp only [er0, List.map_nil, EY.out, got1]); obtain ⟨wz, hst, hbz, hez⟩ := fin_T S12.out hpb HB12.out rfl { kind := 3, table := tb, index := ib, names := XL.mk Ya Yc Yx, uniq := atP wUnique s } (memz _ _ nl (dnL g5 Y12.out) nl nl nl nx nl nl) (show XSt.enc { kind := 3, table := tb, index := ib, names := XL.mk Ya Yc Yx, uniq := atP wUnique s } = [.int .i64 3, .string (strB tb), .string (strB ib), .slice none 0 0, .slice Ya Yx.length Yc, .bool (atP wUnique s), .slice none 0 0, .slice none 0 0, .slice none 0 0, .int .i64 0, .slice none 0 0, .int .i64 0, .int .i64 0, .int .i64 0, .string ⟨#[]⟩, .string ⟨#[]⟩, .slice none 0 0, .slice none 0 0] from rfl) hq; have HFI := Lib.hid (And.intro hbz hez); have HST := Lib.hid hst; clear hq hst hbz hez; clear pp hrr hx HR9) | (refine wpSt rfl _ _ rfl rfl rfl HSL.out ?_; clear HSL) | (refine wpLd rfl _ rfl rfl HLD.out ?_; clear HLD) | (refine wpSt rfl _ _ rfl rfl rfl HST.out ?_; clear HST))
    have hrc := ret_ok HRz.out
    exact retStmt Tryz.results51 HFI.out.1 rfl rfl (by rw [← HP.out, hrc]; exact HFI.out.2)

end Go.Proofs.YtkffomfbnbcgaaaGreatDoor
