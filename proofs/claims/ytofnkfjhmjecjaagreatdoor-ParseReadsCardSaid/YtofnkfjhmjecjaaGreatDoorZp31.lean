/-
  Texts of mine put together, in build order.
  Conditions: as each declaration says.
-/
import Derived.Deep.RegionLaw
import Derived.Deep.RegionHeld3
import Derived.Test.YtofnkfjhmjecjaaGreatDoorZp28
import Derived.Test.YtofnkfjhmjecjaaGreatDoorZp29
import Derived.Test.YtofnkfjhmjecjaaGreatDoorZp30
namespace Go.Proofs.YtofnkfjhmjecjaaGreatDoor
set_option maxRecDepth 100000
open Go.RowKit Go.Joins Go.ChangeShapes Go.WideShapes Go.Great
set_option linter.unusedVariables false
set_option linter.unusedSimpArgs false
theorem SmF.hand {w0 wr w6 wz : World} {pb g : Nat} {ts : List Tk} {d d' : DS} {x0 x : XSt} (h : SmF w0 wr pb g ts d x0) (s : Dp wr w6 pb ts d') (hm : XSt.Mem (GE wr.heap.size) w6 x) (f : Frm (fun k => k = w0.heap.size) w6 wz) {st : Stm} (hst : x.er = st) : EndV w0 pb ts (st, d') (.returned x.val) wz := by
 have h1 := h.hp
 have h3 := h.rb.lt
 have hd := h.dp.trans s
 refine ⟨x, rfl, hst, ?_, ⟨hd.fr.trans f (fun k hk => .inr (by have : k = w0.heap.size := hk; omega)), hd.ds.frm f (fun k hk e => by have : k = w0.heap.size := e; omega)⟩⟩
 exact XSt.Mem.mono (fun k hk => by have : wr.heap.size ≤ k := hk; show w0.heap.size ≤ k; omega) (hm.frm f (fun k hk e => by have e1 : wr.heap.size ≤ k := hk; have e2 : k = w0.heap.size := e; omega))
theorem bx_e1 {w : World} {g : Nat} {T : TypeId} {u0 u1 u2 u3 u4 u5 u6 u7 : Value} (hb : Bx w g #[u0, u1, u2, u3, u4, u5, u6, u7] T) (op kind num scale : Int) (text qual : ByteArray) (a : Option Addr) (cap : Nat) (args : List XE) :
  Bx (stL w g 1 (XE.enc (.mk op kind num scale text qual a cap args))) g #[u0, .int .i64 op, .slice a args.length cap, .int .i64 kind, .int .i64 num, .int .i64 scale, .string text, .string qual] T := by
 have h0 : Bx _ g #[u0, .int .i64 op, u2, u3, u4, u5, u6, u7] T := box_set hb 1 (.int .i64 op)
 have h1 : Bx _ g #[u0, .int .i64 op, .slice a args.length cap, u3, u4, u5, u6, u7] T := box_set h0 2 (.slice a args.length cap)
 have h2 : Bx _ g #[u0, .int .i64 op, .slice a args.length cap, .int .i64 kind, u4, u5, u6, u7] T := box_set h1 3 (.int .i64 kind)
 have h3 : Bx _ g #[u0, .int .i64 op, .slice a args.length cap, .int .i64 kind, .int .i64 num, u5, u6, u7] T := box_set h2 4 (.int .i64 num)
 have h4 : Bx _ g #[u0, .int .i64 op, .slice a args.length cap, .int .i64 kind, .int .i64 num, .int .i64 scale, u6, u7] T := box_set h3 5 (.int .i64 scale)
 have h5 : Bx _ g #[u0, .int .i64 op, .slice a args.length cap, .int .i64 kind, .int .i64 num, .int .i64 scale, .string text, u7] T := box_set h4 6 (.string text)
 exact box_set h5 7 (.string qual)
set_option maxHeartbeats 16000000 in
theorem stmt_d {w : World} {s : DS} {ts : List Tk} {pb n : Nat} {r : Stm × DS} (h : DsM w pb ts s) (ho : s.opn = 0) (hr : dStmt ts n s = some r) :
  Calls Tryz.prog 23 #[.pointer (some ⟨pb, 0, none⟩)] w (EndV w pb ts r) := by
 generalize hP : EndV w pb ts r = P
 have HP := Lib.hid hP
 have hsp := SmP.start h
 obtain ⟨w1, hw1⟩ : ∃ w1, w.alloc (.cells zst 34) = w1 := ⟨_, rfl⟩
 rw [hw1] at hsp
 have HS1 := Lib.hid hsp
 unfold zst at hw1
 clear hsp hP h
 unfold dStmt at hr
 have HO := Lib.hid ho
 clear ho
 go_enter Tryz.func23, Tryz.ntmps23
 go_wp2_with (first | (refine wpSv (x := { kind := 0 }) rfl _ _ rfl (Bx.new w1 zst 34) rfl rfl rfl ?_; intro w2 f2 b2; have HF2 := Lib.hid (HS1.out.made f2 b2 (memz _ _ nl nl nl nl nl nx nl nl)); clear f2 b2))
 by_cases c0 : dIs ts 1 wCreate s = true
 ·rw [if_pos c0] at hr
  try go_at_call 48
  refine (got_n HF2.out.dp.ds 1 1 rfl wCreate (by decide) (dGot_yes c0)).mono ?_
  rintro e v0 ⟨rfl, sg⟩
  have HFy := Lib.hid (HF2.out.step sg)
  clear sg c0
  have hop : s.next.opn = 0 := HO.out
  go_wp2_with (first | (go_at_call 49; refine (create_d HFy.out.dp.ds hop hr).mono ?_; rintro e wn ⟨x, rfl, hxe, hxm, hsn⟩; have HXE := Lib.hid hxe; have HXM := Lib.hid hxm; have HSN := Lib.hid hsn; have HRB := Lib.hid (HFy.out.step hsn).rb; clear hxe hxm hsn) | (refine wpSv (x := x) rfl _ _ rfl HRB.out rfl rfl rfl ?_; intro wz fz bz; have HFI := Lib.hid (And.intro bz (HFy.out.hand HSN.out HXM.out fz HXE.out)); clear fz bz))
  exact retV Tryz.results23 HFI.out.1 rfl rfl (by rw [← HP.out]; exact HFI.out.2)
 rw [if_neg c0] at hr
 try go_at_call 48
 refine (got_n HF2.out.dp.ds 1 1 rfl wCreate (by decide) (dGot_no (show dIs ts 1 wCreate s = false by simpa using c0))).mono ?_
 rintro e v0 ⟨rfl, sg⟩
 have HF10 := Lib.hid (HF2.out.step sg)
 clear sg c0 HF2
 go_wp2_with fail
 by_cases c1 : dIs ts 1 wDrop s = true
 ·rw [if_pos c1] at hr
  try go_at_call 48
  refine (got_n HF10.out.dp.ds 1 1 rfl wDrop (by decide) (dGot_yes c1)).mono ?_
  rintro e v1 ⟨rfl, sg⟩
  have HFy := Lib.hid (HF10.out.step sg)
  clear sg c1
  unfold dDrop at hr
  by_cases ct : dIs ts 1 wTable s.next = true
  ·rw [if_pos ct] at hr
   obtain ⟨tb, d1, hna⟩ : ∃ a d, dName ts s.next.next = (a, d) := ⟨_, _, rfl⟩
   have hr := (show some (({ kind := 2, table := (dName ts s.next.next).1 } : Stm), (dName ts s.next.next).2) = some r from hr)
   rw [hna] at hr
   dsimp only at hr
   have HGT := Lib.hid (dGot_yes ct)
   clear ct
   have HR := Lib.hid (show (({ kind := 2, table := tb } : Stm), d1) = r from Option.some.inj hr)
   have HST := Lib.hid (show XSt.er { kind := 2, table := tb } = { kind := 2, table := tb } by unfold XSt.er; simp only [er0, List.map_nil])
   have HNA := Lib.hid hna
   clear hr hna
   go_wp2_with (first | (go_at_call 48; refine (got_n HFy.out.dp.ds 1 1 rfl wTable (by decide) HGT.out).mono ?_; rintro e w4q ⟨rfl, s4⟩; have HFq := Lib.hid (HFy.out.step s4); clear s4 HGT) | (go_at_call 50; refine (name_n HFq.out.dp.ds HNA.out).mono ?_; rintro e w5 ⟨rfl, s5⟩; have HFX := Lib.hid (HFq.out.step s5); have HFX9 := Lib.hid s5; clear s5) | (refine wpSv (x := { kind := 2, table := tb }) rfl _ _ rfl HFX.out.rb rfl rfl rfl ?_; intro wz fz bz; have HFI := Lib.hid (And.intro bz (HFq.out.hand (Dp.mk HFX9.out.fr HFX9.out.ds) (XSt.Mem.mk (XL.Mem.nil _ _) (XL.Mem.nil _ _) (XL.Mem.nil _ _) (XL.Mem.nil _ _) (XL.Mem.nil _ _) (leaf_z0 _ _) (XL.Mem.nil _ _) (XL.Mem.nil _ _)) fz HST.out)); clear fz bz))
   exact retV Tryz.results23 HFI.out.1 rfl rfl (by rw [← HP.out, ← HR.out]; exact HFI.out.2)
  ·rw [if_neg ct] at hr
   have ct' : dIs ts 1 wTable s.next = false := by simpa using ct
   obtain ⟨d0, hm0⟩ : ∃ d, dMust ts 1 wIndex s.next = d := ⟨_, rfl⟩
   obtain ⟨tb, d1, hna⟩ : ∃ a d, dName ts d0 = (a, d) := ⟨_, _, rfl⟩
   have hr := (show some (({ kind := 4, index := (dName ts (dMust ts 1 wIndex s.next)).1 } : Stm), (dName ts (dMust ts 1 wIndex s.next)).2) = some r from hr)
   rw [hm0, hna] at hr
   dsimp only at hr
   have HGT := Lib.hid (dGot_no ct')
   have HM0 := Lib.hid hm0
   clear ct ct' hm0
   have HR := Lib.hid (show (({ kind := 4, index := tb } : Stm), d1) = r from Option.some.inj hr)
   have HST := Lib.hid (show XSt.er { kind := 4, index := tb } = { kind := 4, index := tb } by unfold XSt.er; simp only [er0, List.map_nil])
   have HNA := Lib.hid hna
   clear hr hna
   go_wp2_with (first | (go_at_call 48; refine (got_n HFy.out.dp.ds 1 1 rfl wTable (by decide) HGT.out).mono ?_; rintro e w4q ⟨rfl, s4⟩; have HFp := Lib.hid (HFy.out.step s4); clear s4 HGT) | (go_at_call 51; refine (must_n HFp.out.dp.ds 1 1 rfl wIndex (by decide) HM0.out).mono ?_; rintro e w4r ⟨rfl, s4⟩; have HFq := Lib.hid (HFp.out.step s4); clear s4 HM0) | (go_at_call 50; refine (name_n HFq.out.dp.ds HNA.out).mono ?_; rintro e w5 ⟨rfl, s5⟩; have HFX := Lib.hid (HFq.out.step s5); have HFX9 := Lib.hid s5; clear s5) | (refine wpSv (x := { kind := 4, index := tb }) rfl _ _ rfl HFX.out.rb rfl rfl rfl ?_; intro wz fz bz; have HFI := Lib.hid (And.intro bz (HFq.out.hand (Dp.mk HFX9.out.fr HFX9.out.ds) (XSt.Mem.mk (XL.Mem.nil _ _) (XL.Mem.nil _ _) (XL.Mem.nil _ _) (XL.Mem.nil _ _) (XL.Mem.nil _ _) (leaf_z0 _ _) (XL.Mem.nil _ _) (XL.Mem.nil _ _)) fz HST.out)); clear fz bz))
   exact retV Tryz.results23 HFI.out.1 rfl rfl (by rw [← HP.out, ← HR.out]; exact HFI.out.2)
 rw [if_neg c1] at hr
 try go_at_call 48
 refine (got_n HF10.out.dp.ds 1 1 rfl wDrop (by decide) (dGot_no (show dIs ts 1 wDrop s = false by simpa using c1))).mono ?_
 rintro e v1 ⟨rfl, sg⟩
 have HF11 := Lib.hid (HF10.out.step sg)
 clear sg c1 HF10
 go_wp2_with fail
 by_cases c2 : dIs ts 1 wInsert s = true
 ·rw [if_pos c2] at hr
  try go_at_call 48
  refine (got_n HF11.out.dp.ds 1 1 rfl wInsert (by decide) (dGot_yes c2)).mono ?_
  rintro e v2 ⟨rfl, sg⟩
  have HFy := Lib.hid (HF11.out.step sg)
  clear sg c2
  have hop : s.next.opn = 0 := HO.out
  go_wp2_with (first | (go_at_call 52; refine (insert_d HFy.out.dp.ds hop hr).mono ?_; rintro e wn ⟨x, rfl, hxe, hxm, hsn⟩; have HXE := Lib.hid hxe; have HXM := Lib.hid hxm; have HSN := Lib.hid hsn; have HRB := Lib.hid (HFy.out.step hsn).rb; clear hxe hxm hsn) | (refine wpSv (x := x) rfl _ _ rfl HRB.out rfl rfl rfl ?_; intro wz fz bz; have HFI := Lib.hid (And.intro bz (HFy.out.hand HSN.out HXM.out fz HXE.out)); clear fz bz))
  exact retV Tryz.results23 HFI.out.1 rfl rfl (by rw [← HP.out]; exact HFI.out.2)
 rw [if_neg c2] at hr
 try go_at_call 48
 refine (got_n HF11.out.dp.ds 1 1 rfl wInsert (by decide) (dGot_no (show dIs ts 1 wInsert s = false by simpa using c2))).mono ?_
 rintro e v2 ⟨rfl, sg⟩
 have HF12 := Lib.hid (HF11.out.step sg)
 clear sg c2 HF11
 go_wp2_with fail
 by_cases c3 : dIs ts 1 wSelect s = true
 ·rw [if_pos c3] at hr
  try go_at_call 48
  refine (got_n HF12.out.dp.ds 1 1 rfl wSelect (by decide) (dGot_yes c3)).mono ?_
  rintro e v3 ⟨rfl, sg⟩
  have HFy := Lib.hid (HF12.out.step sg)
  clear sg c3
  have hop : s.next.opn = 0 := HO.out
  go_wp2_with (first | (go_at_call 53; refine (query_d HFy.out.dp.ds hop hr).mono ?_; rintro e wn ⟨x, rfl, hxe, hxm, hsn⟩; have HXE := Lib.hid hxe; have HXM := Lib.hid hxm; have HSN := Lib.hid hsn; have HRB := Lib.hid (HFy.out.step hsn).rb; clear hxe hxm hsn) | (refine wpSv (x := x) rfl _ _ rfl HRB.out rfl rfl rfl ?_; intro wz fz bz; have HFI := Lib.hid (And.intro bz (HFy.out.hand HSN.out HXM.out fz HXE.out)); clear fz bz))
  exact retV Tryz.results23 HFI.out.1 rfl rfl (by rw [← HP.out]; exact HFI.out.2)
 rw [if_neg c3] at hr
 try go_at_call 48
 refine (got_n HF12.out.dp.ds 1 1 rfl wSelect (by decide) (dGot_no (show dIs ts 1 wSelect s = false by simpa using c3))).mono ?_
 rintro e v3 ⟨rfl, sg⟩
 have HF13 := Lib.hid (HF12.out.step sg)
 clear sg c3 HF12
 go_wp2_with fail
 by_cases c4 : dIs ts 1 wUpdate s = true
 ·rw [if_pos c4] at hr
  try go_at_call 48
  refine (got_n HF13.out.dp.ds 1 1 rfl wUpdate (by decide) (dGot_yes c4)).mono ?_
  rintro e v4 ⟨rfl, sg⟩
  have HFy := Lib.hid (HF13.out.step sg)
  clear sg c4
  unfold dUpdate at hr
  obtain ⟨tb, d2, hna⟩ : ∃ a d, dName ts s.next = (a, d) := ⟨_, _, rfl⟩
  obtain ⟨d3, hm3⟩ : ∃ d, dMust ts 1 wSet d2 = d := ⟨_, rfl⟩
  have hr2 : bindO (dLs ts (dSet ts n) 50 n [] (dMust ts 1 wSet (dName ts s.next).2)) (fun x d3 => bindO (dWhere ts n d3) fun e d4 => some (({ kind := 7, table := (dName ts s.next).1, sets := x, whr := e } : Stm), d4)) = some r := hr
  clear hr
  rw [hna] at hr2
  dsimp only at hr2
  rw [hm3] at hr2
  obtain ⟨ss, d4, hss, hr3⟩ := bindO_some hr2
  clear hr2
  obtain ⟨ew, d5, hwh, hr4⟩ := bindO_some hr3
  clear hr3
  have HR := Lib.hid (show (({ kind := 7, table := tb, sets := ss, whr := ew } : Stm), d5) = r from Option.some.inj hr4)
  have hno := dName_opn ts s.next
  rw [hna] at hno
  dsimp only at hno
  have HOP3 := Lib.hid (show d3.opn = 0 by rw [← hm3, (dMust_opn ts 1 wSet d2).1, hno.1]; exact HO.out)
  have HM3 := Lib.hid hm3
  have HNA := Lib.hid hna
  have HSS := Lib.hid hss
  have HWH := Lib.hid hwh
  clear hr4 hm3 hna hss hwh hno
  have zq : v4.cell? ⟨w1.heap.size, 0, none⟩ = some (.int .i64 0) := HFy.out.bx.cell rfl
  have fq : v4.frozen? ⟨w1.heap.size, 0, none⟩ = false := HFy.out.bx.frz 0
  have hfq := HFy.out.set { kind := 7 } 0 (.int .i64 7) rfl (memz _ _ nl nl nl nl nl nx nl nl)
  obtain ⟨W5, hW5⟩ : ∃ W, v4.setCell ⟨w1.heap.size, 0, none⟩ (.int .i64 7) = W := ⟨_, rfl⟩
  rw [hW5] at hfq
  have HFa := Lib.hid hfq
  clear hfq
  go_upto_block 1 with (first | (go_at_call 50; refine (name_n HFa.out.dp.ds HNA.out).mono ?_; rintro e w6 ⟨rfl, s6⟩; have HFb := Lib.hid (HFa.out.step s6); clear s6 HNA; have zq : w6.cell? ⟨w1.heap.size, 1, none⟩ = some (.string ⟨#[]⟩) := HFb.out.bx.cell rfl; have fq : w6.frozen? ⟨w1.heap.size, 1, none⟩ = false := HFb.out.bx.frz 1; have hfq := HFb.out.set { kind := 7, table := tb } 1 (.string (strB tb)) rfl (memz _ _ nl nl nl nl nl nx nl nl); obtain ⟨W7, hW7⟩ : ∃ W, w6.setCell ⟨w1.heap.size, 1, none⟩ (.string (strB tb)) = W := ⟨_, rfl⟩; rw [hW7] at hfq; have HFc := Lib.hid hfq; clear hfq) | (go_at_call 51; refine (must_n HFc.out.dp.ds 1 1 rfl wSet (by decide) HM3.out).mono ?_; rintro e w8 ⟨rfl, s8⟩; have HFs := Lib.hid (HFc.out.step s8); clear s8 HM3))
  go_cut [4] (fun q wx => Hid (∃ y : XL (List Nat × XE), y.xs.map sek.er = ss ∧ SmF w wx pb w1.heap.size ts d4 { kind := 7, table := tb, sets := y } ∧ d4.opn = 0))
  case first =>
   go_wp2_with fail
   go_loopw [4] (fun _ wr => ∃ (k : Nat), Hid (∃ (sj : DS) (v : Value) (xs : List (List Nat × XE)), dLs ts (dSet ts n) 50 k (xs.map sek.er) sj = some (ss, d4) ∧ SmS sek NX w wr pb w1.heap.size ts sj (fun v => #[.int .i64 7, .string (strB tb), .string ⟨#[]⟩, .slice none 0 0, .slice none 0 0, .bool false, .slice none 0 0, .slice none 0 0, .slice none 0 0, .int .i64 0, .slice none 0 0, .int .i64 0, .int .i64 0, .int .i64 0, .string ⟨#[]⟩, .string ⟨#[]⟩, .slice none 0 0, v] : Value → Array Value) v xs { kind := 7, table := tb } ∧ sj.opn = 0 ∧ xs.length < 50)) (fun _ wr => dlen wr pb)
   case atStart => exact ⟨n, Lib.hid ⟨d3, _, [], HSS.out, HFs.out.grow rfl, HOP3.out, by simp⟩⟩
   case round =>
    obtain ⟨wo, hwo⟩ : ∃ wo, wo = wr := ⟨wr, rfl⟩
    subst hwo
    obtain ⟨k, HJ⟩ := hrel
    obtain ⟨sj, v, xs, hls, hsm, hjo, hxl⟩ := HJ.out
    obtain ⟨k, rfl⟩ : ∃ k', k = k' + 1 := by
     cases k with
     | zero => rw [dLs] at hls; cases hls
     | succ k => exact ⟨k, rfl⟩
    rw [dLs] at hls
    have hdl := hsm.dp.ds.dlen
    have HDL := Lib.hid hdl
    obtain ⟨aq, capq, hbq, -⟩ := hsm.dp.ds.hd
    obtain ⟨⟨-, -, -, y3, -⟩, -⟩ := hbq.five
    obtain ⟨va, vc, rfl, hvc1, hvc2⟩ := hsm.own.sl
    obtain ⟨q, hq⟩ : ∃ q, xs.length = q := ⟨_, rfl⟩
    have HQ := Lib.hid hq
    rw [List.length_map, hq] at hls
    rw [hq] at hsm hxl
    have HSM := Lib.hid hsm
    have HJO := Lib.hid (And.intro hjo hxl)
    clear hsm hdl hbq hjo hxl HJ hq hvc1 hvc2
    by_cases he : sj.e = 0
    case neg =>
     have q0 : ((sj.e : Int) == 0) = false := by simp; omega
     rw [if_pos he] at hls
     obtain ⟨hrr, hdd⟩ := some_pair hls
     clear hls
     subst hdd
     clear he
     obtain ⟨y, -, hyx, hF⟩ := HSM.out.done (fun y => ({ kind := 7, table := tb, sets := y } : XSt)) (fun y => rfl) (fun y hy ho => ⟨ho.cols, ho.names, ho.rows, ho.items, ho.src, ho.whr, ho.order, hy⟩)
     have HFX := Lib.hid hF
     have HYX := Lib.hid (show y.xs.map sek.er = ss by rw [hyx]; exact hrr)
     clear hF hyx hrr
     go_wp2_with fail
     go_meet
     exact Lib.hid ⟨y, HYX.out, HFX.out, HJO.out.1⟩
    rw [if_neg (fun e => e he)] at hls
    rw [he] at y3
    obtain ⟨se1, s1, hen, hlz⟩ := bindO_some hls
    clear hls
    have hls := hlz
    clear hlz
    unfold dSet at hen
    obtain ⟨nm, k1, hna⟩ : ∃ a d, dName ts sj = (a, d) := ⟨_, _, rfl⟩
    obtain ⟨k2, hm2⟩ : ∃ d, dMust ts 5 [61] k1 = d := ⟨_, rfl⟩
    have hen2 : bindO (dWhole ts n (dMust ts 5 [61] (dName ts sj).2)) (fun e d3 => some ((⟨(dName ts sj).1, e⟩ : Se), d3)) = some (se1, s1) := hen
    clear hen
    rw [hna] at hen2
    dsimp only at hen2
    rw [hm2] at hen2
    obtain ⟨ex, k3, hwx, hen3⟩ := bindO_some hen2
    clear hen2
    obtain ⟨e3, e4⟩ := some_pair hen3
    clear hen3
    subst e3 e4
    have hnx := dName_opn ts sj
    rw [hna] at hnx
    have hmx := dMust_opn ts 5 [61] k1
    rw [hm2] at hmx
    dsimp only at hnx
    have HK2 := Lib.hid (show k2.opn = 0 ∧ sj.i ≤ k2.i from ⟨by rw [hmx.1, hnx.1]; exact HJO.out.1, by have h1 := hmx.2.1; have h2 := hnx.2; omega⟩)
    have HNA := Lib.hid hna
    have HM2 := Lib.hid hm2
    have HWX := Lib.hid hwx
    obtain ⟨m, hm⟩ : ∃ m, q + 1 = m := ⟨_, rfl⟩
    have HM := Lib.hid hm
    rw [hm] at hls
    obtain ⟨b, d8, hmo⟩ : ∃ b d, dMore ts m 50 k3 = (b, d) := ⟨_, _, rfl⟩
    rw [hmo] at hls
    dsimp only at hls
    have HMO := Lib.hid hmo
    have hmr := dMore_opn ts m 50 k3
    rw [hmo] at hmr
    dsimp only at hmr
    have HMR := Lib.hid hmr
    clear hm hmo hmr
    clear hna hm2 hwx hnx hmx he

    cases b with
    | true =>
     rw [if_pos rfl] at hls
     have HLS2 := Lib.hid hls
     have HMT := Lib.hid (HMR.out.2.2 rfl)
     clear hls
     go_wp2_with (first | (go_at_call 50; refine (name_n HSM.out.dp.ds HNA.out).mono ?_; rintro e w4 ⟨rfl, s4⟩; have HS4 := Lib.hid s4; clear s4 HNA) | (refine wpSe sek (x := (nm, z0)) rfl _ _ rfl rfl (Bx.new w4 #[.string ⟨#[]⟩, .int .i64 0, .slice none 0 0, .int .i64 0, .int .i64 0, .int .i64 0, .string ⟨#[]⟩, .string ⟨#[]⟩] 95) rfl rfl rfl ?_; intro w5 f5 b5; have HE5 := Lib.hid (show ElS sek wo w5 pb w4.heap.size ts k1 (nm, z0) from ElS.made HS4.out HSM.out.dp.ds.lt f5 b5 (leaf_z0 _ _)); clear f5 b5) | (go_at_call 51; refine (must_n HE5.out.dp.ds 5 5 rfl [61] (by decide) HM2.out).mono ?_; rintro e w6 ⟨rfl, s6⟩; have HE6 := Lib.hid (HE5.out.step s6); clear s6 HM2) | (go_at_call 54; refine (whole_n HE6.out.dp.ds HK2.out.1 HWX.out).mono ?_; rintro e w7 ⟨x, rfl, hxe, hxm, s7, ho7, hi7⟩; have HXE := Lib.hid hxe; have HI7 := Lib.hid (And.intro ho7 hi7); have HE7 := Lib.hid (HE6.out.step s7); obtain ⟨op2, kind2, num2, scale2, text2, qual2, a2, cap2, args2⟩ := x; simp only [XE.val]; have hb8 : Bx (stL w7 w4.heap.size 1 (XE.enc (XE.mk op2 kind2 num2 scale2 text2 qual2 a2 cap2 args2))) w4.heap.size (sek.enc (nm, (XE.mk op2 kind2 num2 scale2 text2 qual2 a2 cap2 args2))).toArray 95 := bx_e1 HE7.out.bx op2 kind2 num2 scale2 text2 qual2 a2 cap2 args2; have f8 : Frm (fun k => k = w4.heap.size) w7 (stL w7 w4.heap.size 1 (XE.enc (XE.mk op2 kind2 num2 scale2 text2 qual2 a2 cap2 args2))) := stL_frm (F := fun k => k = w4.heap.size) (.inl rfl) _ _ (Frm.refl _ _); have hl6 := HE6.out.bx.lt; have hs6 := HE6.out.dp.fr.size; have hm8 : sek.Mem (fun k => wo.heap.size ≤ k ∧ k ≠ w4.heap.size) w7 (nm, (XE.mk op2 kind2 num2 scale2 text2 qual2 a2 cap2 args2)) := XE.Mem.mono (fun k hk => by have e1 : w6.heap.size ≤ k := hk; exact ⟨by omega, by omega⟩) _ hxm; have he8 := HE7.out.put f8 hb8 hm8; obtain ⟨W8, hW8⟩ : ∃ W, stL w7 w4.heap.size 1 (XE.enc (XE.mk op2 kind2 num2 scale2 text2 qual2 a2 cap2 args2)) = W := ⟨_, rfl⟩; rw [hW8] at he8; have HE8 := Lib.hid he8; clear hxe hxm s7 ho7 hi7 hb8 f8 hl6 hs6 hm8 he8; have HSE := Lib.hid (HSM.out.step HE8.out.dp); have hye := sek.mono (K' := fun k => w1.heap.size < k ∧ Value.ownBlock (.slice va q vc) ≠ some k ∧ ¬ NX k) (fun k hk => ⟨by have h1 := HSM.out.bx.lt; have h2 := hk.1; omega, fun e => by have h1 := (HSM.out.own.lt e).2.1; have h2 := hk.1; omega, id⟩) _ HE8.out.mm; have HPU := Lib.hid (fun v' w' => SmS.push (E := sek) (f := 17) (y := (nm, (XE.mk op2 kind2 num2 scale2 text2 qual2 a2 cap2 args2))) (v' := v') (w' := w') HSE.out hye); have HOW := Lib.hid (HSE.out.own.below ((Below.refl W8.heap.size W8).alloc (Nat.le_refl _) (.cells (sek.cells [(nm, (XE.mk op2 kind2 num2 scale2 text2 qual2 a2 cap2 args2))]).toArray sek.te))); have HNW := Lib.hid (OwR.made_cells (K := sek.toRK) W8 [(nm, (XE.mk op2 kind2 num2 scale2 text2 qual2 a2 cap2 args2))]); have z10 : W8.cell? ⟨w1.heap.size, 17, none⟩ = some (.slice va q vc) := HSE.out.bx.cell rfl; clear hye) | (refine wpSx9 (off := 1) (x := (XE.mk op2 kind2 num2 scale2 text2 qual2 a2 cap2 args2)) rfl _ _ rfl HE7.out.bx (show 1 + 7 ≤ (sek.enc (nm, z0)).toArray.size from Nat.le_refl 8) rfl rfl ?_; rw [hW8]) | (refine wpLe sek Tryz.underlying95 rfl rfl _ rfl (x := (nm, (XE.mk op2 kind2 num2 scale2 text2 qual2 a2 cap2 args2))) rfl HE8.out.bx rfl ?_; simp only [sek]) | (at_builtin; refine OwR.wp (K := sek.toRK) rfl _ _ rfl (w1.heap.size + 1) (.slice va q vc) xs rfl HOW.out (by have := HSE.out.bx.lt; simp; omega) ⟨W8.heap.size, 0, none⟩ 1 1 [(nm, (XE.mk op2 kind2 num2 scale2 text2 qual2 a2 cap2 args2))] rfl rfl HNW.out (by have := HQ.out; have := HJO.out.2; omega) ?_; intro v9 w9 o9 g9 n9; have hpu := HPU.out v9 w9 o9 g9 n9 rfl; obtain ⟨a9, c9, e9, hc1, hc2⟩ := o9.sl; rw [List.length_append, List.length_singleton, HQ.out, HM.out] at e9; subst e9; have HZ9 := Lib.hid hpu.1; have z9 : w9.cell? ⟨w1.heap.size, 17, none⟩ = some (.slice va q vc) := HZ9.out.cell rfl; have f9 : w9.frozen? ⟨w1.heap.size, 17, none⟩ = false := HZ9.out.frz 17; obtain ⟨W11, hW11⟩ : ∃ W11, w9.setCell ⟨w1.heap.size, 17, none⟩ (.slice a9 m c9) = W11 := ⟨_, rfl⟩; have hs := hpu.2; rw [hW11] at hs; have HS11 := Lib.hid hs; have z11 : W11.cell? ⟨w1.heap.size, 17, none⟩ = some (.slice a9 m c9) := HS11.out.bx.cell rfl; clear hpu o9 g9 n9 hs) | (go_at_call 55; refine (more_n HS11.out.dp.ds m 50 50 rfl HMO.out).mono ?_; rintro e w12 ⟨rfl, s12⟩; have HS12 := Lib.hid (HS11.out.step s12); clear s12))
     refine ⟨⟨k, Lib.hid ⟨d8, _, xs ++ [(nm, (XE.mk op2 kind2 num2 scale2 text2 qual2 a2 cap2 args2))], ?_, HS12.out, ?_, ?_⟩⟩, ?_⟩
     ·rw [List.map_append, List.map_cons, List.map_nil, show sek.er (nm, (XE.mk op2 kind2 num2 scale2 text2 qual2 a2 cap2 args2)) = ⟨nm, ex⟩ by (show (⟨_, _⟩ : Se) = _; rw [show XE.er (XE.mk op2 kind2 num2 scale2 text2 qual2 a2 cap2 args2) = ex from HXE.out])]; exact HLS2.out
     ·rw [HMR.out.1]; exact HI7.out.1
     ·rw [List.length_append, List.length_singleton, HQ.out, HM.out]
      have h1 := HMT.out.2.2
      have h2 := HM.out
      have h3 := HJO.out.2
      omega
     ·rw [HS12.out.dp.ds.dlen, HDL.out]
      have h1 := HMT.out
      have h2 := Nat.le_trans HK2.out.2 HI7.out.2
      omega
    | false =>
     rw [if_neg (by decide)] at hls
     have HLS2 := Lib.hid hls
     clear hls
     go_wp2_with (first | (go_at_call 50; refine (name_n HSM.out.dp.ds HNA.out).mono ?_; rintro e w4 ⟨rfl, s4⟩; have HS4 := Lib.hid s4; clear s4 HNA) | (refine wpSe sek (x := (nm, z0)) rfl _ _ rfl rfl (Bx.new w4 #[.string ⟨#[]⟩, .int .i64 0, .slice none 0 0, .int .i64 0, .int .i64 0, .int .i64 0, .string ⟨#[]⟩, .string ⟨#[]⟩] 95) rfl rfl rfl ?_; intro w5 f5 b5; have HE5 := Lib.hid (show ElS sek wo w5 pb w4.heap.size ts k1 (nm, z0) from ElS.made HS4.out HSM.out.dp.ds.lt f5 b5 (leaf_z0 _ _)); clear f5 b5) | (go_at_call 51; refine (must_n HE5.out.dp.ds 5 5 rfl [61] (by decide) HM2.out).mono ?_; rintro e w6 ⟨rfl, s6⟩; have HE6 := Lib.hid (HE5.out.step s6); clear s6 HM2) | (go_at_call 54; refine (whole_n HE6.out.dp.ds HK2.out.1 HWX.out).mono ?_; rintro e w7 ⟨x, rfl, hxe, hxm, s7, ho7, hi7⟩; have HXE := Lib.hid hxe; have HI7 := Lib.hid (And.intro ho7 hi7); have HE7 := Lib.hid (HE6.out.step s7); obtain ⟨op2, kind2, num2, scale2, text2, qual2, a2, cap2, args2⟩ := x; simp only [XE.val]; have hb8 : Bx (stL w7 w4.heap.size 1 (XE.enc (XE.mk op2 kind2 num2 scale2 text2 qual2 a2 cap2 args2))) w4.heap.size (sek.enc (nm, (XE.mk op2 kind2 num2 scale2 text2 qual2 a2 cap2 args2))).toArray 95 := bx_e1 HE7.out.bx op2 kind2 num2 scale2 text2 qual2 a2 cap2 args2; have f8 : Frm (fun k => k = w4.heap.size) w7 (stL w7 w4.heap.size 1 (XE.enc (XE.mk op2 kind2 num2 scale2 text2 qual2 a2 cap2 args2))) := stL_frm (F := fun k => k = w4.heap.size) (.inl rfl) _ _ (Frm.refl _ _); have hl6 := HE6.out.bx.lt; have hs6 := HE6.out.dp.fr.size; have hm8 : sek.Mem (fun k => wo.heap.size ≤ k ∧ k ≠ w4.heap.size) w7 (nm, (XE.mk op2 kind2 num2 scale2 text2 qual2 a2 cap2 args2)) := XE.Mem.mono (fun k hk => by have e1 : w6.heap.size ≤ k := hk; exact ⟨by omega, by omega⟩) _ hxm; have he8 := HE7.out.put f8 hb8 hm8; obtain ⟨W8, hW8⟩ : ∃ W, stL w7 w4.heap.size 1 (XE.enc (XE.mk op2 kind2 num2 scale2 text2 qual2 a2 cap2 args2)) = W := ⟨_, rfl⟩; rw [hW8] at he8; have HE8 := Lib.hid he8; clear hxe hxm s7 ho7 hi7 hb8 f8 hl6 hs6 hm8 he8; have HSE := Lib.hid (HSM.out.step HE8.out.dp); have hye := sek.mono (K' := fun k => w1.heap.size < k ∧ Value.ownBlock (.slice va q vc) ≠ some k ∧ ¬ NX k) (fun k hk => ⟨by have h1 := HSM.out.bx.lt; have h2 := hk.1; omega, fun e => by have h1 := (HSM.out.own.lt e).2.1; have h2 := hk.1; omega, id⟩) _ HE8.out.mm; have HPU := Lib.hid (fun v' w' => SmS.push (E := sek) (f := 17) (y := (nm, (XE.mk op2 kind2 num2 scale2 text2 qual2 a2 cap2 args2))) (v' := v') (w' := w') HSE.out hye); have HOW := Lib.hid (HSE.out.own.below ((Below.refl W8.heap.size W8).alloc (Nat.le_refl _) (.cells (sek.cells [(nm, (XE.mk op2 kind2 num2 scale2 text2 qual2 a2 cap2 args2))]).toArray sek.te))); have HNW := Lib.hid (OwR.made_cells (K := sek.toRK) W8 [(nm, (XE.mk op2 kind2 num2 scale2 text2 qual2 a2 cap2 args2))]); have z10 : W8.cell? ⟨w1.heap.size, 17, none⟩ = some (.slice va q vc) := HSE.out.bx.cell rfl; clear hye) | (refine wpSx9 (off := 1) (x := (XE.mk op2 kind2 num2 scale2 text2 qual2 a2 cap2 args2)) rfl _ _ rfl HE7.out.bx (show 1 + 7 ≤ (sek.enc (nm, z0)).toArray.size from Nat.le_refl 8) rfl rfl ?_; rw [hW8]) | (refine wpLe sek Tryz.underlying95 rfl rfl _ rfl (x := (nm, (XE.mk op2 kind2 num2 scale2 text2 qual2 a2 cap2 args2))) rfl HE8.out.bx rfl ?_; simp only [sek]) | (at_builtin; refine OwR.wp (K := sek.toRK) rfl _ _ rfl (w1.heap.size + 1) (.slice va q vc) xs rfl HOW.out (by have := HSE.out.bx.lt; simp; omega) ⟨W8.heap.size, 0, none⟩ 1 1 [(nm, (XE.mk op2 kind2 num2 scale2 text2 qual2 a2 cap2 args2))] rfl rfl HNW.out (by have := HQ.out; have := HJO.out.2; omega) ?_; intro v9 w9 o9 g9 n9; have hpu := HPU.out v9 w9 o9 g9 n9 rfl; obtain ⟨a9, c9, e9, hc1, hc2⟩ := o9.sl; rw [List.length_append, List.length_singleton, HQ.out, HM.out] at e9; subst e9; have HZ9 := Lib.hid hpu.1; have z9 : w9.cell? ⟨w1.heap.size, 17, none⟩ = some (.slice va q vc) := HZ9.out.cell rfl; have f9 : w9.frozen? ⟨w1.heap.size, 17, none⟩ = false := HZ9.out.frz 17; obtain ⟨W11, hW11⟩ : ∃ W11, w9.setCell ⟨w1.heap.size, 17, none⟩ (.slice a9 m c9) = W11 := ⟨_, rfl⟩; have hs := hpu.2; rw [hW11] at hs; have HS11 := Lib.hid hs; have z11 : W11.cell? ⟨w1.heap.size, 17, none⟩ = some (.slice a9 m c9) := HS11.out.bx.cell rfl; clear hpu o9 g9 n9 hs) | (go_at_call 55; refine (more_n HS11.out.dp.ds m 50 50 rfl HMO.out).mono ?_; rintro e w12 ⟨rfl, s12⟩; have HS12 := Lib.hid (HS11.out.step s12); clear s12))
     have hls := HLS2.out
     obtain ⟨hrr, hdd⟩ := some_pair hls
     clear hls
     subst hdd
     have hrr : (xs ++ [(nm, (XE.mk op2 kind2 num2 scale2 text2 qual2 a2 cap2 args2))]).map sek.er = ss := by rw [List.map_append, List.map_cons, List.map_nil, show sek.er (nm, (XE.mk op2 kind2 num2 scale2 text2 qual2 a2 cap2 args2)) = ⟨nm, ex⟩ by (show (⟨_, _⟩ : Se) = _; rw [show XE.er (XE.mk op2 kind2 num2 scale2 text2 qual2 a2 cap2 args2) = ex from HXE.out])]; exact hrr
     obtain ⟨y, -, hyx, hF⟩ := HS12.out.done (fun y => ({ kind := 7, table := tb, sets := y } : XSt)) (fun y => rfl) (fun y hy ho => ⟨ho.cols, ho.names, ho.rows, ho.items, ho.src, ho.whr, ho.order, hy⟩)
     have HFX := Lib.hid hF
     have HYX := Lib.hid (show y.xs.map sek.er = ss by rw [hyx]; exact hrr)
     clear hF hyx hrr
     go_wp2_with fail
     go_meet
     exact Lib.hid ⟨y, HYX.out, HFX.out, (by rw [HMR.out.1]; exact HI7.out.1)⟩
  case rest =>
   obtain ⟨y1, hy1, hF, ho4⟩ := hcut.out
   have HFd := Lib.hid hF
   have HOW4 := Lib.hid ho4
   have HY1 := Lib.hid hy1
   clear hcut hF hy1 ho4
   go_upto_region 36 with (first | (go_at_call 56; refine (where_n HFd.out.dp.ds HOW4.out HWH.out).mono ?_; rintro e wA ⟨xw, rfl, hxe, hxm, sA, hoA, hiA⟩; have HXW := Lib.hid hxe; have HIA := Lib.hid (And.intro hoA hiA); have HFA := Lib.hid (HFd.out.step sA); have hxg := gtX HFd.out.bx.lt hxm; clear hxe hxm sA hoA hiA; obtain ⟨opw, kindw, numw, scalew, textw, qualw, aw, capw, argsw⟩ := xw; simp only [XE.val]; have hfw := HFA.out.whr (XE.mk opw kindw numw scalew textw qualw aw capw argsw) hxg; obtain ⟨WB, hWB⟩ : ∃ W, stL wA w1.heap.size 9 (XE.enc (XE.mk opw kindw numw scalew textw qualw aw capw argsw)) = W := ⟨_, rfl⟩; rw [hWB] at hfw; have HFB : Hid (SmF w WB pb w1.heap.size ts d5 { kind := 7, table := tb, whr := (XE.mk opw kindw numw scalew textw qualw aw capw argsw), sets := y1 }) := Lib.hid hfw; clear hfw hxg) | (refine wpSx9 (off := 9) (x := (XE.mk opw kindw numw scalew textw qualw aw capw argsw)) rfl _ _ rfl HFA.out.bx (show 9 + 7 ≤ (XSt.enc { kind := 7, table := tb, sets := y1 }).toArray.size from (by decide : 16 ≤ 18)) rfl rfl ?_; rw [hWB]))
   have HFX := HFB
   have HST := Lib.hid (show XSt.er { kind := 7, table := tb, whr := (XE.mk opw kindw numw scalew textw qualw aw capw argsw), sets := y1 } = { kind := 7, table := tb, sets := ss, whr := ew } by unfold XSt.er; simp only [List.map_nil]; rw [show XE.er (XE.mk opw kindw numw scalew textw qualw aw capw argsw) = ew from HXW.out, show List.map sek.er y1.xs = ss from HY1.out])
   go_wp2_with (first | (refine wpLv (x := { kind := 7, table := tb, whr := (XE.mk opw kindw numw scalew textw qualw aw capw argsw), sets := y1 }) rfl _ rfl HFX.out.bx rfl ?_) | (refine wpSv (x := { kind := 7, table := tb, whr := (XE.mk opw kindw numw scalew textw qualw aw capw argsw), sets := y1 }) rfl _ _ rfl HFX.out.rb rfl rfl rfl ?_; intro wz fz bz; have HFI := Lib.hid (And.intro bz (HFX.out.fin fz HST.out)); clear fz bz))
   exact retV Tryz.results23 HFI.out.1 rfl rfl (by rw [← HP.out, ← HR.out]; exact HFI.out.2)
 rw [if_neg c4] at hr
 try go_at_call 48
 refine (got_n HF13.out.dp.ds 1 1 rfl wUpdate (by decide) (dGot_no (show dIs ts 1 wUpdate s = false by simpa using c4))).mono ?_
 rintro e v4 ⟨rfl, sg⟩
 have HF14 := Lib.hid (HF13.out.step sg)
 clear sg c4 HF13
 go_wp2_with fail
 by_cases c5 : dIs ts 1 wDelete s = true
 ·rw [if_pos c5] at hr
  try go_at_call 48
  refine (got_n HF14.out.dp.ds 1 1 rfl wDelete (by decide) (dGot_yes c5)).mono ?_
  rintro e v5 ⟨rfl, sg⟩
  have HFy := Lib.hid (HF14.out.step sg)
  clear sg c5
  unfold dDelete at hr
  obtain ⟨d1, hm1⟩ : ∃ d, dMust ts 1 wFrom s.next = d := ⟨_, rfl⟩
  obtain ⟨tb, d2, hna⟩ : ∃ a d, dName ts d1 = (a, d) := ⟨_, _, rfl⟩
  have hr2 : bindO (dWhere ts n (dName ts (dMust ts 1 wFrom s.next)).2) (fun e d3 => some (({ kind := 8, table := (dName ts (dMust ts 1 wFrom s.next)).1, whr := e } : Stm), d3)) = some r := hr
  clear hr
  rw [hm1, hna] at hr2
  dsimp only at hr2
  obtain ⟨ew, d3, hwh, hr3⟩ := bindO_some hr2
  clear hr2
  have HR := Lib.hid (show (({ kind := 8, table := tb, whr := ew } : Stm), d3) = r from Option.some.inj hr3)
  have hno := dName_opn ts d1
  rw [hna] at hno
  dsimp only at hno
  have HOW4 := Lib.hid (show d2.opn = 0 by rw [hno.1, ← hm1, (dMust_opn ts 1 wFrom s.next).1]; exact HO.out)
  have HM1 := Lib.hid hm1
  have HNA := Lib.hid hna
  have HWH := Lib.hid hwh
  clear hr3 hm1 hna hwh hno
  go_upto_region 36 with (first | (go_at_call 51; refine (must_n HFy.out.dp.ds 1 1 rfl wFrom (by decide) HM1.out).mono ?_; rintro e w5 ⟨rfl, s5⟩; have HFa := Lib.hid (HFy.out.step s5); clear s5 HM1; have zq : w5.cell? ⟨w1.heap.size, 0, none⟩ = some (.int .i64 0) := HFa.out.bx.cell rfl; have fq : w5.frozen? ⟨w1.heap.size, 0, none⟩ = false := HFa.out.bx.frz 0; have hfq := HFa.out.set { kind := 8 } 0 (.int .i64 8) rfl (memz _ _ nl nl nl nl nl nx nl nl); obtain ⟨W6, hW6⟩ : ∃ W, w5.setCell ⟨w1.heap.size, 0, none⟩ (.int .i64 8) = W := ⟨_, rfl⟩; rw [hW6] at hfq; have HFb := Lib.hid hfq; clear hfq) | (go_at_call 50; refine (name_n HFb.out.dp.ds HNA.out).mono ?_; rintro e w7 ⟨rfl, s7⟩; have HFc := Lib.hid (HFb.out.step s7); clear s7; have zq : w7.cell? ⟨w1.heap.size, 1, none⟩ = some (.string ⟨#[]⟩) := HFc.out.bx.cell rfl; have fq : w7.frozen? ⟨w1.heap.size, 1, none⟩ = false := HFc.out.bx.frz 1; have hfq := HFc.out.set { kind := 8, table := tb } 1 (.string (strB tb)) rfl (memz _ _ nl nl nl nl nl nx nl nl); obtain ⟨W8, hW8⟩ : ∃ W, w7.setCell ⟨w1.heap.size, 1, none⟩ (.string (strB tb)) = W := ⟨_, rfl⟩; rw [hW8] at hfq; have HFd := Lib.hid hfq; clear hfq) | (go_at_call 56; refine (where_n HFd.out.dp.ds HOW4.out HWH.out).mono ?_; rintro e wA ⟨xw, rfl, hxe, hxm, sA, hoA, hiA⟩; have HXW := Lib.hid hxe; have HIA := Lib.hid (And.intro hoA hiA); have HFA := Lib.hid (HFd.out.step sA); have hxg := gtX HFd.out.bx.lt hxm; clear hxe hxm sA hoA hiA; obtain ⟨opw, kindw, numw, scalew, textw, qualw, aw, capw, argsw⟩ := xw; simp only [XE.val]; have hfw := HFA.out.whr (XE.mk opw kindw numw scalew textw qualw aw capw argsw) hxg; obtain ⟨WB, hWB⟩ : ∃ W, stL wA w1.heap.size 9 (XE.enc (XE.mk opw kindw numw scalew textw qualw aw capw argsw)) = W := ⟨_, rfl⟩; rw [hWB] at hfw; have HFB : Hid (SmF w WB pb w1.heap.size ts d3 { kind := 8, table := tb, whr := (XE.mk opw kindw numw scalew textw qualw aw capw argsw) }) := Lib.hid hfw; clear hfw hxg) | (refine wpSx9 (off := 9) (x := (XE.mk opw kindw numw scalew textw qualw aw capw argsw)) rfl _ _ rfl HFA.out.bx (show 9 + 7 ≤ (XSt.enc { kind := 8, table := tb }).toArray.size from (by decide : 16 ≤ 18)) rfl rfl ?_; rw [hWB]))
  have HFX := HFB
  have HST := Lib.hid (show XSt.er { kind := 8, table := tb, whr := (XE.mk opw kindw numw scalew textw qualw aw capw argsw) } = { kind := 8, table := tb, whr := ew } by unfold XSt.er; simp only [List.map_nil]; rw [show XE.er (XE.mk opw kindw numw scalew textw qualw aw capw argsw) = ew from HXW.out])
  go_wp2_with (first | (refine wpLv (x := { kind := 8, table := tb, whr := (XE.mk opw kindw numw scalew textw qualw aw capw argsw) }) rfl _ rfl HFX.out.bx rfl ?_) | (refine wpSv (x := { kind := 8, table := tb, whr := (XE.mk opw kindw numw scalew textw qualw aw capw argsw) }) rfl _ _ rfl HFX.out.rb rfl rfl rfl ?_; intro wz fz bz; have HFI := Lib.hid (And.intro bz (HFX.out.fin fz HST.out)); clear fz bz))
  exact retV Tryz.results23 HFI.out.1 rfl rfl (by rw [← HP.out, ← HR.out]; exact HFI.out.2)
 rw [if_neg c5] at hr
 try go_at_call 48
 refine (got_n HF14.out.dp.ds 1 1 rfl wDelete (by decide) (dGot_no (show dIs ts 1 wDelete s = false by simpa using c5))).mono ?_
 rintro e v5 ⟨rfl, sg⟩
 have HF15 := Lib.hid (HF14.out.step sg)
 clear sg c5 HF14
 go_wp2_with fail
 by_cases c6 : dIs ts 1 wBegin s = true
 ·rw [if_pos c6] at hr
  try go_at_call 48
  refine (got_n HF15.out.dp.ds 1 1 rfl wBegin (by decide) (dGot_yes c6)).mono ?_
  rintro e v6 ⟨rfl, sg⟩
  have HFy := Lib.hid (HF15.out.step sg)
  clear sg c6
  have zq : v6.cell? ⟨w1.heap.size, 0, none⟩ = some (.int .i64 0) := HFy.out.bx.cell rfl
  have fq : v6.frozen? ⟨w1.heap.size, 0, none⟩ = false := HFy.out.bx.frz 0
  have hfq := HFy.out.set { kind := 9 } 0 (.int .i64 9) rfl (memz _ _ nl nl nl nl nl nx nl nl)
  obtain ⟨WX, hWX⟩ : ∃ W, v6.setCell ⟨w1.heap.size, 0, none⟩ (.int .i64 9) = W := ⟨_, rfl⟩
  rw [hWX] at hfq
  have HFX := Lib.hid hfq
  have HR := Lib.hid (show (({ kind := 9 } : Stm), s.next) = r from Option.some.inj hr)
  have HST := Lib.hid (show XSt.er { kind := 9 } = { kind := 9 } by unfold XSt.er; simp only [er0, List.map_nil])
  clear hfq hr
  go_wp2_with (first | (refine wpLv (x := { kind := 9 }) rfl _ rfl HFX.out.bx rfl ?_) | (refine wpSv (x := { kind := 9 }) rfl _ _ rfl HFX.out.rb rfl rfl rfl ?_; intro wz fz bz; have HFI := Lib.hid (And.intro bz (HFX.out.fin fz HST.out)); clear fz bz))
  exact retV Tryz.results23 HFI.out.1 rfl rfl (by rw [← HP.out, ← HR.out]; exact HFI.out.2)
 rw [if_neg c6] at hr
 try go_at_call 48
 refine (got_n HF15.out.dp.ds 1 1 rfl wBegin (by decide) (dGot_no (show dIs ts 1 wBegin s = false by simpa using c6))).mono ?_
 rintro e v6 ⟨rfl, sg⟩
 have HF16 := Lib.hid (HF15.out.step sg)
 clear sg c6 HF15
 go_wp2_with fail
 by_cases c7 : dIs ts 1 wCommit s = true
 ·rw [if_pos c7] at hr
  try go_at_call 48
  refine (got_n HF16.out.dp.ds 1 1 rfl wCommit (by decide) (dGot_yes c7)).mono ?_
  rintro e v7 ⟨rfl, sg⟩
  have HFy := Lib.hid (HF16.out.step sg)
  clear sg c7
  have zq : v7.cell? ⟨w1.heap.size, 0, none⟩ = some (.int .i64 0) := HFy.out.bx.cell rfl
  have fq : v7.frozen? ⟨w1.heap.size, 0, none⟩ = false := HFy.out.bx.frz 0
  have hfq := HFy.out.set { kind := 10 } 0 (.int .i64 10) rfl (memz _ _ nl nl nl nl nl nx nl nl)
  obtain ⟨WX, hWX⟩ : ∃ W, v7.setCell ⟨w1.heap.size, 0, none⟩ (.int .i64 10) = W := ⟨_, rfl⟩
  rw [hWX] at hfq
  have HFX := Lib.hid hfq
  have HR := Lib.hid (show (({ kind := 10 } : Stm), s.next) = r from Option.some.inj hr)
  have HST := Lib.hid (show XSt.er { kind := 10 } = { kind := 10 } by unfold XSt.er; simp only [er0, List.map_nil])
  clear hfq hr
  go_wp2_with (first | (refine wpLv (x := { kind := 10 }) rfl _ rfl HFX.out.bx rfl ?_) | (refine wpSv (x := { kind := 10 }) rfl _ _ rfl HFX.out.rb rfl rfl rfl ?_; intro wz fz bz; have HFI := Lib.hid (And.intro bz (HFX.out.fin fz HST.out)); clear fz bz))
  exact retV Tryz.results23 HFI.out.1 rfl rfl (by rw [← HP.out, ← HR.out]; exact HFI.out.2)
 rw [if_neg c7] at hr
 try go_at_call 48
 refine (got_n HF16.out.dp.ds 1 1 rfl wCommit (by decide) (dGot_no (show dIs ts 1 wCommit s = false by simpa using c7))).mono ?_
 rintro e v7 ⟨rfl, sg⟩
 have HF17 := Lib.hid (HF16.out.step sg)
 clear sg c7 HF16
 go_wp2_with fail
 unfold dLast at hr
 by_cases c8 : dIs ts 1 wRollback s = true
 ·rw [if_pos c8] at hr
  try go_at_call 48
  refine (got_n HF17.out.dp.ds 1 1 rfl wRollback (by decide) (dGot_yes c8)).mono ?_
  rintro e v8 ⟨rfl, sg⟩
  have HFy := Lib.hid (HF17.out.step sg)
  clear sg c8
  have zq : v8.cell? ⟨w1.heap.size, 0, none⟩ = some (.int .i64 0) := HFy.out.bx.cell rfl
  have fq : v8.frozen? ⟨w1.heap.size, 0, none⟩ = false := HFy.out.bx.frz 0
  have hfq := HFy.out.set { kind := 11 } 0 (.int .i64 11) rfl (memz _ _ nl nl nl nl nl nx nl nl)
  obtain ⟨WX, hWX⟩ : ∃ W, v8.setCell ⟨w1.heap.size, 0, none⟩ (.int .i64 11) = W := ⟨_, rfl⟩
  rw [hWX] at hfq
  have HFX := Lib.hid hfq
  have HR := Lib.hid (show (({ kind := 11 } : Stm), s.next) = r from Option.some.inj hr)
  have HST := Lib.hid (show XSt.er { kind := 11 } = { kind := 11 } by unfold XSt.er; simp only [er0, List.map_nil])
  clear hfq hr
  go_wp2_with (first | (refine wpLv (x := { kind := 11 }) rfl _ rfl HFX.out.bx rfl ?_) | (refine wpSv (x := { kind := 11 }) rfl _ _ rfl HFX.out.rb rfl rfl rfl ?_; intro wz fz bz; have HFI := Lib.hid (And.intro bz (HFX.out.fin fz HST.out)); clear fz bz))
  exact retV Tryz.results23 HFI.out.1 rfl rfl (by rw [← HP.out, ← HR.out]; exact HFI.out.2)
 rw [if_neg c8] at hr
 try go_at_call 48
 refine (got_n HF17.out.dp.ds 1 1 rfl wRollback (by decide) (dGot_no (show dIs ts 1 wRollback s = false by simpa using c8))).mono ?_
 rintro e v8 ⟨rfl, sg⟩
 have HF18 := Lib.hid (HF17.out.step sg)
 clear sg c8 HF17
 go_wp2_with fail
 have HR := Lib.hid (show (({ kind := 0 } : Stm), dFail 130 s) = r from Option.some.inj hr)
 have HST := Lib.hid (show XSt.er { kind := 0 } = { kind := 0 } by unfold XSt.er; simp only [er0, List.map_nil])
 clear hr
 try go_at_call 24
 refine (fail_n HF18.out.dp.ds 130 130 rfl (by decide) rfl).mono ?_
 rintro e w3z ⟨rfl, sf⟩
 have HFX := Lib.hid (HF18.out.step sf)
 clear sf
 go_wp2_with (first | (refine wpLv (x := { kind := 0 }) rfl _ rfl HFX.out.bx rfl ?_) | (refine wpSv (x := { kind := 0 }) rfl _ _ rfl HFX.out.rb rfl rfl rfl ?_; intro wz fz bz; have HFI := Lib.hid (And.intro bz (HFX.out.fin fz HST.out)); clear fz bz))
 exact retV Tryz.results23 HFI.out.1 rfl rfl (by rw [← HP.out, ← HR.out]; exact HFI.out.2)
end Go.Proofs.YtofnkfjhmjecjaaGreatDoor

namespace Go.Proofs.YtofnkfjhmjecjaaGreatDoor
set_option maxRecDepth 100000
open Go.RowKit Go.Joins Go.ChangeShapes Go.WideShapes
set_option linter.unusedVariables false
set_option linter.unusedSimpArgs false
section
variable {P : Program} {ops : Array Oper} {Q : Exit → Act → World → Prop}
theorem wpOp_K {i : Nat} {o : Oper} {a : Act} {w : World} {S : World → Prop} {L : Act → World → Prop} (hi : ops[i]? = some o) (hgd : o.guard = none)
  (h : ∀ K : Act → World → Prop, Hid (∀ a' w', S w' → L a' w' → K a' w') → o.wp P a w K Q) : wpOp P ops Q i (fun a' w' => S w' ∧ L a' w') a w := by
 have hw : Region.wanted o (yielded ops a.tmps) = true := by simp [Region.wanted, hgd]
 unfold wpOp
 rw [hi]
 simp only [hw, if_true]
 exact .inl (h _ (Lib.hid fun a' w' h1 h2 => ⟨h1, h2⟩))
end
theorem op_Sv {o : Oper} {a : Act} {w : World} {K : Act → World → Prop} {Q : Exit → Act → World → Prop} (p v : Operand) (ho : o.op = .store 34 p v) {g : Nat} {cs : Array Value} {x : XSt} (hb : Bx w g cs 34) (hcs : cs.size = 18) (hp : a.eval p = .pointer (some ⟨g, 0, none⟩)) (hv : a.eval v = x.val)
  (h : ∀ wz, Frm (fun k => k = g) w wz → Bx wz g x.enc.toArray 34 → K (a.put o.dst undef) wz) : Oper.wp Tryz.prog o a w K Q := by
 obtain ⟨wz, hst, hf, hz⟩ := st_V hb hcs x
 unfold Oper.wp execOp
 simp only [ho, hp, hv, Sem.run_bind, Sem.run_pure, Result.andThen_ok, hst]
 exact h wz hf hz
set_option maxHeartbeats 4000000 in
set_option maxRecDepth 100000 in
theorem reg11 {v0 v1 v3 v4 v5 v7 v8 v9 v10 v11 v12 v13 v14 v15 v16 v17 v18 v19 v20 v21 v22 v23 v24 v25 v26 v27 v28 v29 v30 v31 v32 v33 v34 v35 v36 v37 v38 v39 v40 v41 v42 v43 v44 v45 v46 v47 v48 v49 v50 v51 v52 v53 v54 v55 v56 v57 v58 : Value} {df : List Deferred} {g pb : Nat} {E : Int} {w : World} {Q : Exit → Act → World → Prop} {cs : Array Value} (hb : Bx w g cs 34) (hcs : cs.size = 18) (y3 : w.cell? ⟨pb, 3, none⟩ = some (.int .i64 E)) (hne : ¬ pb = g) (hlt : pb < w.heap.size)
  (hQ : ∀ (c : List PanicEntry) (d : Option Tmp) (v : Value) (a : Act) (w : World), Q (.panic c) (a.put d v) w → Q (.panic c) a w)
  (h : ∀ wz, Frm (fun k => k = g) w wz → Bx wz g (XSt.enc { kind := 0 }).toArray 34 → Q .normal { tmps := #[v0, v1, .pointer (some ⟨g, 0, none⟩), .int .i64 E, v4, v5, .pointer (some ⟨pb, 0, none⟩), v7, v8, v9, v10, v11, v12, v13, v14, v15, v16, v17, v18, v19, v20, v21, v22, v23, v24, v25, v26, v27, v28, v29, v30, v31, v32, v33, v34, v35, v36, v37, v38, v39, v40, v41, v42, v43, v44, v45, v46, v47, v48, v49, v50, v51, v52, .agg #[.int .i64 0, .string ⟨#[]⟩, .string ⟨#[]⟩, .slice none 0 0, .slice none 0 0, .bool false, .slice none 0 0, .slice none 0 0, .slice none 0 0, .int .i64 0, .slice none 0 0, .int .i64 0, .int .i64 0, .int .i64 0, .string ⟨#[]⟩, .string ⟨#[]⟩, .slice none 0 0, .slice none 0 0], .pointer (some ⟨pb, 0, none⟩), .pointer (some ⟨pb, 0, none⟩), .pointer (some ⟨pb, 3, none⟩), .int .i64 E, v58], defers := df } wz) :
  (Code.region 11 #[{ dst := some 53, op := Op.build 34 #[], type := 34, pos := "ref.go:103", after := #[], guard := none }, { dst := some 54, op := Op.move (.tmp 6), type := 68, pos := "ref.go:103", after := #[{ on := 5, ground := .gcOnly .lateStores }], guard := none }, { dst := some 55, op := Op.nilCheck (.tmp 54), type := 0, pos := "ref.go:103", after := #[{ on := 1, ground := .data }, { on := 5, ground := .gcOnly .lateStores }], guard := none }, { dst := some 56, op := Op.fieldAddr 70 (.tmp 55) 3, type := 0, pos := "ref.go:103", after := #[{ on := 2, ground := .data }, { on := 5, ground := .gcOnly .lateStores }], guard := none }, { dst := some 57, op := Op.load 3 (.tmp 56), type := 3, pos := "ref.go:103", after := #[{ on := 3, ground := .data }, { on := 5, ground := .gcOnly .lateStores }], guard := none }, { dst := none, op := Op.store 34 (.tmp 2) (.tmp 53), type := 0, pos := "ref.go:103", after := #[{ on := 0, ground := .data }, { on := 0, ground := .phase }, { on := 1, ground := .textOnly .lateStores }, { on := 2, ground := .textOnly .lateStores }, { on := 3, ground := .textOnly .lateStores }, { on := 4, ground := .textOnly .lateStores }], guard := none }, { dst := some 3, op := Op.assign (.tmp 57), type := 3, pos := "ref.go:103", after := #[{ on := 4, ground := .data }, { on := 5, ground := .chain }, { on := 0, ground := .phase }, { on := 1, ground := .phase }, { on := 2, ground := .phase }, { on := 3, ground := .phase }, { on := 4, ground := .phase }, { on := 5, ground := .phase }], guard := none }] true).wp Tryz.prog Q { tmps := #[v0, v1, .pointer (some ⟨g, 0, none⟩), v3, v4, v5, .pointer (some ⟨pb, 0, none⟩), v7, v8, v9, v10, v11, v12, v13, v14, v15, v16, v17, v18, v19, v20, v21, v22, v23, v24, v25, v26, v27, v28, v29, v30, v31, v32, v33, v34, v35, v36, v37, v38, v39, v40, v41, v42, v43, v44, v45, v46, v47, v48, v49, v50, v51, v52, v53, v54, v55, v56, v57, v58], defers := df } w := by
 have yd : w.drew.cell? ⟨pb, 3, none⟩ = some (.int .i64 E) := y3
 have hbd : Bx w.drew g cs 34 := hb
 refine wp_region_held_drew (S := fun v0 => v0.cell? ⟨pb, 3, none⟩ = some (.int .i64 E)) (by kernel_rfl) yd (fun hHeld => ?_)
 refine wpAnyH_take (i := 0) (oi := { dst := some 53, op := Op.build 34 #[], type := 34, pos := "ref.go:103", after := #[], guard := none }) (v := .agg #[.int .i64 0, .string ⟨#[]⟩, .string ⟨#[]⟩, .slice none 0 0, .slice none 0 0, .bool false, .slice none 0 0, .slice none 0 0, .slice none 0 0, .int .i64 0, .slice none 0 0, .int .i64 0, .int .i64 0, .int .i64 0, .string ⟨#[]⟩, .string ⟨#[]⟩, .slice none 0 0, .slice none 0 0]) (by kernel_rfl) (by kernel_rfl) (by kernel_rfl) (by kernel_rfl) (fun c a w h => hQ c _ _ a w h) (Or.inl ⟨by rfl, (by intro w9 hSw; (try dsimp only at hSw); go_simp)⟩) (by assumption) ?_
 simp only [Act.put, List.setIfInBounds_toArray, List.set_cons_zero, List.set_cons_succ]
 refine wpAnyH_take (i := 1) (oi := { dst := some 54, op := Op.move (.tmp 6), type := 68, pos := "ref.go:103", after := #[{ on := 5, ground := .gcOnly .lateStores }], guard := none }) (v := .pointer (some ⟨pb, 0, none⟩)) (by kernel_rfl) (by kernel_rfl) (by kernel_rfl) (by kernel_rfl) (fun c a w h => hQ c _ _ a w h) (Or.inl ⟨by rfl, (by intro w9 hSw; (try dsimp only at hSw); go_simp)⟩) (by assumption) ?_
 simp only [Act.put, List.setIfInBounds_toArray, List.set_cons_zero, List.set_cons_succ]
 refine wpAnyH_take (i := 2) (oi := { dst := some 55, op := Op.nilCheck (.tmp 54), type := 0, pos := "ref.go:103", after := #[{ on := 1, ground := .data }, { on := 5, ground := .gcOnly .lateStores }], guard := none }) (v := .pointer (some ⟨pb, 0, none⟩)) (by kernel_rfl) (by kernel_rfl) (by kernel_rfl) (by kernel_rfl) (fun c a w h => hQ c _ _ a w h) (Or.inl ⟨by rfl, (by intro w9 hSw; (try dsimp only at hSw); go_simp)⟩) (by assumption) ?_
 simp only [Act.put, List.setIfInBounds_toArray, List.set_cons_zero, List.set_cons_succ]
 refine wpAnyH_take (i := 3) (oi := { dst := some 56, op := Op.fieldAddr 70 (.tmp 55) 3, type := 0, pos := "ref.go:103", after := #[{ on := 2, ground := .data }, { on := 5, ground := .gcOnly .lateStores }], guard := none }) (v := .pointer (some ⟨pb, 3, none⟩)) (by kernel_rfl) (by kernel_rfl) (by kernel_rfl) (by kernel_rfl) (fun c a w h => hQ c _ _ a w h) (Or.inl ⟨by rfl, (by intro w9 hSw; (try dsimp only at hSw); go_simp)⟩) (by assumption) ?_
 simp only [Act.put, List.setIfInBounds_toArray, List.set_cons_zero, List.set_cons_succ]
 refine wpAnyH_take (i := 4) (oi := { dst := some 57, op := Op.load 3 (.tmp 56), type := 3, pos := "ref.go:103", after := #[{ on := 3, ground := .data }, { on := 5, ground := .gcOnly .lateStores }], guard := none }) (v := .int .i64 E) (by kernel_rfl) (by kernel_rfl) (by kernel_rfl) (by kernel_rfl) (fun c a w h => hQ c _ _ a w h) (Or.inl ⟨by rfl, (by intro w9 hSw; (try dsimp only at hSw); go_simp)⟩) (by assumption) ?_
 simp only [Act.put, List.setIfInBounds_toArray, List.set_cons_zero, List.set_cons_succ]
 refine wpAnyH_all (rs := [5]) (by kernel_rfl) (by simp) (fun i hi => ?_)
 obtain rfl : i = 5 := by simpa using hi
 refine wpOp_K (o := { dst := none, op := Op.store 34 (.tmp 2) (.tmp 53), type := 0, pos := "ref.go:103", after := #[{ on := 0, ground := .data }, { on := 0, ground := .phase }, { on := 1, ground := .textOnly .lateStores }, { on := 2, ground := .textOnly .lateStores }, { on := 3, ground := .textOnly .lateStores }, { on := 4, ground := .textOnly .lateStores }], guard := none }) (by kernel_rfl) rfl (fun K hK => ?_)
 refine op_Sv (x := { kind := 0 }) (.tmp 2) (.tmp 53) rfl hbd hcs ?_ ?_ ?_
 ·rfl
 ·rfl
 intro wz fz bz
 have yz : wz.cell? ⟨pb, 3, none⟩ = some (.int .i64 E) := (fz.cell hlt hne 3).trans yd
 refine hK.out _ _ yz ?_
 simp only [Act.put, List.setIfInBounds_toArray, List.set_cons_zero, List.set_cons_succ]
 refine wpAnyH_take (i := 6) (oi := { dst := some 3, op := Op.assign (.tmp 57), type := 3, pos := "ref.go:103", after := #[{ on := 4, ground := .data }, { on := 5, ground := .chain }, { on := 0, ground := .phase }, { on := 1, ground := .phase }, { on := 2, ground := .phase }, { on := 3, ground := .phase }, { on := 4, ground := .phase }, { on := 5, ground := .phase }], guard := none }) (v := .int .i64 E) (by kernel_rfl) (by kernel_rfl) (by kernel_rfl) (by kernel_rfl) (fun c a w h => hQ c _ _ a w h) (Or.inl ⟨by rfl, (by intro w9 hSw; (try dsimp only at hSw); go_simp)⟩) (by assumption) ?_
 simp only [Act.put, List.setIfInBounds_toArray, List.set_cons_zero, List.set_cons_succ]
 refine wpAnyH_done (by kernel_rfl) ?_ _
 have fz' : Frm (fun k => k = g) w wz := (Frm.of_below (F := fun k => k = g) (Below.refl _ _).drew).trans fz (fun k hk => .inl hk)
 exact h wz fz' bz
end Go.Proofs.YtofnkfjhmjecjaaGreatDoor
