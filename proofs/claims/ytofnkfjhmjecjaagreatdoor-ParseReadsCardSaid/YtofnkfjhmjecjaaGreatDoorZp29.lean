/-
  Texts of mine put together, in build order.
  Conditions: as each declaration says.
-/
import Derived.Deep.CutBlock
import Derived.Deep.DeepCutAuto
import Derived.Test.YtofnkfjhmjecjaaGreatDoorZp27
namespace Go.Proofs.YtofnkfjhmjecjaaGreatDoor
set_option maxRecDepth 100000
open Go.RowKit Go.Joins Go.ChangeShapes Go.WideShapes Go.Great
set_option linter.unusedVariables false
set_option linter.unusedSimpArgs false
theorem push_bx {α β : Type} {E : EK Tryz.prog α β} {X : Bl} {w0 w2 w' : World} {pb g : Nat} {ts : List Tk} {d : DS} {c : Value → Array Value} {v : Value} {xs : List α} {x : XSt} {y : α} (h : SmS E X w0 w2 pb g ts d c v xs x) (hgr : (w2.alloc (.cells (E.cells [y]).toArray E.te)).grownBy w' v.ownBlock) {k : Nat} (hk : X k) {cs : Array Value} {T : TypeId} (hb : Bx w2 k cs T) (f : Nat) (v' : Value) : Bx (w'.setCell ⟨g, f, none⟩ v') k cs T := by
 have b3 : Below w2.heap.size w2 (w2.alloc (.cells (E.cells [y]).toArray E.te)) := (Below.refl _ _).alloc (Nat.le_refl _) _
 have f1 : Frm (fun k => v.ownBlock = some k) (w2.alloc (.cells (E.cells [y]).toArray E.te)) w' := (Frm.refl _ _).grown hgr (fun k hk => .inl hk)
 exact ((hb.below b3).frm f1 (fun e => (h.xg k hk).2.2 e)).frm (Frm.set1 (F := fun k => k = g) w' rfl f v') (fun e => by have := (h.xg k hk).1; omega)
theorem bx_on {w : World} {g : Nat} {T : TypeId} {u0 u1 u2 u3 u4 u5 u6 u7 u8 : Value} (hb : Bx w g #[u0, u1, u2, u3, u4, u5, u6, u7, u8] T) (op kind num scale : Int) (text qual : ByteArray) (a : Option Addr) (cap : Nat) (args : List XE) :
  Bx (stL w g 2 (XE.enc (.mk op kind num scale text qual a cap args))) g #[u0, u1, .int .i64 op, .slice a args.length cap, .int .i64 kind, .int .i64 num, .int .i64 scale, .string text, .string qual] T := by
 have h0 : Bx _ g #[u0, u1, .int .i64 op, u3, u4, u5, u6, u7, u8] T := box_set hb 2 (.int .i64 op)
 have h1 : Bx _ g #[u0, u1, .int .i64 op, .slice a args.length cap, u4, u5, u6, u7, u8] T := box_set h0 3 (.slice a args.length cap)
 have h2 : Bx _ g #[u0, u1, .int .i64 op, .slice a args.length cap, .int .i64 kind, u5, u6, u7, u8] T := box_set h1 4 (.int .i64 kind)
 have h3 : Bx _ g #[u0, u1, .int .i64 op, .slice a args.length cap, .int .i64 kind, .int .i64 num, u6, u7, u8] T := box_set h2 5 (.int .i64 num)
 have h4 : Bx _ g #[u0, u1, .int .i64 op, .slice a args.length cap, .int .i64 kind, .int .i64 num, .int .i64 scale, u7, u8] T := box_set h3 6 (.int .i64 scale)
 have h5 : Bx _ g #[u0, u1, .int .i64 op, .slice a args.length cap, .int .i64 kind, .int .i64 num, .int .i64 scale, .string text, u8] T := box_set h4 7 (.string text)
 exact box_set h5 8 (.string qual)
abbrev z0 : XE := .mk 0 0 0 0 ⟨#[]⟩ ⟨#[]⟩ none 0 []
theorem leaf_z0 (K : Bl) (w : World) : XE.Mem K w z0 := XE.Mem.leaf K w 0 0 0 0 ⟨#[]⟩ ⟨#[]⟩
theorem sok_z0 (K : Bl) (w : World) (t a : List Nat) : sok.Mem K w (t, a, z0) := leaf_z0 K w
theorem srcs_i {ts : List Tk} {sj e0 e1 : DS} {b : Bool} (h0 : dGot ts 1 wInner sj = (b, e0)) (h1 : dMust ts 1 wJoin e0 = e1) (hc : dIs ts 1 wInner sj = true ∨ dIs ts 1 wJoin sj = true) : e1.opn = sj.opn ∧ sj.i + 1 ≤ e1.i ∧ sj.i < ts.length := by
 unfold dGot at h0
 by_cases c : dIs ts 1 wInner sj = true
 ·rw [if_pos c] at h0
  injection h0 with h2 h3
  subst h3 h1
  have := dMust_opn ts 1 wJoin sj.next
  exact ⟨this.1, this.2.1, dIs_lt c⟩
 ·rw [if_neg c] at h0
  injection h0 with h2 h3
  subst h3
  have hj : dIs ts 1 wJoin sj = true := hc.resolve_left c
  unfold dMust at h1
  rw [if_pos hj] at h1
  subst h1
  exact ⟨rfl, Nat.le_refl _, dIs_lt hj⟩
set_option maxHeartbeats 16000000 in
theorem query_d {w : World} {s : DS} {ts : List Tk} {pb n : Nat} {r : Stm × DS} (h : DsM w pb ts s) (ho : s.opn = 0) (hr : dQuery ts n s = some r) :
  Calls Tryz.prog 53 #[.pointer (some ⟨pb, 0, none⟩)] w (EndV w pb ts r) := by
 generalize hP : EndV w pb ts r = P
 have HP := Lib.hid hP
 have hsp := SmP.start h
 obtain ⟨w1, hw1⟩ : ∃ w1, w.alloc (.cells zst 34) = w1 := ⟨_, rfl⟩
 rw [hw1] at hsp
 have HS1 := Lib.hid hsp
 unfold zst at hw1
 clear hsp hP h
 unfold dQuery at hr
 obtain ⟨ri, d1, hit, hez⟩ := bindO_some hr
 clear hr
 have hr := hez
 clear hez
 have HR := Lib.hid hr
 have HOP0 := Lib.hid ho
 clear hr ho
 unfold dItems at hit
 obtain ⟨bs, d0, hst⟩ : ∃ b d, dGot ts 5 [42] s = (b, d) := ⟨_, _, rfl⟩
 have HSTAR := Lib.hid hst
 have hgo := dGot_opn ts 5 [42] s
 rw [hst] at hgo
 have HOP := Lib.hid (show d0.opn = 0 by rw [hgo.1]; exact HOP0.out)
 have hit2 : (if bs = true then some ([], d0) else dLs ts (dItem ts n) 50 n [] d0) = some (ri, d1) := by
  unfold dGot at hst
  by_cases c : dIs ts 5 [42] s = true
  ·rw [if_pos c] at hst hit
   injection hst with e1 e2
   subst e1 e2
   exact hit
  ·rw [if_neg c] at hst hit
   injection hst with e1 e2
   subst e1 e2
   exact hit
 have HIT := Lib.hid hit2
 clear hit hit2 hst hgo
 go_enter Tryz.func53, Tryz.ntmps53
 go_upto_if 10 with (first | (refine wpSv (x := { kind := 6 }) rfl _ _ rfl (Bx.new w1 zst 34) rfl rfl rfl ?_; intro w2 f2 b2; have HF2 := Lib.hid (HS1.out.made f2 b2 (memz _ _ nl nl nl nl nl nx nl nl)); clear f2 b2) | (go_at_call 48; refine (got_n HF2.out.dp.ds 5 5 rfl [42] (by decide) HSTAR.out).mono ?_; rintro e w3 ⟨rfl, s3⟩; have HF3 := Lib.hid (HF2.out.step s3); clear s3))
 go_cut [4] (fun q wx => Hid (∃ y : XL (XE × List Nat), y.xs.map itk.er = ri ∧ SmF w wx pb w1.heap.size ts d1 { kind := 6, items := y } ∧ d1.opn = 0))
 case first =>
  cases bs with
  | true =>
   have hit := HIT.out
   rw [if_pos rfl] at hit
   injection hit with hit
   injection hit with e1 e2
   subst e1 e2
   clear HIT
   go_wp2_with fail
   go_meet
   exact Lib.hid ⟨⟨none, 0, []⟩, rfl, HF3.out, HOP.out⟩
  | false =>
   have hit := HIT.out
   rw [if_neg (by decide)] at hit
   have HLI := Lib.hid hit
   clear HIT hit
   go_wp2_with fail
   go_loopw [4] (fun _ wr => ∃ (k : Nat), Hid (∃ (sj : DS) (v : Value) (xs : List (XE × List Nat)), dLs ts (dItem ts n) 50 k (xs.map itk.er) sj = some (ri, d1) ∧ SmS itk NX w wr pb w1.heap.size ts sj (fun v => #[.int .i64 6, .string ⟨#[]⟩, .string ⟨#[]⟩, .slice none 0 0, .slice none 0 0, .bool false, .slice none 0 0, v, .slice none 0 0, .int .i64 0, .slice none 0 0, .int .i64 0, .int .i64 0, .int .i64 0, .string ⟨#[]⟩, .string ⟨#[]⟩, .slice none 0 0, .slice none 0 0] : Value → Array Value) v xs { kind := 6 } ∧ sj.opn = 0 ∧ xs.length < 50)) (fun _ wr => dlen wr pb)
   case atStart => exact ⟨n, Lib.hid ⟨d0, _, [], HLI.out, HF3.out.grow rfl, HOP.out, by simp⟩⟩
   case round =>
    obtain ⟨wo, hwo⟩ : ∃ wo, wo = wr := ⟨wr, rfl⟩
    subst hwo
    obtain ⟨k, HJ⟩ := hrel
    obtain ⟨sj, v, xs, hls, hsm, hjo, hxl⟩ := HJ.out
    obtain ⟨k, rfl⟩ : ∃ k', k = k' + 1 := by
     cases k with
     | zero => rw [dLs] at hls; cases hls
     | succ k => exact ⟨k, rfl⟩
    rw [dLs] at hls
    have hdl := hsm.dp.ds.dlen
    have HDL := Lib.hid hdl
    obtain ⟨aq, capq, hbq, -⟩ := hsm.dp.ds.hd
    obtain ⟨⟨-, -, -, y3, -⟩, -⟩ := hbq.five
    obtain ⟨va, vc, rfl, hvc1, hvc2⟩ := hsm.own.sl
    obtain ⟨q, hq⟩ : ∃ q, xs.length = q := ⟨_, rfl⟩
    have HQ := Lib.hid hq
    rw [List.length_map, hq] at hls
    rw [hq] at hsm hxl
    have HSM := Lib.hid hsm
    have HJO := Lib.hid (And.intro hjo hxl)
    clear hsm hdl hbq hjo hxl HJ hq hvc1 hvc2
    by_cases he : sj.e = 0
    case neg =>
     have q0 : ((sj.e : Int) == 0) = false := by simp; omega
     rw [if_pos he] at hls
     obtain ⟨hrr, hdd⟩ := some_pair hls
     clear hls
     subst hdd
     clear he
     obtain ⟨y, -, hyx, hF⟩ := HSM.out.done (fun y => ({ kind := 6, items := y } : XSt)) (fun y => rfl) (fun y hy ho => ⟨ho.cols, ho.names, ho.rows, hy, ho.src, ho.whr, ho.order, ho.sets⟩)
     have HFX := Lib.hid hF
     have HYX := Lib.hid (show y.xs.map itk.er = ri by rw [hyx]; exact hrr)
     clear hF hyx hrr
     go_wp2_with fail
     go_meet
     exact Lib.hid ⟨y, HYX.out, HFX.out, HJO.out.1⟩
    rw [if_neg (fun e => e he)] at hls
    rw [he] at y3
    obtain ⟨it1, s1, hen, hlz⟩ := bindO_some hls
    clear hls
    have hls := hlz
    clear hlz
    unfold dItem at hen
    obtain ⟨ex, s2, hwx, hez⟩ := bindO_some hen
    clear hen
    have hen := hez
    clear hez
    obtain ⟨al, s3, hal⟩ : ∃ a d, dAlias ts s2 = (a, d) := ⟨_, _, rfl⟩
    rw [hal] at hen
    replace hen : some ((⟨ex, al⟩ : Ite), s3) = some (it1, s1) := hen
    obtain ⟨e1, e2⟩ := some_pair hen
    clear hen
    subst e1 e2
    obtain ⟨m, hm⟩ : ∃ m, q + 1 = m := ⟨_, rfl⟩
    have HM := Lib.hid hm
    rw [hm] at hls
    obtain ⟨b, d8, hmo⟩ : ∃ b d, dMore ts m 50 s3 = (b, d) := ⟨_, _, rfl⟩
    rw [hmo] at hls
    dsimp only at hls
    have HMO := Lib.hid hmo
    have hmr := dMore_opn ts m 50 s3
    rw [hmo] at hmr
    dsimp only at hmr
    have HMR := Lib.hid hmr
    clear hm hmo hmr
    have hao := dAlias_opn ts s2
    rw [hal] at hao
    dsimp only at hao
    have HAO := Lib.hid hao
    have HWX := Lib.hid hwx
    have HAL := Lib.hid hal
    clear hwx hal hao he

    cases b with
    | true =>
     rw [if_pos rfl] at hls
     have HLS2 := Lib.hid hls
     have HMT := Lib.hid (HMR.out.2.2 rfl)
     clear hls
     go_wp2_with (first | (go_at_call 54; refine (whole_n HSM.out.dp.ds HJO.out.1 HWX.out).mono ?_; rintro e w4 ⟨x, rfl, hxe, hxm, s4, ho4, hi4⟩; have HXE := Lib.hid hxe; have HI4 := Lib.hid (And.intro ho4 hi4); have HXM := Lib.hid hxm; have HS4 := Lib.hid s4; clear hxe hxm s4 ho4 hi4; obtain ⟨op2, kind2, num2, scale2, text2, qual2, a2, cap2, args2⟩ := x; simp only [XE.val]) | (refine wpSe itk (x := ((XE.mk op2 kind2 num2 scale2 text2 qual2 a2 cap2 args2), [])) rfl _ _ rfl rfl (Bx.new w4 #[.int .i64 0, .slice none 0 0, .int .i64 0, .int .i64 0, .int .i64 0, .string ⟨#[]⟩, .string ⟨#[]⟩, .string ⟨#[]⟩] 50) rfl rfl rfl ?_; intro w5 f5 b5; have HE5 := Lib.hid (ElS.made HS4.out HSM.out.dp.ds.lt f5 b5 HXM.out); clear f5 b5) | (go_at_call 125; refine (alias_n HE5.out.dp.ds HAL.out).mono ?_; rintro e w6 ⟨rfl, s6⟩; have HE6 := Lib.hid (HE5.out.step s6); have z6 : w6.cell? ⟨w4.heap.size, 7, none⟩ = some (.string ⟨#[]⟩) := HE6.out.bx.cell rfl; have f6 : w6.frozen? ⟨w4.heap.size, 7, none⟩ = false := HE6.out.bx.frz 7; have he7 := HE6.out.set ((XE.mk op2 kind2 num2 scale2 text2 qual2 a2 cap2 args2), al) 7 (.string (strB al)) rfl HE6.out.mm; obtain ⟨W7, hW7⟩ : ∃ W7, w6.setCell ⟨w4.heap.size, 7, none⟩ (.string (strB al)) = W7 := ⟨_, rfl⟩; rw [hW7] at he7; have HE7 := Lib.hid he7; clear s6 he7; have HSE := Lib.hid (HSM.out.step HE7.out.dp); have hye := itk.mono (K' := fun k => w1.heap.size < k ∧ Value.ownBlock (.slice va q vc) ≠ some k ∧ ¬ NX k) (fun k hk => ⟨by have h1 := HSM.out.bx.lt; have h2 := hk.1; omega, fun e => by have h1 := (HSM.out.own.lt e).2.1; have h2 := hk.1; omega, id⟩) _ HE7.out.mm; have HPU := Lib.hid (fun v' w' => SmS.push (E := itk) (f := 7) (y := ((XE.mk op2 kind2 num2 scale2 text2 qual2 a2 cap2 args2), al)) (v' := v') (w' := w') HSE.out hye); have HOW := Lib.hid (HSE.out.own.below ((Below.refl W7.heap.size W7).alloc (Nat.le_refl _) (.cells (itk.cells [((XE.mk op2 kind2 num2 scale2 text2 qual2 a2 cap2 args2), al)]).toArray itk.te))); have HNW := Lib.hid (OwR.made_cells (K := itk.toRK) W7 [((XE.mk op2 kind2 num2 scale2 text2 qual2 a2 cap2 args2), al)]); have z10 : W7.cell? ⟨w1.heap.size, 7, none⟩ = some (.slice va q vc) := HSE.out.bx.cell rfl; clear hye) | (refine wpLe itk Tryz.underlying50 rfl rfl _ rfl (x := ((XE.mk op2 kind2 num2 scale2 text2 qual2 a2 cap2 args2), al)) rfl HE7.out.bx rfl ?_; simp only [itk]) | (at_builtin; refine OwR.wp (K := itk.toRK) rfl _ _ rfl (w1.heap.size + 1) (.slice va q vc) xs rfl HOW.out (by have := HSE.out.bx.lt; simp; omega) ⟨W7.heap.size, 0, none⟩ 1 1 [((XE.mk op2 kind2 num2 scale2 text2 qual2 a2 cap2 args2), al)] rfl rfl HNW.out (by have := HQ.out; have := HJO.out.2; omega) ?_; intro v9 w9 o9 g9 n9; have hpu := HPU.out v9 w9 o9 g9 n9 rfl; obtain ⟨a9, c9, e9, hc1, hc2⟩ := o9.sl; rw [List.length_append, List.length_singleton, HQ.out, HM.out] at e9; subst e9; have HZ9 := Lib.hid hpu.1; have z9 : w9.cell? ⟨w1.heap.size, 7, none⟩ = some (.slice va q vc) := HZ9.out.cell rfl; have f9 : w9.frozen? ⟨w1.heap.size, 7, none⟩ = false := HZ9.out.frz 7; obtain ⟨W11, hW11⟩ : ∃ W11, w9.setCell ⟨w1.heap.size, 7, none⟩ (.slice a9 m c9) = W11 := ⟨_, rfl⟩; have hs := hpu.2; rw [hW11] at hs; have HS11 := Lib.hid hs; have z11 : W11.cell? ⟨w1.heap.size, 7, none⟩ = some (.slice a9 m c9) := HS11.out.bx.cell rfl; clear hpu o9 g9 n9 hs) | (go_at_call 55; refine (more_n HS11.out.dp.ds m 50 50 rfl HMO.out).mono ?_; rintro e w12 ⟨rfl, s12⟩; have HS12 := Lib.hid (HS11.out.step s12); clear s12))
     refine ⟨?_, ?_⟩
     ·(repeat apply Exists.intro)
      refine ⟨⟨k, Lib.hid ⟨d8, _, xs ++ [((XE.mk op2 kind2 num2 scale2 text2 qual2 a2 cap2 args2), al)], ?_, HS12.out, ?_, ?_⟩⟩, rfl⟩
      ·rw [List.map_append, List.map_cons, List.map_nil, show itk.er ((XE.mk op2 kind2 num2 scale2 text2 qual2 a2 cap2 args2), al) = ⟨ex, al⟩ by (show (⟨_, _⟩ : Ite) = _; rw [show XE.er (XE.mk op2 kind2 num2 scale2 text2 qual2 a2 cap2 args2) = ex from HXE.out])]; exact HLS2.out
      ·rw [HMR.out.1]; exact by rw [HAO.out.1]; exact HI4.out.1
      ·rw [List.length_append, List.length_singleton, HQ.out, HM.out]
       have h1 := HMT.out.2.2
       have h2 := HM.out
       have h3 := HJO.out.2
       omega
     ·rw [HS12.out.dp.ds.dlen, HDL.out]
      have h1 := HMT.out
      have h2 := Nat.le_trans HI4.out.2 HAO.out.2
      omega
    | false =>
     rw [if_neg (by decide)] at hls
     have HLS2 := Lib.hid hls
     clear hls
     go_wp2_with (first | (go_at_call 54; refine (whole_n HSM.out.dp.ds HJO.out.1 HWX.out).mono ?_; rintro e w4 ⟨x, rfl, hxe, hxm, s4, ho4, hi4⟩; have HXE := Lib.hid hxe; have HI4 := Lib.hid (And.intro ho4 hi4); have HXM := Lib.hid hxm; have HS4 := Lib.hid s4; clear hxe hxm s4 ho4 hi4; obtain ⟨op2, kind2, num2, scale2, text2, qual2, a2, cap2, args2⟩ := x; simp only [XE.val]) | (refine wpSe itk (x := ((XE.mk op2 kind2 num2 scale2 text2 qual2 a2 cap2 args2), [])) rfl _ _ rfl rfl (Bx.new w4 #[.int .i64 0, .slice none 0 0, .int .i64 0, .int .i64 0, .int .i64 0, .string ⟨#[]⟩, .string ⟨#[]⟩, .string ⟨#[]⟩] 50) rfl rfl rfl ?_; intro w5 f5 b5; have HE5 := Lib.hid (ElS.made HS4.out HSM.out.dp.ds.lt f5 b5 HXM.out); clear f5 b5) | (go_at_call 125; refine (alias_n HE5.out.dp.ds HAL.out).mono ?_; rintro e w6 ⟨rfl, s6⟩; have HE6 := Lib.hid (HE5.out.step s6); have z6 : w6.cell? ⟨w4.heap.size, 7, none⟩ = some (.string ⟨#[]⟩) := HE6.out.bx.cell rfl; have f6 : w6.frozen? ⟨w4.heap.size, 7, none⟩ = false := HE6.out.bx.frz 7; have he7 := HE6.out.set ((XE.mk op2 kind2 num2 scale2 text2 qual2 a2 cap2 args2), al) 7 (.string (strB al)) rfl HE6.out.mm; obtain ⟨W7, hW7⟩ : ∃ W7, w6.setCell ⟨w4.heap.size, 7, none⟩ (.string (strB al)) = W7 := ⟨_, rfl⟩; rw [hW7] at he7; have HE7 := Lib.hid he7; clear s6 he7; have HSE := Lib.hid (HSM.out.step HE7.out.dp); have hye := itk.mono (K' := fun k => w1.heap.size < k ∧ Value.ownBlock (.slice va q vc) ≠ some k ∧ ¬ NX k) (fun k hk => ⟨by have h1 := HSM.out.bx.lt; have h2 := hk.1; omega, fun e => by have h1 := (HSM.out.own.lt e).2.1; have h2 := hk.1; omega, id⟩) _ HE7.out.mm; have HPU := Lib.hid (fun v' w' => SmS.push (E := itk) (f := 7) (y := ((XE.mk op2 kind2 num2 scale2 text2 qual2 a2 cap2 args2), al)) (v' := v') (w' := w') HSE.out hye); have HOW := Lib.hid (HSE.out.own.below ((Below.refl W7.heap.size W7).alloc (Nat.le_refl _) (.cells (itk.cells [((XE.mk op2 kind2 num2 scale2 text2 qual2 a2 cap2 args2), al)]).toArray itk.te))); have HNW := Lib.hid (OwR.made_cells (K := itk.toRK) W7 [((XE.mk op2 kind2 num2 scale2 text2 qual2 a2 cap2 args2), al)]); have z10 : W7.cell? ⟨w1.heap.size, 7, none⟩ = some (.slice va q vc) := HSE.out.bx.cell rfl; clear hye) | (refine wpLe itk Tryz.underlying50 rfl rfl _ rfl (x := ((XE.mk op2 kind2 num2 scale2 text2 qual2 a2 cap2 args2), al)) rfl HE7.out.bx rfl ?_; simp only [itk]) | (at_builtin; refine OwR.wp (K := itk.toRK) rfl _ _ rfl (w1.heap.size + 1) (.slice va q vc) xs rfl HOW.out (by have := HSE.out.bx.lt; simp; omega) ⟨W7.heap.size, 0, none⟩ 1 1 [((XE.mk op2 kind2 num2 scale2 text2 qual2 a2 cap2 args2), al)] rfl rfl HNW.out (by have := HQ.out; have := HJO.out.2; omega) ?_; intro v9 w9 o9 g9 n9; have hpu := HPU.out v9 w9 o9 g9 n9 rfl; obtain ⟨a9, c9, e9, hc1, hc2⟩ := o9.sl; rw [List.length_append, List.length_singleton, HQ.out, HM.out] at e9; subst e9; have HZ9 := Lib.hid hpu.1; have z9 : w9.cell? ⟨w1.heap.size, 7, none⟩ = some (.slice va q vc) := HZ9.out.cell rfl; have f9 : w9.frozen? ⟨w1.heap.size, 7, none⟩ = false := HZ9.out.frz 7; obtain ⟨W11, hW11⟩ : ∃ W11, w9.setCell ⟨w1.heap.size, 7, none⟩ (.slice a9 m c9) = W11 := ⟨_, rfl⟩; have hs := hpu.2; rw [hW11] at hs; have HS11 := Lib.hid hs; have z11 : W11.cell? ⟨w1.heap.size, 7, none⟩ = some (.slice a9 m c9) := HS11.out.bx.cell rfl; clear hpu o9 g9 n9 hs) | (go_at_call 55; refine (more_n HS11.out.dp.ds m 50 50 rfl HMO.out).mono ?_; rintro e w12 ⟨rfl, s12⟩; have HS12 := Lib.hid (HS11.out.step s12); clear s12))
     have hls := HLS2.out
     obtain ⟨hrr, hdd⟩ := some_pair hls
     clear hls
     subst hdd
     have hrr : (xs ++ [((XE.mk op2 kind2 num2 scale2 text2 qual2 a2 cap2 args2), al)]).map itk.er = ri := by rw [List.map_append, List.map_cons, List.map_nil, show itk.er ((XE.mk op2 kind2 num2 scale2 text2 qual2 a2 cap2 args2), al) = ⟨ex, al⟩ by (show (⟨_, _⟩ : Ite) = _; rw [show XE.er (XE.mk op2 kind2 num2 scale2 text2 qual2 a2 cap2 args2) = ex from HXE.out])]; exact hrr
     obtain ⟨y, -, hyx, hF⟩ := HS12.out.done (fun y => ({ kind := 6, items := y } : XSt)) (fun y => rfl) (fun y hy ho => ⟨ho.cols, ho.names, ho.rows, hy, ho.src, ho.whr, ho.order, ho.sets⟩)
     have HFX := Lib.hid hF
     have HYX := Lib.hid (show y.xs.map itk.er = ri by rw [hyx]; exact hrr)
     clear hF hyx hrr
     go_wp2_with fail
     go_meet
     exact Lib.hid ⟨y, HYX.out, HFX.out, (by rw [HMR.out.1]; exact by rw [HAO.out.1]; exact HI4.out.1)⟩
 case rest =>
  obtain ⟨y1, hy1, hF, ho1⟩ := hcut.out
  have HFc := Lib.hid hF
  have HY1 := Lib.hid hy1
  have HO1 := Lib.hid ho1
  clear hcut hF hy1 ho1 HSTAR HOP HIT HS1
  obtain ⟨d2, hd2⟩ : ∃ d, dMust ts 1 wFrom d1 = d := ⟨_, rfl⟩
  obtain ⟨t0, dA, hdA⟩ : ∃ a d, dName ts d2 = (a, d) := ⟨_, _, rfl⟩
  obtain ⟨al0, d3, hd3⟩ : ∃ a d, dAlias ts dA = (a, d) := ⟨_, _, rfl⟩
  have hr : bindO (dSrcs ts n n [⟨(dName ts (dMust ts 1 wFrom d1)).1, (dAlias ts (dName ts (dMust ts 1 wFrom d1)).2).1, zE⟩] (dAlias ts (dName ts (dMust ts 1 wFrom d1)).2).2) (fun fs d4 => bindO (dWhere ts n d4) fun e d5 => bindO (dOrder ts n d5) fun o d6 => some (({ kind := 6, items := ri, src := fs, whr := e, order := o } : Stm), d6)) = some r := HR.out
  rw [hd2, hdA] at hr
  dsimp only at hr
  rw [hd3] at hr
  dsimp only at hr
  obtain ⟨fs, d4, hsr, hr2⟩ := bindO_some hr
  clear hr
  obtain ⟨ew, d5, hwh, hr3⟩ := bindO_some hr2
  clear hr2
  obtain ⟨oo, d6, hor, hr4⟩ := bindO_some hr3
  clear hr3
  have HRR := Lib.hid (show (({ kind := 6, items := ri, src := fs, whr := ew, order := oo } : Stm), d6) = r from Option.some.inj hr4)
  have HSR := Lib.hid hsr
  have HWH := Lib.hid hwh
  have HOR := Lib.hid hor
  have hop3 : d3.opn = 0 := by
   have h1 := (dAlias_opn ts dA).1
   have h2 := (dName_opn ts d2).1
   have h3 := (dMust_opn ts 1 wFrom d1).1
   rw [hd3] at h1
   rw [hdA] at h2
   rw [hd2] at h3
   dsimp only at h1 h2
   rw [h1, h2, h3]
   exact HO1.out
  have HOP3 := Lib.hid hop3
  have HD2 := Lib.hid hd2
  have HDA := Lib.hid hdA
  have HD3 := Lib.hid hd3
  clear hr4 hsr hwh hor hd2 hdA hd3 hop3 HR
  go_upto_block 2 with (first | (go_at_call 51; refine (must_n HFc.out.dp.ds 1 1 rfl wFrom (by decide) HD2.out).mono ?_; rintro e w3 ⟨rfl, s3⟩; have HF3 := Lib.hid (HFc.out.step s3); clear s3 HFc HD2) | (go_at_call 50; refine (name_n HF3.out.dp.ds HDA.out).mono ?_; rintro e w4 ⟨rfl, s4⟩; have HF4 := Lib.hid (HF3.out.step s4); clear s4 HF3) | (refine wpSe sok (x := (t0, [], z0)) rfl _ _ rfl rfl (Bx.new w4 #[.string ⟨#[]⟩, .string ⟨#[]⟩, .int .i64 0, .slice none 0 0, .int .i64 0, .int .i64 0, .int .i64 0, .string ⟨#[]⟩, .string ⟨#[]⟩] 52) rfl rfl rfl ?_; intro w5 f5 b5; have HE5 := Lib.hid (show ElS sok w4 w5 pb w4.heap.size ts dA (t0, [], z0) from ElS.made (Dp.refl HF4.out.dp.ds) HF4.out.dp.ds.lt f5 b5 (sok_z0 _ _ _ _)); clear f5 b5) | (go_at_call 125; refine (alias_n HE5.out.dp.ds HD3.out).mono ?_; rintro e w6 ⟨rfl, s6⟩; have HE6 := Lib.hid (HE5.out.step s6); have z6 : w6.cell? ⟨w4.heap.size, 1, none⟩ = some (.string ⟨#[]⟩) := HE6.out.bx.cell rfl; have f6 : w6.frozen? ⟨w4.heap.size, 1, none⟩ = false := HE6.out.bx.frz 1; have he7 := HE6.out.set (t0, al0, z0) 1 (.string (strB al0)) rfl HE6.out.mm; obtain ⟨W7, hW7⟩ : ∃ W7, w6.setCell ⟨w4.heap.size, 1, none⟩ (.string (strB al0)) = W7 := ⟨_, rfl⟩; rw [hW7] at he7; have HE7 := Lib.hid he7; clear s6 he7; have HSX := Lib.hid (show SmS sok (fun k => k = w4.heap.size) w W7 pb w1.heap.size ts d3 (fun v => #[.int .i64 6, .string ⟨#[]⟩, .string ⟨#[]⟩, .slice none 0 0, .slice none 0 0, .bool false, .slice none 0 0, y1.val, v, .int .i64 0, .slice none 0 0, .int .i64 0, .int .i64 0, .int .i64 0, .string ⟨#[]⟩, .string ⟨#[]⟩, .slice none 0 0, .slice none 0 0] : Value → Array Value) (.slice none 0 0) [] { kind := 6, items := y1 } from SmF.growX HF4.out HE7.out.dp (Nat.le_refl _) HE7.out.bx.lt rfl); have hml : sok.Mem (fun k => w1.heap.size < k ∧ Value.ownBlock (.slice none 0 0) ≠ some k ∧ ¬ (fun k => k = w4.heap.size) k) W7 (t0, al0, z0) := sok_z0 _ _ _ _; have HPU := Lib.hid (fun v9 w9 => SmS.push (E := sok) (f := 8) (y := (t0, al0, z0)) (v' := v9) (w' := w9) HSX.out hml); clear hml; have HOW := Lib.hid (HSX.out.own.below ((Below.refl W7.heap.size W7).alloc (Nat.le_refl _) (.cells (sok.cells [(t0, al0, z0)]).toArray sok.te))); have HNW := Lib.hid (OwR.made_cells (K := sok.toRK) W7 [(t0, al0, z0)]); have z10 : W7.cell? ⟨w1.heap.size, 8, none⟩ = some (.slice none 0 0) := HSX.out.bx.cell rfl) | (refine wpLe sok Tryz.underlying52 rfl rfl _ rfl (x := (t0, al0, z0)) rfl HE7.out.bx rfl ?_; simp only [sok]) | (at_builtin; refine OwR.wp (K := sok.toRK) rfl _ _ rfl (w1.heap.size + 1) (.slice none 0 0) [] rfl HOW.out (by have := HSX.out.bx.lt; simp; omega) ⟨W7.heap.size, 0, none⟩ 1 1 [(t0, al0, z0)] rfl rfl HNW.out (by simp) ?_; intro v9 w9 o9 g9 n9; have hpu := HPU.out v9 w9 o9 g9 n9 rfl; have hpb := push_bx (y := (t0, al0, z0)) HSX.out g9 (k := w4.heap.size) rfl HE7.out.bx 8 v9; obtain ⟨a9, c9, e9, hc1, hc2⟩ := o9.sl; have e9 : v9 = .slice a9 1 c9 := e9; subst e9; have HZ9 := Lib.hid hpu.1; have z9 : w9.cell? ⟨w1.heap.size, 8, none⟩ = some (.slice none 0 0) := HZ9.out.cell rfl; have f9 : w9.frozen? ⟨w1.heap.size, 8, none⟩ = false := HZ9.out.frz 8; obtain ⟨W11, hW11⟩ : ∃ W11, w9.setCell ⟨w1.heap.size, 8, none⟩ (.slice a9 1 c9) = W11 := ⟨_, rfl⟩; have hs := hpu.2; rw [hW11] at hs hpb; have HS11 := Lib.hid hs; have HB11 := Lib.hid hpb; clear hpu o9 g9 n9 hs hpb))
  have HPH := Lib.hid (show pb < w4.heap.size from HF4.out.dp.ds.lt)
  have HNP := Lib.hid (show ¬ w4.heap.size = pb by have := HPH.out; omega)
  go_cut [5] (fun q wx => Hid (∃ y : XL (List Nat × List Nat × XE), y.xs.map sok.er = fs ∧ SmF w wx pb w1.heap.size ts d4 { kind := 6, items := y1, src := y } ∧ d4.opn = 0))
  case first =>
   go_wp2_with fail
   go_loopw [] (fun wr => ∃ (k : Nat), Hid (∃ (sj : DS) (v : Value) (xs : List (List Nat × List Nat × XE)) (cs : Array Value), dSrcs ts n k (xs.map sok.er) sj = some (fs, d4) ∧ SmS sok (fun k => k = w4.heap.size) w wr pb w1.heap.size ts sj (fun v => #[.int .i64 6, .string ⟨#[]⟩, .string ⟨#[]⟩, .slice none 0 0, .slice none 0 0, .bool false, .slice none 0 0, y1.val, v, .int .i64 0, .slice none 0 0, .int .i64 0, .int .i64 0, .int .i64 0, .string ⟨#[]⟩, .string ⟨#[]⟩, .slice none 0 0, .slice none 0 0] : Value → Array Value) v xs { kind := 6, items := y1 } ∧ Bx wr w4.heap.size cs 52 ∧ cs.size = 9 ∧ sj.opn = 0 ∧ xs.length ≤ 4)) (fun wr => dlen wr pb)
   case atStart =>
    have hm0 : List.map sok.er ([] ++ [(t0, al0, z0)]) = [⟨t0, al0, zE⟩] := by
     show [(⟨t0, al0, XE.er z0⟩ : Src)] = _
     rw [er0]
    exact ⟨n, Lib.hid ⟨d3, _, [] ++ [(t0, al0, z0)], _, by rw [hm0]; exact HSR.out, HS11.out, HB11.out, rfl, HOP3.out, by simp⟩⟩
   case round =>
    obtain ⟨wo, hwo⟩ : ∃ wo, wo = wr := ⟨wr, rfl⟩
    subst hwo
    obtain ⟨k, HJ⟩ := hrel
    obtain ⟨sj, v, xs, cs, hls, hsm, hbx, hcs, hjo, hxl⟩ := HJ.out
    obtain ⟨k, rfl⟩ : ∃ k', k = k' + 1 := by
     cases k with
     | zero => rw [dSrcs] at hls; cases hls
     | succ k => exact ⟨k, rfl⟩
    rw [dSrcs] at hls
    have hdl := hsm.dp.ds.dlen
    have HDL := Lib.hid hdl
    obtain ⟨va, vc, rfl, hvc1, hvc2⟩ := hsm.own.sl
    obtain ⟨q, hq⟩ : ∃ q, xs.length = q := ⟨_, rfl⟩
    have HQ := Lib.hid hq
    rw [List.length_map, hq] at hls
    rw [hq] at hsm hxl
    have HSM := Lib.hid hsm
    have HBX := Lib.hid hbx
    have HCS := Lib.hid (show cs.size = sok.n from hcs)
    have HJO := Lib.hid (And.intro hjo hxl)
    have HLL := Lib.hid hls
    clear hsm hdl hjo hxl HJ hq hvc1 hvc2 hls hbx hcs HS11 HB11 HPU HOW HNW HZ9 HSX HE7 HE5 HE6
    obtain ⟨c1, hc1⟩ : ∃ c, dIs ts 1 wInner sj = c := ⟨_, rfl⟩
    obtain ⟨c2, hc2⟩ : ∃ c, dIs ts 1 wJoin sj = c := ⟨_, rfl⟩
    have HC1 := Lib.hid hc1
    have HC2 := Lib.hid hc2
    clear hc1 hc2
    go_upto_region 12 with fail
    go_cut [53] (fun q wx => q = .bool (c1 || c2) ∧ Hid (Dp wo wx pb ts sj))
    case first =>
     cases c1 with
     | true =>
      go_wp2_with (first | (go_at_call 123; refine (is_n HSM.out.dp.ds 1 1 rfl wInner (by decide) HC1.out).mono ?_; rintro e w3z ⟨rfl, s3⟩; have HD3z := Lib.hid s3; clear s3))
      go_meet
      exact ⟨rfl, HD3z⟩
     | false =>
      go_wp2_with (first | (go_at_call 123; refine (is_n HSM.out.dp.ds 1 1 rfl wInner (by decide) HC1.out).mono ?_; rintro e w3z ⟨rfl, s3⟩; have HD3z := Lib.hid s3; clear s3 HC1) | (go_at_call 123; refine (is_n HD3z.out.ds 1 1 rfl wJoin (by decide) HC2.out).mono ?_; rintro e w4z ⟨rfl, s4⟩; have HD4z := Lib.hid (HD3z.out.trans s4); clear s4))
      go_meet
      exact ⟨rfl, HD4z⟩
    case rest =>
     obtain ⟨rfl, hd3z⟩ := hcut
     have HS3 := Lib.hid (HSM.out.step hd3z.out)
     have HB3 := Lib.hid (HBX.out.frm hd3z.out.fr HNP.out)
     have z3 : wc.cell? ⟨w1.heap.size, 8, none⟩ = some (.slice va q vc) := HS3.out.bx.cell rfl
     clear hd3z
     have hls := HLL.out
     rw [HC1.out, HC2.out] at hls
     obtain ⟨c, hc⟩ : ∃ c, (c1 || c2) = c := ⟨_, rfl⟩
     have hcc : (c1 = true ∨ c2 = true) ↔ c = true := by rw [← hc]; simp
     rw [hc]
     cases c with
     | false =>
      rw [if_neg (fun g => by have := hcc.1 g; cases this)] at hls
      obtain ⟨hrr, hdd⟩ := some_pair hls
      clear hls
      subst hdd
      clear hcc hc HLL
      obtain ⟨y, -, hyx, hF⟩ := HS3.out.done (fun y => ({ kind := 6, items := y1, src := y } : XSt)) (fun y => rfl) (fun y hy ho => ⟨ho.cols, ho.names, ho.rows, ho.items, hy, ho.whr, ho.order, ho.sets⟩)
      have HFX := Lib.hid hF
      have HYX := Lib.hid (show y.xs.map sok.er = fs by rw [hyx]; exact hrr)
      clear hF hyx hrr
      go_wp2_with fail
      go_meet
      exact Lib.hid ⟨y, HYX.out, HFX.out, HJO.out.1⟩
     | true =>
      rw [if_pos (hcc.2 rfl)] at hls
      have hce : dIs ts 1 wInner sj = true ∨ dIs ts 1 wJoin sj = true := by rw [HC1.out, HC2.out]; exact hcc.2 rfl
      have HCE := Lib.hid hce
      clear hcc hc HLL hce HC1 HC2
      by_cases hq4 : q = 4
      ·rw [if_pos hq4] at hls
       obtain ⟨hrr, hdd⟩ := some_pair hls
       clear hls
       have HDD := Lib.hid hdd
       have hq4' : ((q : Int) == 4) = true := by rw [hq4]; rfl
       have HRX := Lib.hid hrr
       clear hdd hrr hq4
       go_wp2_with (first | (go_at_call 24; refine (fail_n HS3.out.dp.ds 151 151 rfl (by decide) HDD.out).mono ?_; rintro e w4z ⟨rfl, s4⟩; have HS4 := Lib.hid (HS3.out.step s4); clear s4))
       have hrr := HRX.out
       obtain ⟨y, -, hyx, hF⟩ := HS4.out.done (fun y => ({ kind := 6, items := y1, src := y } : XSt)) (fun y => rfl) (fun y hy ho => ⟨ho.cols, ho.names, ho.rows, ho.items, hy, ho.whr, ho.order, ho.sets⟩)
       have HFX := Lib.hid hF
       have HYX := Lib.hid (show y.xs.map sok.er = fs by rw [hyx]; exact hrr)
       clear hF hyx hrr
       go_meet
       exact Lib.hid ⟨y, HYX.out, HFX.out, (by rw [← HDD.out, (dFail_opn 151 sj).1]; exact HJO.out.1)⟩
      ·rw [if_neg hq4] at hls
       have hq4' : ((q : Int) == 4) = false := by simp; omega
       obtain ⟨src1, s4, hmo, hl2⟩ := bindO_some hls
       clear hls
       obtain ⟨b0, e0, hg0⟩ : ∃ b d, dGot ts 1 wInner sj = (b, d) := ⟨_, _, rfl⟩
       obtain ⟨e1, hm1⟩ : ∃ d, dMust ts 1 wJoin e0 = d := ⟨_, rfl⟩
       obtain ⟨ts1, eA, hna⟩ : ∃ a d, dName ts e1 = (a, d) := ⟨_, _, rfl⟩
       obtain ⟨al1, e2, hal⟩ : ∃ a d, dAlias ts eA = (a, d) := ⟨_, _, rfl⟩
       obtain ⟨e3, hm3⟩ : ∃ d, dMust ts 1 wOn e2 = d := ⟨_, rfl⟩
       have hmo2 : bindO (dWhole ts n (dMust ts 1 wOn (dAlias ts (dName ts (dMust ts 1 wJoin (dGot ts 1 wInner sj).2)).2).2)) (fun e e4 => some ((⟨(dName ts (dMust ts 1 wJoin (dGot ts 1 wInner sj).2)).1, (dAlias ts (dName ts (dMust ts 1 wJoin (dGot ts 1 wInner sj).2)).2).1, e⟩ : Src), e4)) = some (src1, s4) := hmo
       clear hmo
       rw [hg0] at hmo2
       dsimp only at hmo2
       rw [hm1, hna] at hmo2
       dsimp only at hmo2
       rw [hal] at hmo2
       dsimp only at hmo2
       rw [hm3] at hmo2
       obtain ⟨ex, e4, hwx, hmo3⟩ := bindO_some hmo2
       clear hmo2
       obtain ⟨h5, h6⟩ := some_pair hmo3
       clear hmo3
       subst h5 h6
       have hsi := srcs_i hg0 hm1 HCE.out
       have hn1 := dName_opn ts e1
       rw [hna] at hn1
       have ha1 := dAlias_opn ts eA
       rw [hal] at ha1
       have hm2 := dMust_opn ts 1 wOn e2
       rw [hm3] at hm2
       dsimp only at hn1 ha1
       have HO3 := Lib.hid (show e3.opn = 0 by rw [hm2.1, ha1.1, hn1.1, hsi.1]; exact HJO.out.1)
       have HI3 := Lib.hid (show sj.i + 1 ≤ e3.i ∧ sj.i < ts.length from ⟨by have h1 := hm2.2.1; have h2 := ha1.2; have h3 := hn1.2; have h4 := hsi.2.1; omega, hsi.2.2⟩)
       have HG0 := Lib.hid hg0
       have HM1 := Lib.hid hm1
       have HNA := Lib.hid hna
       have HAL := Lib.hid hal
       have HM3 := Lib.hid hm3
       have HWX := Lib.hid hwx
       have HL2 := Lib.hid hl2
       have HQ4 := Lib.hid hq4
       clear hsi hn1 ha1 hm2 hg0 hm1 hna hal hm3 hwx hl2 hq4
       go_wp2_with (first | (go_at_call 48; refine (got_n HS3.out.dp.ds 1 1 rfl wInner (by decide) HG0.out).mono ?_; rintro e w4z ⟨rfl, s4⟩; have HS4 := Lib.hid (HS3.out.step s4); have HB4 := Lib.hid (HB3.out.frm s4.fr HNP.out); clear s4 HG0) | (go_at_call 51; refine (must_n HS4.out.dp.ds 1 1 rfl wJoin (by decide) HM1.out).mono ?_; rintro e w5z ⟨rfl, s5⟩; have HS5 := Lib.hid (HS4.out.step s5); have HB5 := Lib.hid (HB4.out.frm s5.fr HNP.out); clear s5 HM1) | (go_at_call 50; refine (name_n HS5.out.dp.ds HNA.out).mono ?_; rintro e w6z ⟨rfl, s6⟩; have HS6 := Lib.hid (HS5.out.step s6); have HB6 := Lib.hid (HB5.out.frm s6.fr HNP.out); clear s6) | (refine wpSe sok (x := (ts1, [], z0)) rfl _ _ rfl rfl HB6.out HCS.out rfl rfl ?_; intro w7z f7 b7; have HS7 := Lib.hid (HS6.out.frm f7 (fun k hk => .inr (.inl hk)) (HS6.out.dp.ds.frm f7 (fun k hk e => by have e1 : k = w4.heap.size := e; have := HPH.out; omega))); have HB7 := Lib.hid b7; clear f7 b7) | (go_at_call 125; refine (alias_n HS7.out.dp.ds HAL.out).mono ?_; rintro e w8z ⟨rfl, s8⟩; have HS8 := Lib.hid (HS7.out.step s8); have hb8 := HB7.out.frm s8.fr HNP.out; have z8 : w8z.cell? ⟨w4.heap.size, 1, none⟩ = some (.string ⟨#[]⟩) := hb8.cell rfl; have f8 : w8z.frozen? ⟨w4.heap.size, 1, none⟩ = false := hb8.frz 1; have hb9 : Bx (w8z.setCell ⟨w4.heap.size, 1, none⟩ (.string (strB al1))) w4.heap.size (sok.enc (ts1, al1, z0)).toArray 52 := box_set hb8 1 (.string (strB al1)); have f9z : Frm (fun k => k = w4.heap.size) w8z (w8z.setCell ⟨w4.heap.size, 1, none⟩ (.string (strB al1))) := Frm.set1 (F := fun k => k = w4.heap.size) w8z rfl 1 _; have hs9 := HS8.out.frm f9z (fun k hk => .inr (.inl hk)) (HS8.out.dp.ds.frm f9z (fun k hk e => by have e1 : k = w4.heap.size := e; have := HPH.out; omega)); obtain ⟨W9z, hW9z⟩ : ∃ W9, w8z.setCell ⟨w4.heap.size, 1, none⟩ (.string (strB al1)) = W9 := ⟨_, rfl⟩; rw [hW9z] at hb9 hs9; have HS9 := Lib.hid hs9; have HB9 := Lib.hid hb9; clear s8 hb8 hb9 hs9 f9z) | (go_at_call 51; refine (must_n HS9.out.dp.ds 1 1 rfl wOn (by decide) HM3.out).mono ?_; rintro e w10z ⟨rfl, s10⟩; have HS10 := Lib.hid (HS9.out.step s10); have HB10 := Lib.hid (HB9.out.frm s10.fr HNP.out); clear s10 HM3) | (go_at_call 54; refine (whole_n HS10.out.dp.ds HO3.out HWX.out).mono ?_; rintro e w11z ⟨x, rfl, hxe, hxm, s11, ho11, hi11⟩; have HXE := Lib.hid hxe; have HI11 := Lib.hid (And.intro ho11 hi11); have HS11z := Lib.hid (HS10.out.step s11); have HB11z := Lib.hid (HB10.out.frm s11.fr HNP.out); have HXM := Lib.hid hxm; clear hxe hxm s11 ho11 hi11; obtain ⟨op2, kind2, num2, scale2, text2, qual2, a2, cap2, args2⟩ := x; simp only [XE.val]; have hb12 : Bx (stL w11z w4.heap.size 2 (XE.enc (XE.mk op2 kind2 num2 scale2 text2 qual2 a2 cap2 args2))) w4.heap.size (sok.enc (ts1, al1, (XE.mk op2 kind2 num2 scale2 text2 qual2 a2 cap2 args2))).toArray 52 := bx_on HB11z.out op2 kind2 num2 scale2 text2 qual2 a2 cap2 args2; have f12 : Frm (fun k => k = w4.heap.size) w11z (stL w11z w4.heap.size 2 (XE.enc (XE.mk op2 kind2 num2 scale2 text2 qual2 a2 cap2 args2))) := stL_frm (F := fun k => k = w4.heap.size) (.inl rfl) _ _ (Frm.refl _ _); have hs12 := HS11z.out.frm f12 (fun k hk => .inr (.inl hk)) (HS11z.out.dp.ds.frm f12 (fun k hk e => by have e1 : k = w4.heap.size := e; have := HPH.out; omega)); have hxl := (HS10.out.xg w4.heap.size rfl).2.1; have hy12 := XE.Mem.frm f12 (fun k hk e => by have e1 : w10z.heap.size ≤ k := hk; have e2 : k = w4.heap.size := e; omega) _ HXM.out; have hy13 := HS10.out.fresh (E := sok) (y := (ts1, al1, (XE.mk op2 kind2 num2 scale2 text2 qual2 a2 cap2 args2))) hy12; obtain ⟨W12, hW12⟩ : ∃ W12, stL w11z w4.heap.size 2 (XE.enc (XE.mk op2 kind2 num2 scale2 text2 qual2 a2 cap2 args2)) = W12 := ⟨_, rfl⟩; rw [hW12] at hb12 hs12 hy13; have HS12 := Lib.hid hs12; have HB12 := Lib.hid hb12; have HPU := Lib.hid (fun v9 w9 => SmS.push (E := sok) (f := 8) (y := (ts1, al1, (XE.mk op2 kind2 num2 scale2 text2 qual2 a2 cap2 args2))) (v' := v9) (w' := w9) HS12.out hy13); have HOW := Lib.hid (HS12.out.own.below ((Below.refl W12.heap.size W12).alloc (Nat.le_refl _) (.cells (sok.cells [(ts1, al1, (XE.mk op2 kind2 num2 scale2 text2 qual2 a2 cap2 args2))]).toArray sok.te))); have HNW := Lib.hid (OwR.made_cells (K := sok.toRK) W12 [(ts1, al1, (XE.mk op2 kind2 num2 scale2 text2 qual2 a2 cap2 args2))]); have z12 : W12.cell? ⟨w1.heap.size, 8, none⟩ = some (.slice va q vc) := HS12.out.bx.cell rfl; clear hb12 f12 hs12 hy12 hy13 hxl) | (refine wpSx9 (off := 2) (x := (XE.mk op2 kind2 num2 scale2 text2 qual2 a2 cap2 args2)) rfl _ _ rfl HB11z.out (show 2 + 7 ≤ (sok.enc (ts1, al1, z0)).toArray.size from Nat.le_refl 9) rfl rfl ?_; rw [hW12]) | (refine wpLe sok Tryz.underlying52 rfl rfl _ rfl (x := (ts1, al1, (XE.mk op2 kind2 num2 scale2 text2 qual2 a2 cap2 args2))) rfl HB12.out rfl ?_; simp only [sok]) | (at_builtin; refine OwR.wp (K := sok.toRK) rfl _ _ rfl (w1.heap.size + 1) (.slice va q vc) xs rfl HOW.out (by have := HS12.out.bx.lt; simp; omega) ⟨W12.heap.size, 0, none⟩ 1 1 [(ts1, al1, (XE.mk op2 kind2 num2 scale2 text2 qual2 a2 cap2 args2))] rfl rfl HNW.out (by have := HQ.out; have := HJO.out.2; omega) ?_; intro v9 w9 o9 g9 n9; have hpu := HPU.out v9 w9 o9 g9 n9 rfl; have hpb := push_bx (y := (ts1, al1, (XE.mk op2 kind2 num2 scale2 text2 qual2 a2 cap2 args2))) HS12.out g9 (k := w4.heap.size) rfl HB12.out 8 v9; obtain ⟨a9, c9, e9, hc1, hc2⟩ := o9.sl; rw [List.length_append, List.length_singleton, HQ.out] at e9; subst e9; have HZ9 := Lib.hid hpu.1; have z9 : w9.cell? ⟨w1.heap.size, 8, none⟩ = some (.slice va q vc) := HZ9.out.cell rfl; have f9 : w9.frozen? ⟨w1.heap.size, 8, none⟩ = false := HZ9.out.frz 8; obtain ⟨W13, hW13⟩ : ∃ W13, w9.setCell ⟨w1.heap.size, 8, none⟩ (.slice a9 (q + 1) c9) = W13 := ⟨_, rfl⟩; have hs := hpu.2; rw [hW13] at hs hpb; have HS13 := Lib.hid hs; have HB13 := Lib.hid hpb; clear hpu o9 g9 n9 hs hpb))
       refine ⟨⟨k, Lib.hid ⟨e4, _, xs ++ [(ts1, al1, (XE.mk op2 kind2 num2 scale2 text2 qual2 a2 cap2 args2))], _, ?_, HS13.out, HB13.out, rfl, HI11.out.1, ?_⟩⟩, ?_⟩
       ·rw [List.map_append, List.map_cons, List.map_nil, show sok.er (ts1, al1, (XE.mk op2 kind2 num2 scale2 text2 qual2 a2 cap2 args2)) = ⟨ts1, al1, ex⟩ by (show (⟨_, _, _⟩ : Src) = _; rw [show XE.er (XE.mk op2 kind2 num2 scale2 text2 qual2 a2 cap2 args2) = ex from HXE.out])]
        exact HL2.out
       ·rw [List.length_append, List.length_singleton, HQ.out]
        have h1 := HJO.out.2
        have h2 := HQ4.out
        omega
       ·rw [HS13.out.dp.ds.dlen, HDL.out]
        have h1 := HI3.out
        have h2 := HI11.out.2
        omega
  case rest =>
   obtain ⟨y2, hy2, hF, ho4⟩ := hcut.out
   have HFd := Lib.hid hF
   have HY2 := Lib.hid hy2
   have HOW4 := Lib.hid ho4
   clear hcut hF hy2 ho4
   have hor := HOR.out
   unfold dOrder at hor
   obtain ⟨bo, dO, hgo⟩ : ∃ b d, dGot ts 1 wOrder d5 = (b, d) := ⟨_, _, rfl⟩
   have HGO := Lib.hid hgo
   have hop := dGot_opn ts 1 wOrder d5
   rw [hgo] at hop
   dsimp only at hop
   have HOPO := Lib.hid hop
   have hor2 : (if bo = true then dLs ts (dSort ts n) 50 n [] (dMust ts 1 wBy dO) else some ([], dO)) = some (oo, d6) := by
    unfold dGot at hgo
    by_cases c : dIs ts 1 wOrder d5 = true
    ·rw [if_pos c] at hgo hor
     injection hgo with e1 e2
     subst e1 e2
     exact hor
    ·rw [if_neg c] at hgo hor
     injection hgo with e1 e2
     subst e1 e2
     exact hor
   have HOR2 := Lib.hid hor2
   obtain ⟨dB, hdB⟩ : ∃ d, dMust ts 1 wBy dO = d := ⟨_, rfl⟩
   have hopB := dMust_opn ts 1 wBy dO
   rw [hdB] at hopB
   have HOPB := Lib.hid hopB
   have HDB := Lib.hid hdB
   clear hor hor2 hgo hop hdB hopB HOR
   go_upto_if 85 with (first | (go_at_call 56; refine (where_n HFd.out.dp.ds HOW4.out HWH.out).mono ?_; rintro e wA ⟨xw, rfl, hxe, hxm, sA, hoA, hiA⟩; have HXW := Lib.hid hxe; have HIA := Lib.hid (And.intro hoA hiA); have HFA := Lib.hid (HFd.out.step sA); have hxg := gtX HFd.out.bx.lt hxm; clear hxe hxm sA hoA hiA; obtain ⟨opw, kindw, numw, scalew, textw, qualw, aw, capw, argsw⟩ := xw; simp only [XE.val]; have hfw := HFA.out.whr (XE.mk opw kindw numw scalew textw qualw aw capw argsw) hxg; obtain ⟨WB, hWB⟩ : ∃ W, stL wA w1.heap.size 9 (XE.enc (XE.mk opw kindw numw scalew textw qualw aw capw argsw)) = W := ⟨_, rfl⟩; rw [hWB] at hfw; have HFB : Hid (SmF w WB pb w1.heap.size ts d5 { kind := 6, items := y1, src := y2, whr := (XE.mk opw kindw numw scalew textw qualw aw capw argsw) }) := Lib.hid hfw; clear hfw hxg) | (refine wpSx9 (off := 9) (x := (XE.mk opw kindw numw scalew textw qualw aw capw argsw)) rfl _ _ rfl HFA.out.bx (show 9 + 7 ≤ (XSt.enc { kind := 6, items := y1, src := y2 }).toArray.size from (by decide : 16 ≤ 18)) rfl rfl ?_; rw [hWB]) | (go_at_call 48; refine (got_n HFB.out.dp.ds 1 1 rfl wOrder (by decide) HGO.out).mono ?_; rintro e wC ⟨rfl, sC⟩; have HFC := Lib.hid (HFB.out.step sC); clear sC HGO))
   go_cut [6] (fun q wx => Hid (∃ y : XL (XE × Bool), y.xs.map srk.er = oo ∧ SmF w wx pb w1.heap.size ts d6 { kind := 6, items := y1, src := y2, whr := (XE.mk opw kindw numw scalew textw qualw aw capw argsw), order := y } ∧ d6.opn = 0))
   case first =>
    cases bo with
    | false =>
     have hor := HOR2.out
     rw [if_neg (by decide)] at hor
     obtain ⟨e1, e2⟩ := some_pair hor
     clear hor HOR2
     subst e1 e2
     go_wp2_with fail
     go_meet
     exact Lib.hid ⟨⟨none, 0, []⟩, rfl, HFC.out, by rw [HOPO.out.1]; exact HIA.out.1⟩
    | true =>
     have hor := HOR2.out
     rw [if_pos rfl, HDB.out] at hor
     have HLO := Lib.hid hor
     have HOB := Lib.hid (show dB.opn = 0 by rw [HOPB.out.1, HOPO.out.1]; exact HIA.out.1)
     clear hor HOR2
     go_wp2_with (first | (go_at_call 51; refine (must_n HFC.out.dp.ds 1 1 rfl wBy (by decide) HDB.out).mono ?_; rintro e wD ⟨rfl, sD⟩; have HFD := Lib.hid (HFC.out.step sD); clear sD HDB))
     go_loopw [6] (fun _ wr => ∃ (k : Nat), Hid (∃ (sj : DS) (v : Value) (xs : List (XE × Bool)), dLs ts (dSort ts n) 50 k (xs.map srk.er) sj = some (oo, d6) ∧ SmS srk NX w wr pb w1.heap.size ts sj (fun v => #[.int .i64 6, .string ⟨#[]⟩, .string ⟨#[]⟩, .slice none 0 0, .slice none 0 0, .bool false, .slice none 0 0, y1.val, y2.val, .int .i64 opw, .slice aw argsw.length capw, .int .i64 kindw, .int .i64 numw, .int .i64 scalew, .string textw, .string qualw, v, .slice none 0 0] : Value → Array Value) v xs { kind := 6, items := y1, src := y2, whr := (XE.mk opw kindw numw scalew textw qualw aw capw argsw) } ∧ sj.opn = 0 ∧ xs.length < 50)) (fun _ wr => dlen wr pb)
     case atStart => exact ⟨n, Lib.hid ⟨dB, _, [], HLO.out, HFD.out.grow rfl, HOB.out, by simp⟩⟩
     case round =>
      obtain ⟨wo, hwo⟩ : ∃ wo, wo = wr := ⟨wr, rfl⟩
      subst hwo
      obtain ⟨k, HJ⟩ := hrel
      obtain ⟨sj, v, xs, hls, hsm, hjo, hxl⟩ := HJ.out
      obtain ⟨k, rfl⟩ : ∃ k', k = k' + 1 := by
       cases k with
       | zero => rw [dLs] at hls; cases hls
       | succ k => exact ⟨k, rfl⟩
      rw [dLs] at hls
      have hdl := hsm.dp.ds.dlen
      have HDL := Lib.hid hdl
      obtain ⟨aq, capq, hbq, -⟩ := hsm.dp.ds.hd
      obtain ⟨⟨-, -, -, y3, -⟩, -⟩ := hbq.five
      obtain ⟨va, vc, rfl, hvc1, hvc2⟩ := hsm.own.sl
      obtain ⟨q, hq⟩ : ∃ q, xs.length = q := ⟨_, rfl⟩
      have HQ := Lib.hid hq
      rw [List.length_map, hq] at hls
      rw [hq] at hsm hxl
      have HSM := Lib.hid hsm
      have HJO := Lib.hid (And.intro hjo hxl)
      clear hsm hdl hbq hjo hxl HJ hq hvc1 hvc2
      by_cases he : sj.e = 0
      case neg =>
       have q0 : ((sj.e : Int) == 0) = false := by simp; omega
       rw [if_pos he] at hls
       obtain ⟨hrr, hdd⟩ := some_pair hls
       clear hls
       subst hdd
       clear he
       obtain ⟨y, -, hyx, hF⟩ := HSM.out.done (fun y => ({ kind := 6, items := y1, src := y2, whr := (XE.mk opw kindw numw scalew textw qualw aw capw argsw), order := y } : XSt)) (fun y => rfl) (fun y hy ho => ⟨ho.cols, ho.names, ho.rows, ho.items, ho.src, ho.whr, hy, ho.sets⟩)
       have HFX := Lib.hid hF
       have HYX := Lib.hid (show y.xs.map srk.er = oo by rw [hyx]; exact hrr)
       clear hF hyx hrr
       go_wp2_with fail
       go_meet
       exact Lib.hid ⟨y, HYX.out, HFX.out, HJO.out.1⟩
      rw [if_neg (fun e => e he)] at hls
      rw [he] at y3
      obtain ⟨so1, s1, hen, hlz⟩ := bindO_some hls
      clear hls
      have hls := hlz
      clear hlz
      unfold dSort at hen
      obtain ⟨ex, s2, hwx, hez⟩ := bindO_some hen
      clear hen
      obtain ⟨bd, s3, hal⟩ : ∃ a d, dGot ts 1 wDesc s2 = (a, d) := ⟨_, _, rfl⟩
      have hen : bindO (some (dGot ts 1 wDesc s2)) (fun b d2 => some ((⟨ex, b⟩ : Srt), d2)) = some (so1, s1) := hez
      clear hez
      rw [hal] at hen
      obtain ⟨e1, e2⟩ := some_pair (show some ((⟨ex, bd⟩ : Srt), s3) = some (so1, s1) from hen)
      clear hen
      subst e1 e2
      obtain ⟨m, hm⟩ : ∃ m, q + 1 = m := ⟨_, rfl⟩
      have HM := Lib.hid hm
      rw [hm] at hls
      obtain ⟨b, d8, hmo⟩ : ∃ b d, dMore ts m 50 s3 = (b, d) := ⟨_, _, rfl⟩
      rw [hmo] at hls
      dsimp only at hls
      have HMO := Lib.hid hmo
      have hmr := dMore_opn ts m 50 s3
      rw [hmo] at hmr
      dsimp only at hmr
      have HMR := Lib.hid hmr
      clear hm hmo hmr
      have hao := dGot_opn ts 1 wDesc s2
      rw [hal] at hao
      dsimp only at hao
      have HAO := Lib.hid hao
      have HWX := Lib.hid hwx
      have HAL := Lib.hid hal
      clear hwx hal hao he

      cases b with
      | true =>
       rw [if_pos rfl] at hls
       have HLS2 := Lib.hid hls
       have HMT := Lib.hid (HMR.out.2.2 rfl)
       clear hls
       go_wp2_with (first | (go_at_call 54; refine (whole_n HSM.out.dp.ds HJO.out.1 HWX.out).mono ?_; rintro e w4s ⟨x, rfl, hxe, hxm, s4, ho4, hi4⟩; have HXE := Lib.hid hxe; have HI4 := Lib.hid (And.intro ho4 hi4); have HXM := Lib.hid hxm; have HS4 := Lib.hid s4; clear hxe hxm s4 ho4 hi4; obtain ⟨op2, kind2, num2, scale2, text2, qual2, a2, cap2, args2⟩ := x; simp only [XE.val]) | (refine wpSe srk (x := ((XE.mk op2 kind2 num2 scale2 text2 qual2 a2 cap2 args2), false)) rfl _ _ rfl rfl (Bx.new w4s #[.int .i64 0, .slice none 0 0, .int .i64 0, .int .i64 0, .int .i64 0, .string ⟨#[]⟩, .string ⟨#[]⟩, .bool false] 98) rfl rfl rfl ?_; intro w5s f5 b5; have HE5 := Lib.hid (ElS.made HS4.out HSM.out.dp.ds.lt f5 b5 HXM.out); clear f5 b5) | (go_at_call 48; refine (got_n HE5.out.dp.ds 1 1 rfl wDesc (by decide) HAL.out).mono ?_; rintro e w6s ⟨rfl, s6⟩; have HE6 := Lib.hid (HE5.out.step s6); have z6 : w6s.cell? ⟨w4s.heap.size, 7, none⟩ = some (.bool false) := HE6.out.bx.cell rfl; have f6 : w6s.frozen? ⟨w4s.heap.size, 7, none⟩ = false := HE6.out.bx.frz 7; have he7 := HE6.out.set ((XE.mk op2 kind2 num2 scale2 text2 qual2 a2 cap2 args2), bd) 7 (.bool bd) rfl HE6.out.mm; obtain ⟨W7s, hW7s⟩ : ∃ W7, w6s.setCell ⟨w4s.heap.size, 7, none⟩ (.bool bd) = W7 := ⟨_, rfl⟩; rw [hW7s] at he7; have HE7 := Lib.hid he7; clear s6 he7; have HSE := Lib.hid (HSM.out.step HE7.out.dp); have hye := srk.mono (K' := fun k => w1.heap.size < k ∧ Value.ownBlock (.slice va q vc) ≠ some k ∧ ¬ NX k) (fun k hk => ⟨by have h1 := HSM.out.bx.lt; have h2 := hk.1; omega, fun e => by have h1 := (HSM.out.own.lt e).2.1; have h2 := hk.1; omega, id⟩) _ HE7.out.mm; have HPU := Lib.hid (fun v' w' => SmS.push (E := srk) (f := 16) (y := ((XE.mk op2 kind2 num2 scale2 text2 qual2 a2 cap2 args2), bd)) (v' := v') (w' := w') HSE.out hye); have HOW := Lib.hid (HSE.out.own.below ((Below.refl W7s.heap.size W7s).alloc (Nat.le_refl _) (.cells (srk.cells [((XE.mk op2 kind2 num2 scale2 text2 qual2 a2 cap2 args2), bd)]).toArray srk.te))); have HNW := Lib.hid (OwR.made_cells (K := srk.toRK) W7s [((XE.mk op2 kind2 num2 scale2 text2 qual2 a2 cap2 args2), bd)]); have z10 : W7s.cell? ⟨w1.heap.size, 16, none⟩ = some (.slice va q vc) := HSE.out.bx.cell rfl; clear hye) | (refine wpLe srk Tryz.underlying98 rfl rfl _ rfl (x := ((XE.mk op2 kind2 num2 scale2 text2 qual2 a2 cap2 args2), bd)) rfl HE7.out.bx rfl ?_; simp only [srk]) | (at_builtin; refine OwR.wp (K := srk.toRK) rfl _ _ rfl (w1.heap.size + 1) (.slice va q vc) xs rfl HOW.out (by have := HSE.out.bx.lt; simp; omega) ⟨W7s.heap.size, 0, none⟩ 1 1 [((XE.mk op2 kind2 num2 scale2 text2 qual2 a2 cap2 args2), bd)] rfl rfl HNW.out (by have := HQ.out; have := HJO.out.2; omega) ?_; intro v9 w9 o9 g9 n9; have hpu := HPU.out v9 w9 o9 g9 n9 rfl; obtain ⟨a9, c9, e9, hc1, hc2⟩ := o9.sl; rw [List.length_append, List.length_singleton, HQ.out, HM.out] at e9; subst e9; have HZ9 := Lib.hid hpu.1; have z9 : w9.cell? ⟨w1.heap.size, 16, none⟩ = some (.slice va q vc) := HZ9.out.cell rfl; have f9 : w9.frozen? ⟨w1.heap.size, 16, none⟩ = false := HZ9.out.frz 16; obtain ⟨W11, hW11⟩ : ∃ W11, w9.setCell ⟨w1.heap.size, 16, none⟩ (.slice a9 m c9) = W11 := ⟨_, rfl⟩; have hs := hpu.2; rw [hW11] at hs; have HS11 := Lib.hid hs; have z11 : W11.cell? ⟨w1.heap.size, 16, none⟩ = some (.slice a9 m c9) := HS11.out.bx.cell rfl; clear hpu o9 g9 n9 hs) | (go_at_call 55; refine (more_n HS11.out.dp.ds m 50 50 rfl HMO.out).mono ?_; rintro e w12 ⟨rfl, s12⟩; have HS12 := Lib.hid (HS11.out.step s12); clear s12))
       refine ⟨⟨k, Lib.hid ⟨d8, _, xs ++ [((XE.mk op2 kind2 num2 scale2 text2 qual2 a2 cap2 args2), bd)], ?_, HS12.out, ?_, ?_⟩⟩, ?_⟩
       ·rw [List.map_append, List.map_cons, List.map_nil, show srk.er ((XE.mk op2 kind2 num2 scale2 text2 qual2 a2 cap2 args2), bd) = ⟨ex, bd⟩ by (show (⟨_, _⟩ : Srt) = _; rw [show XE.er (XE.mk op2 kind2 num2 scale2 text2 qual2 a2 cap2 args2) = ex from HXE.out])]; exact HLS2.out
       ·rw [HMR.out.1]; exact by rw [HAO.out.1]; exact HI4.out.1
       ·rw [List.length_append, List.length_singleton, HQ.out, HM.out]
        have h1 := HMT.out.2.2
        have h2 := HM.out
        have h3 := HJO.out.2
        omega
       ·rw [HS12.out.dp.ds.dlen, HDL.out]
        have h1 := HMT.out
        have h2 := Nat.le_trans HI4.out.2 HAO.out.2.1
        omega
      | false =>
       rw [if_neg (by decide)] at hls
       have HLS2 := Lib.hid hls
       clear hls
       go_wp2_with (first | (go_at_call 54; refine (whole_n HSM.out.dp.ds HJO.out.1 HWX.out).mono ?_; rintro e w4s ⟨x, rfl, hxe, hxm, s4, ho4, hi4⟩; have HXE := Lib.hid hxe; have HI4 := Lib.hid (And.intro ho4 hi4); have HXM := Lib.hid hxm; have HS4 := Lib.hid s4; clear hxe hxm s4 ho4 hi4; obtain ⟨op2, kind2, num2, scale2, text2, qual2, a2, cap2, args2⟩ := x; simp only [XE.val]) | (refine wpSe srk (x := ((XE.mk op2 kind2 num2 scale2 text2 qual2 a2 cap2 args2), false)) rfl _ _ rfl rfl (Bx.new w4s #[.int .i64 0, .slice none 0 0, .int .i64 0, .int .i64 0, .int .i64 0, .string ⟨#[]⟩, .string ⟨#[]⟩, .bool false] 98) rfl rfl rfl ?_; intro w5s f5 b5; have HE5 := Lib.hid (ElS.made HS4.out HSM.out.dp.ds.lt f5 b5 HXM.out); clear f5 b5) | (go_at_call 48; refine (got_n HE5.out.dp.ds 1 1 rfl wDesc (by decide) HAL.out).mono ?_; rintro e w6s ⟨rfl, s6⟩; have HE6 := Lib.hid (HE5.out.step s6); have z6 : w6s.cell? ⟨w4s.heap.size, 7, none⟩ = some (.bool false) := HE6.out.bx.cell rfl; have f6 : w6s.frozen? ⟨w4s.heap.size, 7, none⟩ = false := HE6.out.bx.frz 7; have he7 := HE6.out.set ((XE.mk op2 kind2 num2 scale2 text2 qual2 a2 cap2 args2), bd) 7 (.bool bd) rfl HE6.out.mm; obtain ⟨W7s, hW7s⟩ : ∃ W7, w6s.setCell ⟨w4s.heap.size, 7, none⟩ (.bool bd) = W7 := ⟨_, rfl⟩; rw [hW7s] at he7; have HE7 := Lib.hid he7; clear s6 he7; have HSE := Lib.hid (HSM.out.step HE7.out.dp); have hye := srk.mono (K' := fun k => w1.heap.size < k ∧ Value.ownBlock (.slice va q vc) ≠ some k ∧ ¬ NX k) (fun k hk => ⟨by have h1 := HSM.out.bx.lt; have h2 := hk.1; omega, fun e => by have h1 := (HSM.out.own.lt e).2.1; have h2 := hk.1; omega, id⟩) _ HE7.out.mm; have HPU := Lib.hid (fun v' w' => SmS.push (E := srk) (f := 16) (y := ((XE.mk op2 kind2 num2 scale2 text2 qual2 a2 cap2 args2), bd)) (v' := v') (w' := w') HSE.out hye); have HOW := Lib.hid (HSE.out.own.below ((Below.refl W7s.heap.size W7s).alloc (Nat.le_refl _) (.cells (srk.cells [((XE.mk op2 kind2 num2 scale2 text2 qual2 a2 cap2 args2), bd)]).toArray srk.te))); have HNW := Lib.hid (OwR.made_cells (K := srk.toRK) W7s [((XE.mk op2 kind2 num2 scale2 text2 qual2 a2 cap2 args2), bd)]); have z10 : W7s.cell? ⟨w1.heap.size, 16, none⟩ = some (.slice va q vc) := HSE.out.bx.cell rfl; clear hye) | (refine wpLe srk Tryz.underlying98 rfl rfl _ rfl (x := ((XE.mk op2 kind2 num2 scale2 text2 qual2 a2 cap2 args2), bd)) rfl HE7.out.bx rfl ?_; simp only [srk]) | (at_builtin; refine OwR.wp (K := srk.toRK) rfl _ _ rfl (w1.heap.size + 1) (.slice va q vc) xs rfl HOW.out (by have := HSE.out.bx.lt; simp; omega) ⟨W7s.heap.size, 0, none⟩ 1 1 [((XE.mk op2 kind2 num2 scale2 text2 qual2 a2 cap2 args2), bd)] rfl rfl HNW.out (by have := HQ.out; have := HJO.out.2; omega) ?_; intro v9 w9 o9 g9 n9; have hpu := HPU.out v9 w9 o9 g9 n9 rfl; obtain ⟨a9, c9, e9, hc1, hc2⟩ := o9.sl; rw [List.length_append, List.length_singleton, HQ.out, HM.out] at e9; subst e9; have HZ9 := Lib.hid hpu.1; have z9 : w9.cell? ⟨w1.heap.size, 16, none⟩ = some (.slice va q vc) := HZ9.out.cell rfl; have f9 : w9.frozen? ⟨w1.heap.size, 16, none⟩ = false := HZ9.out.frz 16; obtain ⟨W11, hW11⟩ : ∃ W11, w9.setCell ⟨w1.heap.size, 16, none⟩ (.slice a9 m c9) = W11 := ⟨_, rfl⟩; have hs := hpu.2; rw [hW11] at hs; have HS11 := Lib.hid hs; have z11 : W11.cell? ⟨w1.heap.size, 16, none⟩ = some (.slice a9 m c9) := HS11.out.bx.cell rfl; clear hpu o9 g9 n9 hs) | (go_at_call 55; refine (more_n HS11.out.dp.ds m 50 50 rfl HMO.out).mono ?_; rintro e w12 ⟨rfl, s12⟩; have HS12 := Lib.hid (HS11.out.step s12); clear s12))
       have hls := HLS2.out
       obtain ⟨hrr, hdd⟩ := some_pair hls
       clear hls
       subst hdd
       have hrr : (xs ++ [((XE.mk op2 kind2 num2 scale2 text2 qual2 a2 cap2 args2), bd)]).map srk.er = oo := by rw [List.map_append, List.map_cons, List.map_nil, show srk.er ((XE.mk op2 kind2 num2 scale2 text2 qual2 a2 cap2 args2), bd) = ⟨ex, bd⟩ by (show (⟨_, _⟩ : Srt) = _; rw [show XE.er (XE.mk op2 kind2 num2 scale2 text2 qual2 a2 cap2 args2) = ex from HXE.out])]; exact hrr
       obtain ⟨y, -, hyx, hF⟩ := HS12.out.done (fun y => ({ kind := 6, items := y1, src := y2, whr := (XE.mk opw kindw numw scalew textw qualw aw capw argsw), order := y } : XSt)) (fun y => rfl) (fun y hy ho => ⟨ho.cols, ho.names, ho.rows, ho.items, ho.src, ho.whr, hy, ho.sets⟩)
       have HFX := Lib.hid hF
       have HYX := Lib.hid (show y.xs.map srk.er = oo by rw [hyx]; exact hrr)
       clear hF hyx hrr
       go_wp2_with fail
       go_meet
       exact Lib.hid ⟨y, HYX.out, HFX.out, (by rw [HMR.out.1]; exact by rw [HAO.out.1]; exact HI4.out.1)⟩
   case rest =>
    obtain ⟨y, hyy, hF, -⟩ := hcut.out
    have HFX := Lib.hid hF
    have HST := Lib.hid (show XSt.er { kind := 6, items := y1, src := y2, whr := (XE.mk opw kindw numw scalew textw qualw aw capw argsw), order := y } = { kind := 6, items := ri, src := fs, whr := ew, order := oo } by unfold XSt.er; simp only [List.map_nil]; rw [show List.map itk.er y1.xs = ri from HY1.out, show List.map sok.er y2.xs = fs from HY2.out, show List.map srk.er y.xs = oo from hyy, show XE.er (XE.mk opw kindw numw scalew textw qualw aw capw argsw) = ew from HXW.out])
    clear hcut hF hyy
    go_wp2_with (first | (refine wpLv (x := { kind := 6, items := y1, src := y2, whr := (XE.mk opw kindw numw scalew textw qualw aw capw argsw), order := y }) rfl _ rfl HFX.out.bx rfl ?_) | (refine wpSv (x := { kind := 6, items := y1, src := y2, whr := (XE.mk opw kindw numw scalew textw qualw aw capw argsw), order := y }) rfl _ _ rfl HFX.out.rb rfl rfl rfl ?_; intro wz fz bz; have HFI := Lib.hid (And.intro bz (HFX.out.fin fz HST.out)); clear fz bz))
    exact retV Tryz.results53 HFI.out.1 rfl rfl (by rw [← HP.out, ← HRR.out]; exact HFI.out.2)
end Go.Proofs.YtofnkfjhmjecjaaGreatDoor
