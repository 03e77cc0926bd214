/-
  Texts of mine put together, in build order.
  Conditions: as each declaration says.
-/
import Derived.Test.YtofnkfjhmjecjaaGreatDoorZp27
namespace Go.Proofs.YtofnkfjhmjecjaaGreatDoor
set_option maxRecDepth 100000
open Go.RowKit Go.Joins Go.ChangeShapes Go.WideShapes Go.Great
set_option linter.unusedVariables false
set_option linter.unusedSimpArgs false
set_option maxHeartbeats 16000000 in
theorem insert_d {w : World} {s : DS} {ts : List Tk} {pb n : Nat} {r : Stm × DS} (h : DsM w pb ts s) (ho : s.opn = 0) (hr : dInsert ts n s = some r) :
  Calls Tryz.prog 52 #[.pointer (some ⟨pb, 0, none⟩)] w (EndV w pb ts r) := by
 generalize hP : EndV w pb ts r = P
 have HP := Lib.hid hP
 have hsp := SmP.start h
 obtain ⟨w1, hw1⟩ : ∃ w1, w.alloc (.cells zst 34) = w1 := ⟨_, rfl⟩
 rw [hw1] at hsp
 have HS1 := Lib.hid hsp
 unfold zst at hw1
 clear hsp hP h
 unfold dInsert at hr
 replace hr : bindO (dLs ts (dEncl ts (dWhole ts n) 50 n) 50 n [] (dMust ts 1 wValues (dName ts (dMust ts 1 wInto s)).2)) (fun r d4 => some ({ kind := 5, table := (dName ts (dMust ts 1 wInto s)).1, rows := r }, d4)) = some r := hr
 obtain ⟨d1, hd1⟩ : ∃ d1, dMust ts 1 wInto s = d1 := ⟨_, rfl⟩
 rw [hd1] at hr
 obtain ⟨tb, d2, hd2⟩ : ∃ t d2, dName ts d1 = (t, d2) := ⟨_, _, rfl⟩
 rw [hd2] at hr
 dsimp only at hr
 obtain ⟨d3, hd3⟩ : ∃ d3, dMust ts 1 wValues d2 = d3 := ⟨_, rfl⟩
 rw [hd3] at hr
 obtain ⟨rr, d4, hls, hr2⟩ := bindO_some hr
 clear hr
 have HR := Lib.hid (show (({ kind := 5, table := tb, rows := rr } : Stm), d4) = r from Option.some.inj hr2)
 clear hr2
 have HLS := Lib.hid hls
 have HH1 := Lib.hid hd1
 have HH2 := Lib.hid hd2
 have HH3 := Lib.hid hd3
 have hop : d3.opn = 0 := by rw [← hd3, (dMust_opn _ _ _ _).1]; have := (dName_opn ts d1).1; rw [hd2] at this; rw [this, ← hd1, (dMust_opn _ _ _ _).1]; exact ho
 have HOP := Lib.hid hop
 clear hls hd1 hd2 hd3 hop ho
 go_enter Tryz.func52, Tryz.ntmps52
 go_wp2_with (first | (go_at_call 51; refine (must_n HS1.out.dp.ds 1 1 rfl wInto (by decide) HH1.out).mono ?_; rintro e w2 ⟨rfl, s2⟩; have HS2 := Lib.hid (HS1.out.step s2); clear s2 HH1 HS1) | (go_at_call 50; refine (name_n HS2.out.dp.ds HH2.out).mono ?_; rintro e w3 ⟨rfl, s3⟩; have HS3 := Lib.hid (HS2.out.step s3); clear s3 HH2 HS2) | (refine wpSv (x := { kind := 5, table := tb }) rfl _ _ rfl (Bx.new w3 zst 34) rfl rfl rfl ?_; intro w4 f4 b4; have HF4 := Lib.hid (HS3.out.made f4 b4 (memz _ _ nl nl nl nl nl nx nl nl)); clear f4 b4 HS3) | (go_at_call 51; refine (must_n HF4.out.dp.ds 1 1 rfl wValues (by decide) HH3.out).mono ?_; rintro e w5 ⟨rfl, s5⟩; have HF5 := Lib.hid (HF4.out.step s5); clear s5 HH3 HF4))
 go_loopw [4] (fun _ wr => ∃ (k : Nat), Hid (∃ (sj : DS) (v : Value) (xs : List (XL XE)), dLs ts (dEncl ts (dWhole ts n) 50 n) 50 k (xs.map rok.er) sj = some (rr, d4) ∧ SmS rok NX w wr pb w3.heap.size ts sj (fun v => #[.int .i64 5, .string (strB tb), .string ⟨#[]⟩, .slice none 0 0, .slice none 0 0, .bool false, v, .slice none 0 0, .slice none 0 0, .int .i64 0, .slice none 0 0, .int .i64 0, .int .i64 0, .int .i64 0, .string ⟨#[]⟩, .string ⟨#[]⟩, .slice none 0 0, .slice none 0 0] : Value → Array Value) v xs { kind := 5, table := tb } ∧ sj.opn = 0 ∧ xs.length < 50)) (fun _ wr => dlen wr pb)
 case atStart => exact ⟨n, Lib.hid ⟨d3, _, [], HLS.out, HF5.out.grow rfl, HOP.out, by simp⟩⟩
 case round =>
  obtain ⟨wo, hwo⟩ : ∃ wo, wo = wr := ⟨wr, rfl⟩
  subst hwo
  obtain ⟨k, HJ⟩ := hrel
  obtain ⟨sj, v, xs, hls, hsm, hjo, hxl⟩ := HJ.out
  obtain ⟨k, rfl⟩ : ∃ k', k = k' + 1 := by
   cases k with
   | zero => rw [dLs] at hls; cases hls
   | succ k => exact ⟨k, rfl⟩
  rw [dLs] at hls
  have hdl := hsm.dp.ds.dlen
  have HDL := Lib.hid hdl
  obtain ⟨aq, capq, hbq, -⟩ := hsm.dp.ds.hd
  obtain ⟨⟨-, -, -, y3, -⟩, -⟩ := hbq.five
  obtain ⟨va, vc, rfl, hvc1, hvc2⟩ := hsm.own.sl
  obtain ⟨q, hq⟩ : ∃ q, xs.length = q := ⟨_, rfl⟩
  have HQ := Lib.hid hq
  rw [List.length_map, hq] at hls
  rw [hq] at hsm hxl
  have HSM := Lib.hid hsm
  have HJO := Lib.hid (And.intro hjo hxl)
  clear hsm hdl hbq hjo hxl HJ hq hvc1 hvc2
  by_cases he : sj.e = 0
  case neg =>
   have q0 : ((sj.e : Int) == 0) = false := by simp; omega
   rw [if_pos he] at hls
   obtain ⟨hrr, hdd⟩ := some_pair hls
   clear hls
   subst hdd
   have HSMX := HSM
   clear he HLS HF5
   obtain ⟨y, -, hyx, hF⟩ := HSMX.out.done (fun y => ({ kind := 5, table := tb, rows := y } : XSt)) (fun y => rfl) (fun y hy ho => XSt.Mem.mk ho.cols ho.names hy ho.items ho.src ho.whr ho.order ho.sets)
   have HFX := Lib.hid hF
   have HST := Lib.hid (show XSt.er { kind := 5, table := tb, rows := y } = { kind := 5, table := tb, rows := rr } by unfold XSt.er; simp only [er0, List.map_nil]; rw [show List.map rok.er y.xs = rr by rw [hyx]; exact hrr])
   clear hF hyx hrr
   go_wp2_with (first | (refine wpLv (x := { kind := 5, table := tb, rows := y }) rfl _ rfl HFX.out.bx rfl ?_) | (refine wpSv (x := { kind := 5, table := tb, rows := y }) rfl _ _ rfl HFX.out.rb rfl rfl rfl ?_; intro wz fz bz; have HFI := Lib.hid (And.intro bz (HFX.out.fin fz HST.out)); clear fz bz))
   exact retV Tryz.results52 HFI.out.1 rfl rfl (by rw [← HP.out, ← HR.out]; exact HFI.out.2)
  rw [if_neg (fun e => e he)] at hls
  rw [he] at y3
  obtain ⟨l2, s1, hen, hlz⟩ := bindO_some hls
  clear hls
  have hls := hlz
  clear hlz
  unfold dEncl at hen
  replace hen : bindO (dLs ts (dWhole ts n) 50 n [] (dMust ts 5 [40] sj)) (fun l d2 => some (l, dMust ts 5 [41] d2)) = some (l2, s1) := hen
  obtain ⟨d5, hd5⟩ : ∃ d, dMust ts 5 [40] sj = d := ⟨_, rfl⟩
  have hop5 : d5.opn = 0 ∧ sj.i ≤ d5.i := by have := dMust_opn ts 5 [40] sj; rw [hd5] at this; exact ⟨by rw [this.1]; exact HJO.out.1, this.2.1⟩
  rw [hd5] at hen
  obtain ⟨l3, d6, hin, hez⟩ := bindO_some hen
  clear hen
  have hen := hez
  clear hez
  replace hen : some (l3, dMust ts 5 [41] d6) = some (l2, s1) := hen
  obtain ⟨e1, e2⟩ := some_pair hen
  clear hen
  subst e1
  have HE2 := Lib.hid e2
  obtain ⟨m, hm⟩ : ∃ m, q + 1 = m := ⟨_, rfl⟩
  have HM := Lib.hid hm
  rw [hm] at hls
  obtain ⟨b, d8, hmo⟩ : ∃ b d, dMore ts m 50 s1 = (b, d) := ⟨_, _, rfl⟩
  rw [hmo] at hls
  dsimp only at hls
  have HMO := Lib.hid hmo
  have HIN := Lib.hid hin
  have HH5 := Lib.hid hd5
  have HO5 := Lib.hid hop5
  have hmd : LsD exk wo (wo.alloc (.cells #[] 30)) pb ts sj (.slice (some ⟨wo.heap.size, 0, none⟩) 0 0) [] := LsD.made HSM.out.dp.ds
  obtain ⟨W6, hW6⟩ : ∃ W6, wo.alloc (.cells #[] 30) = W6 := ⟨_, rfl⟩
  rw [hW6] at hmd
  have HL6 := Lib.hid hmd
  clear hmd e2 hm hmo hin hd5 hop5 he
  go_wp2_with (first | (go_at_call 51; refine (must_n HL6.out.st.ds 5 5 rfl [40] (by decide) HH5.out).mono ?_; rintro e w7 ⟨rfl, s7⟩; have HL7 := Lib.hid (HL6.out.step s7); clear s7 HH5 HL6))
  go_loopw [4] (fun i wq => ∃ (kk : Nat), Hid (∃ (sk : DS) (zs : List XE), dLs ts (dWhole ts n) 50 kk (zs.map exk.er) sk = some (l3, d6) ∧ LsD exk wo wq pb ts sk i zs ∧ sk.opn = 0 ∧ zs.length < 50 ∧ d5.i ≤ sk.i)) (fun _ wq => dlen wq pb)
  case atStart => exact ⟨n, Lib.hid ⟨d5, [], HIN.out, HL7.out, HO5.out.1, by simp, Nat.le_refl _⟩⟩
  case round =>
   obtain ⟨kk, HJ2⟩ := hrel
   obtain ⟨sk, zs, hin, hlq, hko, hzl, hki⟩ := HJ2.out
   obtain ⟨kk, rfl⟩ : ∃ k', kk = k' + 1 := by
    cases kk with
    | zero => rw [dLs] at hin; cases hin
    | succ k => exact ⟨k, rfl⟩
   rw [dLs] at hin
   obtain ⟨sa, sc, rfl, hsc1, hsc2⟩ := hlq.own.sl
   obtain ⟨n0, hn0⟩ : ∃ n0, zs.length = n0 := ⟨_, rfl⟩
   have HZ := Lib.hid hn0
   rw [List.length_map, hn0] at hin
   rw [hn0] at hlq hzl ⊢
   have HLQ := Lib.hid hlq
   have HKO := Lib.hid (And.intro hko (And.intro hzl hki))
   have hdl2 := hlq.st.ds.dlen
   have HDL2 := Lib.hid hdl2
   obtain ⟨aq2, capq2, hbq2, -⟩ := hlq.st.ds.hd
   obtain ⟨⟨-, -, -, v3, -⟩, -⟩ := hbq2.five
   have HHLS := Lib.hid hls
   clear hlq hko hzl hki hdl2 hbq2 HJ2 hn0 hsc1 hsc2 hls
   by_cases he2 : sk.e = 0
   case neg =>
    have q0 : ((sk.e : Int) == 0) = false := by simp; omega
    rw [if_pos he2] at hin
    obtain ⟨hl2, hdd⟩ := some_pair hin
    clear hin
    subst hdd
    have HLX := HLQ
    have hmu := dMust_opn ts 5 [41] sk
    rw [HE2.out] at hmu
    have hmr := dMore_opn ts m 50 s1
    rw [HMO.out] at hmr
    dsimp only at hmr
    have HO8 := Lib.hid (show d8.opn = 0 ∧ (b = true → ts.length - d8.i < ts.length - sj.i) ∧ (b = true → m < 50) from ⟨by rw [hmr.1, hmu.1]; exact HKO.out.1, fun e => by have h1 := hmr.2.2 e; have h2 := hmu.2.1; have h3 := HKO.out.2.2; have h4 := HO5.out.2; omega, fun e => by have h1 := (hmr.2.2 e).2.2; have h2 := HM.out; have h3 := HJO.out.2; omega⟩)
    clear hmu hmr he2
    have hls := HHLS.out
    clear HHLS
    have hxl : XL.Mem exk (GE wo.heap.size) wr ⟨sa, sc, zs⟩ := HLX.out.xl
    have HYM := Lib.hid hxl
    have HSO := Lib.hid (HSM.out.step HLX.out.st)
    have HYE := Lib.hid (show rok.er ⟨sa, sc, zs⟩ = l3 from hl2)
    have HCL := Lib.hid (show (rok.cells [(⟨sa, sc, zs⟩ : XL XE)]).toArray = #[.slice sa n0 sc] by show #[Value.slice sa (zs).length sc] = _; rw [HZ.out])
    clear hxl hl2
    cases b with
    | true =>
     rw [if_pos rfl] at hls
     have HLS2 := Lib.hid hls
     have HT8 := Lib.hid (And.intro (HO8.out.2.1 rfl) (HO8.out.2.2 rfl))
     clear hls
     go_wp2_with (first | (go_at_call 51; refine (must_n HSO.out.dp.ds 5 5 rfl [41] (by decide) HE2.out).mono ?_; rintro e w10 ⟨rfl, s10⟩; have HS10 := Lib.hid (HSO.out.step s10); have hxm := XL.Mem.frm s10.fr (fun k hk e => by have h1 : wo.heap.size ≤ k := hk; have h2 : k = pb := e; have := HSM.out.dp.ds.lt; omega) _ HYM.out; have hpu := fun v' w' => SmS.push (E := rok) (f := 6) (y := ⟨sa, sc, zs⟩) (v' := v') (w' := w') HS10.out (HSM.out.fresh (E := rok) hxm); have how := HS10.out.own.below ((Below.refl w10.heap.size w10).alloc (Nat.le_refl _) (.cells (rok.cells [⟨sa, sc, zs⟩]).toArray rok.te)); have hnw := OwR.made_cells (K := rok.toRK) w10 [⟨sa, sc, zs⟩]; simp only [HCL.out] at hpu how hnw; have HPU := Lib.hid hpu; have HOW := Lib.hid how; have HNW := Lib.hid hnw; clear hpu how hnw; have z10 : w10.cell? ⟨w3.heap.size, 6, none⟩ = some (.slice va q vc) := HS10.out.bx.cell rfl; clear s10 hxm) | (at_builtin; refine OwR.wp (K := rok.toRK) rfl _ _ rfl (w3.heap.size + 1) (.slice va q vc) xs rfl HOW.out (by have := HSO.out.bx.lt; have := HS10.out.bx.lt; simp; omega) ⟨w10.heap.size, 0, none⟩ 1 1 [⟨sa, sc, zs⟩] rfl rfl HNW.out (by have := HQ.out; have := HJO.out.2; omega) ?_; intro v9 w9 o9 g9 n9; have hpu := HPU.out v9 w9 o9 g9 n9 rfl; obtain ⟨a9, c9, e9, hc1, hc2⟩ := o9.sl; rw [List.length_append, List.length_singleton, HQ.out, HM.out] at e9; subst e9; have HZ9 := Lib.hid hpu.1; have z9 : w9.cell? ⟨w3.heap.size, 6, none⟩ = some (.slice va q vc) := HZ9.out.cell rfl; have f9 : w9.frozen? ⟨w3.heap.size, 6, none⟩ = false := HZ9.out.frz 6; obtain ⟨W11, hW11⟩ : ∃ W11, w9.setCell ⟨w3.heap.size, 6, none⟩ (.slice a9 m c9) = W11 := ⟨_, rfl⟩; have hs := hpu.2; rw [hW11] at hs; have HS11 := Lib.hid hs; have z11 : W11.cell? ⟨w3.heap.size, 6, none⟩ = some (.slice a9 m c9) := HS11.out.bx.cell rfl; clear hpu o9 g9 n9 hs) | (go_at_call 55; refine (more_n HS11.out.dp.ds m 50 50 rfl HMO.out).mono ?_; rintro e w12 ⟨rfl, s12⟩; have HS12 := Lib.hid (HS11.out.step s12); clear s12))
     refine ⟨⟨k, Lib.hid ⟨d8, _, xs ++ [⟨sa, sc, zs⟩], ?_, HS12.out, ?_, ?_⟩⟩, ?_⟩
     ·rw [List.map_append, List.map_cons, List.map_nil, HYE.out]; exact HLS2.out
     ·exact HO8.out.1
     ·rw [List.length_append, List.length_singleton, HQ.out, HM.out]; exact HT8.out.2
     ·rw [HS12.out.dp.ds.dlen, HDL.out]
      have h1 := HT8.out.1
      omega
    | false =>
     rw [if_neg (by decide)] at hls
     have HLS2 := Lib.hid hls
     clear hls
     go_upto_region 13 with (first | (go_at_call 51; refine (must_n HSO.out.dp.ds 5 5 rfl [41] (by decide) HE2.out).mono ?_; rintro e w10 ⟨rfl, s10⟩; have HS10 := Lib.hid (HSO.out.step s10); have hxm := XL.Mem.frm s10.fr (fun k hk e => by have h1 : wo.heap.size ≤ k := hk; have h2 : k = pb := e; have := HSM.out.dp.ds.lt; omega) _ HYM.out; have hpu := fun v' w' => SmS.push (E := rok) (f := 6) (y := ⟨sa, sc, zs⟩) (v' := v') (w' := w') HS10.out (HSM.out.fresh (E := rok) hxm); have how := HS10.out.own.below ((Below.refl w10.heap.size w10).alloc (Nat.le_refl _) (.cells (rok.cells [⟨sa, sc, zs⟩]).toArray rok.te)); have hnw := OwR.made_cells (K := rok.toRK) w10 [⟨sa, sc, zs⟩]; simp only [HCL.out] at hpu how hnw; have HPU := Lib.hid hpu; have HOW := Lib.hid how; have HNW := Lib.hid hnw; clear hpu how hnw; have z10 : w10.cell? ⟨w3.heap.size, 6, none⟩ = some (.slice va q vc) := HS10.out.bx.cell rfl; clear s10 hxm) | (at_builtin; refine OwR.wp (K := rok.toRK) rfl _ _ rfl (w3.heap.size + 1) (.slice va q vc) xs rfl HOW.out (by have := HSO.out.bx.lt; have := HS10.out.bx.lt; simp; omega) ⟨w10.heap.size, 0, none⟩ 1 1 [⟨sa, sc, zs⟩] rfl rfl HNW.out (by have := HQ.out; have := HJO.out.2; omega) ?_; intro v9 w9 o9 g9 n9; have hpu := HPU.out v9 w9 o9 g9 n9 rfl; obtain ⟨a9, c9, e9, hc1, hc2⟩ := o9.sl; rw [List.length_append, List.length_singleton, HQ.out, HM.out] at e9; subst e9; have HZ9 := Lib.hid hpu.1; have z9 : w9.cell? ⟨w3.heap.size, 6, none⟩ = some (.slice va q vc) := HZ9.out.cell rfl; have f9 : w9.frozen? ⟨w3.heap.size, 6, none⟩ = false := HZ9.out.frz 6; obtain ⟨W11, hW11⟩ : ∃ W11, w9.setCell ⟨w3.heap.size, 6, none⟩ (.slice a9 m c9) = W11 := ⟨_, rfl⟩; have hs := hpu.2; rw [hW11] at hs; have HS11 := Lib.hid hs; have z11 : W11.cell? ⟨w3.heap.size, 6, none⟩ = some (.slice a9 m c9) := HS11.out.bx.cell rfl; clear hpu o9 g9 n9 hs) | (go_at_call 55; refine (more_n HS11.out.dp.ds m 50 50 rfl HMO.out).mono ?_; rintro e w12 ⟨rfl, s12⟩; have HS12 := Lib.hid (HS11.out.step s12); clear s12))
     have HSMX := HS12
     have hls := HLS2.out
     obtain ⟨hrr, hdd⟩ := some_pair hls
     clear hls
     subst hdd
     have hrr : (xs ++ [(⟨sa, sc, zs⟩ : XL XE)]).map rok.er = rr := by rw [List.map_append, List.map_cons, List.map_nil, HYE.out]; exact hrr
     obtain ⟨y, -, hyx, hF⟩ := HSMX.out.done (fun y => ({ kind := 5, table := tb, rows := y } : XSt)) (fun y => rfl) (fun y hy ho => XSt.Mem.mk ho.cols ho.names hy ho.items ho.src ho.whr ho.order ho.sets)
     have HFX := Lib.hid hF
     have HST := Lib.hid (show XSt.er { kind := 5, table := tb, rows := y } = { kind := 5, table := tb, rows := rr } by unfold XSt.er; simp only [er0, List.map_nil]; rw [show List.map rok.er y.xs = rr by rw [hyx]; exact hrr])
     clear hF hyx hrr
     go_wp2_with (first | (refine wpLv (x := { kind := 5, table := tb, rows := y }) rfl _ rfl HFX.out.bx rfl ?_) | (refine wpSv (x := { kind := 5, table := tb, rows := y }) rfl _ _ rfl HFX.out.rb rfl rfl rfl ?_; intro wz fz bz; have HFI := Lib.hid (And.intro bz (HFX.out.fin fz HST.out)); clear fz bz))
     exact retV Tryz.results52 HFI.out.1 rfl rfl (by rw [← HP.out, ← HR.out]; exact HFI.out.2)
   rw [if_neg (fun e => e he2)] at hin
   rw [he2] at v3
   obtain ⟨ex, s2, hwx, hez⟩ := bindO_some hin
   clear hin
   have hin := hez
   clear hez
   obtain ⟨m2, hm2⟩ : ∃ m, n0 + 1 = m := ⟨_, rfl⟩
   have HM2 := Lib.hid hm2
   rw [hm2] at hin
   obtain ⟨b2, d9, hmo2⟩ : ∃ b d, dMore ts m2 50 s2 = (b, d) := ⟨_, _, rfl⟩
   rw [hmo2] at hin
   dsimp only at hin
   have HMO2 := Lib.hid hmo2
   have HWX := Lib.hid hwx
   clear he2 hm2 hmo2 hwx
   have hmr2 := dMore_opn ts m2 50 s2
   rw [HMO2.out] at hmr2
   dsimp only at hmr2
   have HMR2 := Lib.hid hmr2
   clear hmr2
   cases b2 with
   | true =>
    rw [if_pos rfl] at hin
    have HIN2 := Lib.hid hin
    have HMT := Lib.hid (HMR2.out.2.2 rfl)
    clear hin
    go_wp2_with (first | (go_at_call 54; refine (whole_n HLQ.out.st.ds HKO.out.1 HWX.out).mono ?_; rintro e w8 ⟨x, rfl, hxe, hxm, s8, ho8, hi8⟩; have HXE := Lib.hid hxe; have HI8 := Lib.hid (And.intro ho8 hi8); have HPU2 := Lib.hid (fun v' w' => LsD.push (E := exk) (y := x) (v' := v') (w' := w') HLQ.out s8 hxm); have HL8 := Lib.hid (HLQ.out.step s8); have HOW2 := Lib.hid (HL8.out.own.below ((Below.refl w8.heap.size w8).alloc (Nat.le_refl _) (.cells (exk.cells [x]).toArray exk.te))); have HNW2 := Lib.hid (OwR.made_cells (K := exk.toRK) w8 [x]); clear hxe hxm s8 ho8 hi8; obtain ⟨op2, kind2, num2, scale2, text2, qual2, a2, cap2, args2⟩ := x; simp only [XE.val]) | (at_builtin; refine OwR.wp (K := exk.toRK) rfl _ _ rfl wo.heap.size (.slice sa n0 sc) zs rfl HOW2.out (by have := HLQ.out.st.fr.size; have := HL8.out.st.fr.size; simp; omega) ⟨w8.heap.size, 0, none⟩ 1 1 [(XE.mk op2 kind2 num2 scale2 text2 qual2 a2 cap2 args2)] rfl rfl HNW2.out (by have := HZ.out; have := HKO.out.2.1; omega) ?_; intro v9 w9 o9 g9 n9; have hl9 := HPU2.out v9 w9 o9 g9 n9; obtain ⟨a8, c8, e9, hc1, hc2⟩ := o9.sl; rw [List.length_append, List.length_singleton, HZ.out, HM2.out] at e9; subst e9; have HL9 := Lib.hid hl9; clear hl9 o9 g9 n9) | (go_at_call 55; refine (more_n HL9.out.st.ds m2 50 50 rfl HMO2.out).mono ?_; rintro e w10 ⟨rfl, s10⟩; have HL10 := Lib.hid (HL9.out.step s10); clear s10))
    refine ⟨⟨kk, Lib.hid ⟨d9, zs ++ [(XE.mk op2 kind2 num2 scale2 text2 qual2 a2 cap2 args2)], ?_, HL10.out, ?_, ?_, ?_⟩⟩, ?_⟩
    ·rw [List.map_append, List.map_cons, List.map_nil]
     rw [show exk.er (XE.mk op2 kind2 num2 scale2 text2 qual2 a2 cap2 args2) = ex from HXE.out]
     exact HIN2.out
    ·rw [HMR2.out.1]; exact HI8.out.1
    ·rw [List.length_append, List.length_singleton, HZ.out, HM2.out]
     have h1 := HMT.out.2.2
     have h2 := HKO.out.2.1
     have h3 := HM2.out
     omega
    ·have h1 := HMR2.out.2.1
     have h2 := HI8.out.2
     have h3 := HKO.out.2.2
     omega
    ·rw [HL10.out.st.ds.dlen, HDL2.out]
     have h1 := HMT.out
     have h2 := HI8.out.2
     omega
   | false =>
    rw [if_neg (by decide)] at hin
    obtain ⟨hl2, hdd⟩ := some_pair hin
    clear hin
    have HL2 := Lib.hid hl2
    have HDD := Lib.hid hdd
    clear hl2 hdd
    go_wp2_with (first | (go_at_call 54; refine (whole_n HLQ.out.st.ds HKO.out.1 HWX.out).mono ?_; rintro e w8 ⟨x, rfl, hxe, hxm, s8, ho8, hi8⟩; have HXE := Lib.hid hxe; have HI8 := Lib.hid (And.intro ho8 hi8); have HPU2 := Lib.hid (fun v' w' => LsD.push (E := exk) (y := x) (v' := v') (w' := w') HLQ.out s8 hxm); have HL8 := Lib.hid (HLQ.out.step s8); have HOW2 := Lib.hid (HL8.out.own.below ((Below.refl w8.heap.size w8).alloc (Nat.le_refl _) (.cells (exk.cells [x]).toArray exk.te))); have HNW2 := Lib.hid (OwR.made_cells (K := exk.toRK) w8 [x]); clear hxe hxm s8 ho8 hi8; obtain ⟨op2, kind2, num2, scale2, text2, qual2, a2, cap2, args2⟩ := x; simp only [XE.val]) | (at_builtin; refine OwR.wp (K := exk.toRK) rfl _ _ rfl wo.heap.size (.slice sa n0 sc) zs rfl HOW2.out (by have := HLQ.out.st.fr.size; have := HL8.out.st.fr.size; simp; omega) ⟨w8.heap.size, 0, none⟩ 1 1 [(XE.mk op2 kind2 num2 scale2 text2 qual2 a2 cap2 args2)] rfl rfl HNW2.out (by have := HZ.out; have := HKO.out.2.1; omega) ?_; intro v9 w9 o9 g9 n9; have hl9 := HPU2.out v9 w9 o9 g9 n9; obtain ⟨a8, c8, e9, hc1, hc2⟩ := o9.sl; rw [List.length_append, List.length_singleton, HZ.out, HM2.out] at e9; subst e9; have HL9 := Lib.hid hl9; clear hl9 o9 g9 n9) | (go_at_call 55; refine (more_n HL9.out.st.ds m2 50 50 rfl HMO2.out).mono ?_; rintro e w10 ⟨rfl, s10⟩; have HL10 := Lib.hid (HL9.out.step s10); clear s10))
    have hdd := HDD.out
    subst hdd
    have HLX := HL10
    have hl2 : (zs ++ [(XE.mk op2 kind2 num2 scale2 text2 qual2 a2 cap2 args2)]).map exk.er = l3 := by
     rw [List.map_append, List.map_cons, List.map_nil, show exk.er (XE.mk op2 kind2 num2 scale2 text2 qual2 a2 cap2 args2) = ex from HXE.out]
     exact HL2.out
    have hmu := dMust_opn ts 5 [41] d9
    rw [HE2.out] at hmu
    have hmr := dMore_opn ts m 50 s1
    rw [HMO.out] at hmr
    dsimp only at hmr
    have HO8 := Lib.hid (show d8.opn = 0 ∧ (b = true → ts.length - d8.i < ts.length - sj.i) ∧ (b = true → m < 50) from ⟨by rw [hmr.1, hmu.1, HMR2.out.1]; exact HI8.out.1, fun e => by have h1 := hmr.2.2 e; have h2 := hmu.2.1; have h3 := HKO.out.2.2; have h4 := HO5.out.2; have h5 := HMR2.out.2.1; have h6 := HI8.out.2; omega, fun e => by have h1 := (hmr.2.2 e).2.2; have h2 := HM.out; have h3 := HJO.out.2; omega⟩)
    clear hmu hmr
    have hls := HHLS.out
    clear HHLS HL2 HXE HPU2 HOW2 HNW2
    have hxl : XL.Mem exk (GE wo.heap.size) w10 ⟨a8, c8, zs ++ [(XE.mk op2 kind2 num2 scale2 text2 qual2 a2 cap2 args2)]⟩ := HLX.out.xl
    have HYM := Lib.hid hxl
    have HSO := Lib.hid (HSM.out.step HLX.out.st)
    have HYE := Lib.hid (show rok.er ⟨a8, c8, zs ++ [(XE.mk op2 kind2 num2 scale2 text2 qual2 a2 cap2 args2)]⟩ = l3 from hl2)
    have HCL := Lib.hid (show (rok.cells [(⟨a8, c8, zs ++ [(XE.mk op2 kind2 num2 scale2 text2 qual2 a2 cap2 args2)]⟩ : XL XE)]).toArray = #[.slice a8 m2 c8] by show #[Value.slice a8 (zs ++ [(XE.mk op2 kind2 num2 scale2 text2 qual2 a2 cap2 args2)]).length c8] = _; rw [List.length_append, List.length_singleton, HZ.out, HM2.out])
    clear hxl hl2
    cases b with
    | true =>
     rw [if_pos rfl] at hls
     have HLS2 := Lib.hid hls
     have HT8 := Lib.hid (And.intro (HO8.out.2.1 rfl) (HO8.out.2.2 rfl))
     clear hls
     go_wp2_with (first | (go_at_call 51; refine (must_n HSO.out.dp.ds 5 5 rfl [41] (by decide) HE2.out).mono ?_; rintro e w20 ⟨rfl, s20⟩; have HS20 := Lib.hid (HSO.out.step s20); have hxm := XL.Mem.frm s20.fr (fun k hk e => by have h1 : wo.heap.size ≤ k := hk; have h2 : k = pb := e; have := HSM.out.dp.ds.lt; omega) _ HYM.out; have hpu := fun v' w' => SmS.push (E := rok) (f := 6) (y := ⟨a8, c8, zs ++ [(XE.mk op2 kind2 num2 scale2 text2 qual2 a2 cap2 args2)]⟩) (v' := v') (w' := w') HS20.out (HSM.out.fresh (E := rok) hxm); have how := HS20.out.own.below ((Below.refl w20.heap.size w20).alloc (Nat.le_refl _) (.cells (rok.cells [⟨a8, c8, zs ++ [(XE.mk op2 kind2 num2 scale2 text2 qual2 a2 cap2 args2)]⟩]).toArray rok.te)); have hnw := OwR.made_cells (K := rok.toRK) w20 [⟨a8, c8, zs ++ [(XE.mk op2 kind2 num2 scale2 text2 qual2 a2 cap2 args2)]⟩]; simp only [HCL.out] at hpu how hnw; have HPU := Lib.hid hpu; have HOW := Lib.hid how; have HNW := Lib.hid hnw; clear hpu how hnw; have z20 : w20.cell? ⟨w3.heap.size, 6, none⟩ = some (.slice va q vc) := HS20.out.bx.cell rfl; clear s20 hxm) | (at_builtin; refine OwR.wp (K := rok.toRK) rfl _ _ rfl (w3.heap.size + 1) (.slice va q vc) xs rfl HOW.out (by have := HSO.out.bx.lt; have := HS20.out.bx.lt; simp; omega) ⟨w20.heap.size, 0, none⟩ 1 1 [⟨a8, c8, zs ++ [(XE.mk op2 kind2 num2 scale2 text2 qual2 a2 cap2 args2)]⟩] rfl rfl HNW.out (by have := HQ.out; have := HJO.out.2; omega) ?_; intro v9 w9 o9 g9 n9; have hpu := HPU.out v9 w9 o9 g9 n9 rfl; obtain ⟨a9, c9, e9, hc1, hc2⟩ := o9.sl; rw [List.length_append, List.length_singleton, HQ.out, HM.out] at e9; subst e9; have HZ9 := Lib.hid hpu.1; have z9 : w9.cell? ⟨w3.heap.size, 6, none⟩ = some (.slice va q vc) := HZ9.out.cell rfl; have f9 : w9.frozen? ⟨w3.heap.size, 6, none⟩ = false := HZ9.out.frz 6; obtain ⟨W11, hW11⟩ : ∃ W11, w9.setCell ⟨w3.heap.size, 6, none⟩ (.slice a9 m c9) = W11 := ⟨_, rfl⟩; have hs := hpu.2; rw [hW11] at hs; have HS11 := Lib.hid hs; have z11 : W11.cell? ⟨w3.heap.size, 6, none⟩ = some (.slice a9 m c9) := HS11.out.bx.cell rfl; clear hpu o9 g9 n9 hs) | (go_at_call 55; refine (more_n HS11.out.dp.ds m 50 50 rfl HMO.out).mono ?_; rintro e w12 ⟨rfl, s12⟩; have HS12 := Lib.hid (HS11.out.step s12); clear s12))
     refine ⟨⟨k, Lib.hid ⟨d8, _, xs ++ [⟨a8, c8, zs ++ [(XE.mk op2 kind2 num2 scale2 text2 qual2 a2 cap2 args2)]⟩], ?_, HS12.out, ?_, ?_⟩⟩, ?_⟩
     ·rw [List.map_append, List.map_cons, List.map_nil, HYE.out]; exact HLS2.out
     ·exact HO8.out.1
     ·rw [List.length_append, List.length_singleton, HQ.out, HM.out]; exact HT8.out.2
     ·rw [HS12.out.dp.ds.dlen, HDL.out]
      have h1 := HT8.out.1
      omega
    | false =>
     rw [if_neg (by decide)] at hls
     have HLS2 := Lib.hid hls
     clear hls
     go_upto_region 13 with (first | (go_at_call 51; refine (must_n HSO.out.dp.ds 5 5 rfl [41] (by decide) HE2.out).mono ?_; rintro e w20 ⟨rfl, s20⟩; have HS20 := Lib.hid (HSO.out.step s20); have hxm := XL.Mem.frm s20.fr (fun k hk e => by have h1 : wo.heap.size ≤ k := hk; have h2 : k = pb := e; have := HSM.out.dp.ds.lt; omega) _ HYM.out; have hpu := fun v' w' => SmS.push (E := rok) (f := 6) (y := ⟨a8, c8, zs ++ [(XE.mk op2 kind2 num2 scale2 text2 qual2 a2 cap2 args2)]⟩) (v' := v') (w' := w') HS20.out (HSM.out.fresh (E := rok) hxm); have how := HS20.out.own.below ((Below.refl w20.heap.size w20).alloc (Nat.le_refl _) (.cells (rok.cells [⟨a8, c8, zs ++ [(XE.mk op2 kind2 num2 scale2 text2 qual2 a2 cap2 args2)]⟩]).toArray rok.te)); have hnw := OwR.made_cells (K := rok.toRK) w20 [⟨a8, c8, zs ++ [(XE.mk op2 kind2 num2 scale2 text2 qual2 a2 cap2 args2)]⟩]; simp only [HCL.out] at hpu how hnw; have HPU := Lib.hid hpu; have HOW := Lib.hid how; have HNW := Lib.hid hnw; clear hpu how hnw; have z20 : w20.cell? ⟨w3.heap.size, 6, none⟩ = some (.slice va q vc) := HS20.out.bx.cell rfl; clear s20 hxm) | (at_builtin; refine OwR.wp (K := rok.toRK) rfl _ _ rfl (w3.heap.size + 1) (.slice va q vc) xs rfl HOW.out (by have := HSO.out.bx.lt; have := HS20.out.bx.lt; simp; omega) ⟨w20.heap.size, 0, none⟩ 1 1 [⟨a8, c8, zs ++ [(XE.mk op2 kind2 num2 scale2 text2 qual2 a2 cap2 args2)]⟩] rfl rfl HNW.out (by have := HQ.out; have := HJO.out.2; omega) ?_; intro v9 w9 o9 g9 n9; have hpu := HPU.out v9 w9 o9 g9 n9 rfl; obtain ⟨a9, c9, e9, hc1, hc2⟩ := o9.sl; rw [List.length_append, List.length_singleton, HQ.out, HM.out] at e9; subst e9; have HZ9 := Lib.hid hpu.1; have z9 : w9.cell? ⟨w3.heap.size, 6, none⟩ = some (.slice va q vc) := HZ9.out.cell rfl; have f9 : w9.frozen? ⟨w3.heap.size, 6, none⟩ = false := HZ9.out.frz 6; obtain ⟨W11, hW11⟩ : ∃ W11, w9.setCell ⟨w3.heap.size, 6, none⟩ (.slice a9 m c9) = W11 := ⟨_, rfl⟩; have hs := hpu.2; rw [hW11] at hs; have HS11 := Lib.hid hs; have z11 : W11.cell? ⟨w3.heap.size, 6, none⟩ = some (.slice a9 m c9) := HS11.out.bx.cell rfl; clear hpu o9 g9 n9 hs) | (go_at_call 55; refine (more_n HS11.out.dp.ds m 50 50 rfl HMO.out).mono ?_; rintro e w12 ⟨rfl, s12⟩; have HS12 := Lib.hid (HS11.out.step s12); clear s12))
     have HSMX := HS12
     have hls := HLS2.out
     obtain ⟨hrr, hdd⟩ := some_pair hls
     clear hls
     subst hdd
     have hrr : (xs ++ [(⟨a8, c8, zs ++ [(XE.mk op2 kind2 num2 scale2 text2 qual2 a2 cap2 args2)]⟩ : XL XE)]).map rok.er = rr := by rw [List.map_append, List.map_cons, List.map_nil, HYE.out]; exact hrr
     obtain ⟨y, -, hyx, hF⟩ := HSMX.out.done (fun y => ({ kind := 5, table := tb, rows := y } : XSt)) (fun y => rfl) (fun y hy ho => XSt.Mem.mk ho.cols ho.names hy ho.items ho.src ho.whr ho.order ho.sets)
     have HFX := Lib.hid hF
     have HST := Lib.hid (show XSt.er { kind := 5, table := tb, rows := y } = { kind := 5, table := tb, rows := rr } by unfold XSt.er; simp only [er0, List.map_nil]; rw [show List.map rok.er y.xs = rr by rw [hyx]; exact hrr])
     clear hF hyx hrr
     go_wp2_with (first | (refine wpLv (x := { kind := 5, table := tb, rows := y }) rfl _ rfl HFX.out.bx rfl ?_) | (refine wpSv (x := { kind := 5, table := tb, rows := y }) rfl _ _ rfl HFX.out.rb rfl rfl rfl ?_; intro wz fz bz; have HFI := Lib.hid (And.intro bz (HFX.out.fin fz HST.out)); clear fz bz))
     exact retV Tryz.results52 HFI.out.1 rfl rfl (by rw [← HP.out, ← HR.out]; exact HFI.out.2)
end Go.Proofs.YtofnkfjhmjecjaaGreatDoor
