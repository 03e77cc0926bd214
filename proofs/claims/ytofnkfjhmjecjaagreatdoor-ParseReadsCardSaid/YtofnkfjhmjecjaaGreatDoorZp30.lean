/-
  Texts of mine put together, in build order.
  Conditions: as each declaration says.
-/
import Derived.Deep.CutBlock
import Derived.Deep.DeepCutAuto
import Derived.Test.YtofnkfjhmjecjaaGreatDoorZp27
namespace Go.Proofs.YtofnkfjhmjecjaaGreatDoor
set_option maxRecDepth 100000
open Go.RowKit Go.Joins Go.ChangeShapes Go.WideShapes Go.Great
set_option linter.unusedVariables false
set_option linter.unusedSimpArgs false
theorem step_appR {ops : Array Oper} {o : Oper} {a : Act} {w : World} {K : Act → World → Prop} {Q : Exit → Act → World → Prop} {E : Prop} (hgd : o.guard = none) (s x : Operand) (t : TypeId)
  (ho : o.op = .call { callee := .builtin .append, args := #[s, x], argTypes := #[t, t] }) (v u : Value) (hs : a.eval s = v) (hx : a.eval x = u) {v' : Value} {w' : World}
  (hr : (Builtin.append_ #[t, t] o.type #[v, u]).run Tryz.prog w = .ok v' w') (h : K (a.put o.dst v') w') : if Region.wanted o (yielded ops a.tmps) = true then Oper.wp Tryz.prog o a w K Q else E := by
 have hw : Region.wanted o (yielded ops a.tmps) = true := by simp [Region.wanted, hgd]
 rw [if_pos hw]
 exact Lib.wp_append_run w s x t t ho v u hs hx _ _ hr h
def tyN : Nat → List Nat
 | 0 => []
 | 1 => wBool
 | 2 => wInt
 | 3 => wReal
 | _ => wText
def tyW : Array Value := s6 [[], wBool, wInt, wReal, wText]
def zs5 : Array Value := (List.replicate 5 (Value.string ByteArray.empty)).toArray
theorem tyN_lt (j : Nat) (hj : j < 5) : ∀ x ∈ tyN j, x < 256 := by
 have h : j = 0 ∨ j = 1 ∨ j = 2 ∨ j = 3 ∨ j = 4 := by omega
 rcases h with rfl | rfl | rfl | rfl | rfl <;> decide
theorem tyW_at {j : Nat} (hj : j < 5) : tyW[j]? = some (.string (strB (tyN j))) := by
 have h : j = 0 ∨ j = 1 ∨ j = 2 ∨ j = 3 ∨ j = 4 := by omega
 rcases h with rfl | rfl | rfl | rfl | rfl <;> rfl
def tyS (ts : List Tk) (d : DS) : Nat → Nat × DS
 | 0 => (0, d)
 | m + 1 => if (tyS ts d m).1 = 0 then (if dIs ts 1 (tyN (m + 1)) (tyS ts d m).2 = true then (m + 1, (tyS ts d m).2.next) else (0, (tyS ts d m).2)) else tyS ts d m
theorem tyS_dType (ts : List Tk) (d : DS) : dType ts d = if (tyS ts d 4).1 = 0 then (0, dFail 130 (tyS ts d 4).2) else tyS ts d 4 := by
 unfold dType
 by_cases c1 : dIs ts 1 wBool d = true
 ·simp [tyS, tyN, c1]
 ·by_cases c2 : dIs ts 1 wInt d = true
  ·simp [tyS, tyN, c1, c2]
  ·by_cases c3 : dIs ts 1 wReal d = true
   ·simp [tyS, tyN, c1, c2, c3]
   ·by_cases c4 : dIs ts 1 wText d = true
    ·simp [tyS, tyN, c1, c2, c3, c4]
    ·simp [tyS, tyN, c1, c2, c3, c4]
theorem tyS_opn (ts : List Tk) (d : DS) : ∀ m, (tyS ts d m).2.opn = d.opn ∧ d.i ≤ (tyS ts d m).2.i ∧ (tyS ts d m).1 ≤ m
 | 0 => ⟨rfl, Nat.le_refl _, Nat.le_refl _⟩
 | m + 1 => by
  have ih := tyS_opn ts d m
  unfold tyS
  by_cases c : (tyS ts d m).1 = 0
  ·rw [if_pos c]
   by_cases c2 : dIs ts 1 (tyN (m + 1)) (tyS ts d m).2 = true
   ·rw [if_pos c2]; exact ⟨ih.1, Nat.le_trans ih.2.1 (Nat.le_succ _), Nat.le_refl _⟩
   ·rw [if_neg c2]; exact ⟨ih.1, ih.2.1, Nat.zero_le _⟩
  ·rw [if_neg c]; exact ⟨ih.1, ih.2.1, Nat.le_succ_of_le ih.2.2⟩
theorem dType_opn (ts : List Tk) (d : DS) : (dType ts d).2.opn = d.opn ∧ d.i ≤ (dType ts d).2.i := by
 rw [tyS_dType]
 have h := tyS_opn ts d 4
 by_cases c : (tyS ts d 4).1 = 0
 ·rw [if_pos c]
  have h2 := dFail_opn 130 (tyS ts d 4).2
  exact ⟨by rw [h2.1]; exact h.1, by rw [h2.2.1]; exact h.2.1⟩
 ·rw [if_neg c]; exact ⟨h.1, h.2.1⟩
set_option maxHeartbeats 16000000 in
theorem create_d {w : World} {s : DS} {ts : List Tk} {pb n : Nat} {r : Stm × DS} (h : DsM w pb ts s) (ho : s.opn = 0) (hr : dCreate ts n s = some r) :
  Calls Tryz.prog 49 #[.pointer (some ⟨pb, 0, none⟩)] w (EndV w pb ts r) := by
 generalize hP : EndV w pb ts r = P
 have HP := Lib.hid hP
 have hsp := SmP.start h
 obtain ⟨w1, hw1⟩ : ∃ w1, w.alloc (.cells zst 34) = w1 := ⟨_, rfl⟩
 rw [hw1] at hsp
 have HS1 := Lib.hid hsp
 unfold zst at hw1
 clear hsp hP h
 obtain ⟨bt, d0, hgt⟩ : ∃ b d, dGot ts 1 wTable s = (b, d) := ⟨_, _, rfl⟩
 have HGT := Lib.hid hgt
 have hgo := dGot_opn ts 1 wTable s
 rw [hgt] at hgo
 dsimp only at hgo
 have HO0 := Lib.hid (show d0.opn = 0 by rw [hgo.1]; exact ho)
 have hr2 : (if bt = true then bindO (dEncl ts (dCol ts) 16 n (dName ts d0).2) (fun c d2 => some (({ kind := 1, table := (dName ts d0).1, cols := c } : Stm), d2))
  else bindO (dEncl ts (fun d => some (dName ts d)) 4 n (dName ts (dMust ts 1 wOn (dName ts (dMust ts 1 wIndex (dGot ts 1 wUnique d0).2)).2)).2) (fun c d5 => some (({ kind := 3, table := (dName ts (dMust ts 1 wOn (dName ts (dMust ts 1 wIndex (dGot ts 1 wUnique d0).2)).2)).1, index := (dName ts (dMust ts 1 wIndex (dGot ts 1 wUnique d0).2)).1, names := c, uniq := (dGot ts 1 wUnique d0).1 } : Stm), d5))) = some r := by
  unfold dCreate at hr
  unfold dGot at hgt
  by_cases c : dIs ts 1 wTable s = true
  ·rw [if_pos c] at hgt hr
   injection hgt with e1 e2
   subst e1 e2
   rw [if_pos rfl]
   exact hr
  ·rw [if_neg c] at hgt hr
   injection hgt with e1 e2
   subst e1 e2
   rw [if_neg (by decide)]
   exact hr
 have HR := Lib.hid hr2
 clear hr hr2 hgt hgo ho
 go_enter Tryz.func49, Tryz.ntmps49
 go_upto_if 9 with (first | (refine wpSv (x := { kind := 1 }) rfl _ _ rfl (Bx.new w1 zst 34) rfl rfl rfl ?_; intro w2 f2 b2; have HF2 := Lib.hid (HS1.out.made f2 b2 (memz _ _ nl nl nl nl nl nx nl nl)); clear f2 b2) | (go_at_call 48; refine (got_n HF2.out.dp.ds 1 1 rfl wTable (by decide) HGT.out).mono ?_; rintro e w3 ⟨rfl, s3⟩; have HF3 := Lib.hid (HF2.out.step s3); clear s3 HGT))
 cases bt with
 | true =>
  have hr := HR.out
  rw [if_pos rfl] at hr
  obtain ⟨tb, d1, hna⟩ : ∃ a d, dName ts d0 = (a, d) := ⟨_, _, rfl⟩
  rw [hna] at hr
  dsimp only at hr
  obtain ⟨cl, dz, hen, hrz⟩ := bindO_some hr
  clear hr HR
  have HR := Lib.hid (show (({ kind := 1, table := tb, cols := cl } : Stm), dz) = r from Option.some.inj hrz)
  clear hrz
  obtain ⟨d2, hm2⟩ : ∃ d, dMust ts 5 [40] d1 = d := ⟨_, rfl⟩
  have hen2 : bindO (dLs ts (dCol ts) 16 n [] (dMust ts 5 [40] d1)) (fun l d2 => some (l, dMust ts 5 [41] d2)) = some (cl, dz) := hen
  clear hen
  rw [hm2] at hen2
  obtain ⟨cl2, d3, hcl, hen3⟩ := bindO_some hen2
  clear hen2
  obtain ⟨e1, e2⟩ := some_pair hen3
  clear hen3
  subst e1
  have HDZ := Lib.hid e2
  have HCL := Lib.hid hcl
  have HM2 := Lib.hid hm2
  have HNA := Lib.hid hna
  have hn1 := dName_opn ts d0
  rw [hna] at hn1
  dsimp only at hn1
  have HOP2 := Lib.hid (show d2.opn = 0 by rw [← hm2, (dMust_opn ts 5 [40] d1).1, hn1.1]; exact HO0.out)
  have z3 : w3.cell? ⟨w1.heap.size, 1, none⟩ = some (.string ⟨#[]⟩) := HF3.out.bx.cell rfl
  clear e2 hcl hm2 hna hn1 z3
  go_upto_block 0 with (first | (go_at_call 50; refine (name_n HF3.out.dp.ds HNA.out).mono ?_; rintro e w4 ⟨rfl, s4⟩; have HF4 := Lib.hid (HF3.out.step s4); have z4 : w4.cell? ⟨w1.heap.size, 1, none⟩ = some (.string ⟨#[]⟩) := HF4.out.bx.cell rfl; have f4 : w4.frozen? ⟨w1.heap.size, 1, none⟩ = false := HF4.out.bx.frz 1; have hf5 := HF4.out.set { kind := 1, table := tb } 1 (.string (strB tb)) rfl (memz _ _ nl nl nl nl nl nx nl nl); obtain ⟨W5, hW5⟩ : ∃ W5, w4.setCell ⟨w1.heap.size, 1, none⟩ (.string (strB tb)) = W5 := ⟨_, rfl⟩; rw [hW5] at hf5; have HF5 := Lib.hid hf5; clear s4 hf5 HNA HF3) | (go_at_call 51; refine (must_n HF5.out.dp.ds 5 5 rfl [40] (by decide) HM2.out).mono ?_; rintro e w6 ⟨rfl, s6⟩; have HF6 := Lib.hid (HF5.out.step s6); clear s6 HM2))
  go_cut [4, 5, 6] (fun q1 q2 q3 wx => Hid (∃ y : XL Co, y.xs.map cok.er = cl2 ∧ SmF w wx pb w1.heap.size ts d3 { kind := 1, table := tb, cols := y } ∧ d3.opn = 0))
  case first =>
   go_wp2_with fail
   go_loopw [4, 5, 6] (fun _ _ _ wr => ∃ (k : Nat), Hid (∃ (sj : DS) (v : Value) (xs : List Co), dLs ts (dCol ts) 16 k (xs.map cok.er) sj = some (cl2, d3) ∧ SmS cok NX w wr pb w1.heap.size ts sj (fun v => #[.int .i64 1, .string (strB tb), .string ⟨#[]⟩, v, .slice none 0 0, .bool false, .slice none 0 0, .slice none 0 0, .slice none 0 0, .int .i64 0, .slice none 0 0, .int .i64 0, .int .i64 0, .int .i64 0, .string ⟨#[]⟩, .string ⟨#[]⟩, .slice none 0 0, .slice none 0 0] : Value → Array Value) v xs { kind := 1, table := tb } ∧ sj.opn = 0 ∧ xs.length < 16)) (fun _ _ _ wr => dlen wr pb)
   case atStart => exact ⟨n, Lib.hid ⟨d2, _, [], HCL.out, HF6.out.grow rfl, HOP2.out, by simp⟩⟩
   case round =>
    obtain ⟨wo, hwo⟩ : ∃ wo, wo = wr := ⟨wr, rfl⟩
    subst hwo
    obtain ⟨k, HJ⟩ := hrel
    obtain ⟨sj, v, xs, hls, hsm, hjo, hxl⟩ := HJ.out
    obtain ⟨k, rfl⟩ : ∃ k', k = k' + 1 := by
     cases k with
     | zero => rw [dLs] at hls; cases hls
     | succ k => exact ⟨k, rfl⟩
    rw [dLs] at hls
    have hdl := hsm.dp.ds.dlen
    have HDL := Lib.hid hdl
    obtain ⟨aq, capq, hbq, -⟩ := hsm.dp.ds.hd
    obtain ⟨⟨-, -, -, y3, -⟩, -⟩ := hbq.five
    obtain ⟨va, vc, rfl, hvc1, hvc2⟩ := hsm.own.sl
    obtain ⟨q, hq⟩ : ∃ q, xs.length = q := ⟨_, rfl⟩
    have HQ := Lib.hid hq
    rw [List.length_map, hq] at hls
    rw [hq] at hsm hxl
    have HSM := Lib.hid hsm
    have HJO := Lib.hid (And.intro hjo hxl)
    clear hsm hdl hbq hjo hxl HJ hq hvc1 hvc2
    by_cases he : sj.e = 0
    case neg =>
     have q0 : ((sj.e : Int) == 0) = false := by simp; omega
     rw [if_pos he] at hls
     obtain ⟨hrr, hdd⟩ := some_pair hls
     clear hls
     subst hdd
     clear he
     obtain ⟨y, -, hyx, hF⟩ := HSM.out.done (fun y => ({ kind := 1, table := tb, cols := y } : XSt)) (fun y => rfl) (fun y hy ho => ⟨hy, ho.names, ho.rows, ho.items, ho.src, ho.whr, ho.order, ho.sets⟩)
     have HFX := Lib.hid hF
     have HYX := Lib.hid (show y.xs.map cok.er = cl2 by rw [hyx]; exact hrr)
     clear hF hyx hrr
     go_wp2_with fail
     go_meet
     exact Lib.hid ⟨y, HYX.out, HFX.out, HJO.out.1⟩
    rw [if_neg (fun e => e he)] at hls
    rw [he] at y3
    obtain ⟨co1, s1, hen, hlz⟩ := bindO_some hls
    clear hls
    have hls := hlz
    clear hlz
    unfold dCol at hen
    obtain ⟨cn, k1, hna⟩ : ∃ a d, dName ts sj = (a, d) := ⟨_, _, rfl⟩
    obtain ⟨ct, k2, hty⟩ : ∃ a d, dType ts k1 = (a, d) := ⟨_, _, rfl⟩
    obtain ⟨rq, k3, hgn⟩ : ∃ b d, dGot ts 1 wNot k2 = (b, d) := ⟨_, _, rfl⟩
    have hen2 : (if dIs ts 1 wNot (dType ts (dName ts sj).2).2 = true then some ((⟨(dName ts sj).1, (dType ts (dName ts sj).2).1, true⟩ : Co), dMust ts 1 wNull (dType ts (dName ts sj).2).2.next) else some ((⟨(dName ts sj).1, (dType ts (dName ts sj).2).1, false⟩ : Co), (dType ts (dName ts sj).2).2)) = some (co1, s1) := hen
    clear hen
    rw [hna] at hen2
    dsimp only at hen2
    rw [hty] at hen2
    dsimp only at hen2
    have hen3 : co1 = ⟨cn, ct, rq⟩ ∧ s1 = (if rq = true then dMust ts 1 wNull k3 else k3) := by
     unfold dGot at hgn
     by_cases c : dIs ts 1 wNot k2 = true
     ·rw [if_pos c] at hgn hen2
      injection hgn with e1 e2
      subst e1 e2
      obtain ⟨e3, e4⟩ := some_pair hen2
      subst e3 e4
      exact ⟨rfl, (if_pos rfl).symm⟩
     ·rw [if_neg c] at hgn hen2
      injection hgn with e1 e2
      subst e1 e2
      obtain ⟨e3, e4⟩ := some_pair hen2
      subst e3 e4
      exact ⟨rfl, (if_neg (by decide)).symm⟩
    clear hen2
    obtain ⟨e3, e4⟩ := hen3
    subst e3
    have hnx := dName_opn ts sj
    rw [hna] at hnx
    have htx := dType_opn ts k1
    rw [hty] at htx
    have hgx := dGot_opn ts 1 wNot k2
    rw [hgn] at hgx
    have hmx := dMust_opn ts 1 wNull k3
    dsimp only at hnx htx hgx
    have hall : s1.opn = 0 ∧ sj.i ≤ s1.i := by
     rw [e4]
     have h0 := HJO.out.1
     by_cases c : rq = true
     ·rw [if_pos c]; exact ⟨by rw [hmx.1, hgx.1, htx.1, hnx.1]; exact h0, by omega⟩
     ·rw [if_neg c]; exact ⟨by rw [hgx.1, htx.1, hnx.1]; exact h0, by omega⟩
    have HALL := Lib.hid hall
    have HS1E := Lib.hid e4
    have HNA := Lib.hid hna
    have HTY := Lib.hid hty
    have HGN := Lib.hid hgn
    obtain ⟨m, hm⟩ : ∃ m, q + 1 = m := ⟨_, rfl⟩
    have HM := Lib.hid hm
    rw [hm] at hls
    obtain ⟨b, d8, hmo⟩ : ∃ b d, dMore ts m 16 s1 = (b, d) := ⟨_, _, rfl⟩
    rw [hmo] at hls
    dsimp only at hls
    have HMO := Lib.hid hmo
    have hmr := dMore_opn ts m 16 s1
    rw [hmo] at hmr
    dsimp only at hmr
    have HMR := Lib.hid hmr
    clear hm hmo hmr
    clear hall e4 hna hty hgn hnx htx hgx hmx he
    go_upto_region 7 with (first | (go_at_call 50; refine (name_n HSM.out.dp.ds HNA.out).mono ?_; rintro e w4 ⟨rfl, s4⟩; have HS4 := Lib.hid s4; clear s4 HNA) | (refine wpSe cok (x := (⟨cn, 0, false⟩ : Co)) rfl _ _ rfl rfl (Bx.new w4 #[.string ⟨#[]⟩, .int .i64 0, .bool false] 74) rfl rfl rfl ?_; intro w5 f5 b5; have HE5 := Lib.hid (show ElS cok wo w5 pb w4.heap.size ts k1 ⟨cn, 0, false⟩ from ElS.made HS4.out HSM.out.dp.ds.lt f5 b5 True.intro); clear f5 b5))
    have hnt := Bx.new w5 tyW 106
    have bt5 : Below w5.heap.size w5 (w5.alloc (.cells tyW 106)) := (Below.refl _ _).alloc (Nat.le_refl _) _
    obtain ⟨w6, hw6⟩ : ∃ w6, w5.alloc (.cells tyW 106) = w6 := ⟨_, rfl⟩
    rw [hw6] at hnt bt5
    have HBT := Lib.hid hnt
    have HE6 := Lib.hid (HE5.out.step ((Dp.refl HE5.out.dp.ds).below bt5))
    have HPT := Lib.hid (show ¬ w5.heap.size = pb by have := HE5.out.dp.ds.lt; omega)
    have HNE := Lib.hid (show ¬ w5.heap.size = w4.heap.size by have := HE5.out.bx.lt; omega)
    clear hnt bt5
    refine wp_region_lit ?_
    refine arr_one 106 tyW zs5 23 5 _ rfl rfl rfl (by kernel_rfl) rfl rfl (by kernel_rfl) rfl rfl rfl rfl rfl (by kernel_rfl) (by kernel_rfl) (by kernel_rfl) ?_
    rw [hw6]
    refine wpList_nil ?_
    simp only [Act.put, List.setIfInBounds_toArray, List.set_cons_zero, List.set_cons_succ]
    go_wp2_with fail
    go_loopw [6] (fun i wr => ∃ (p j : Nat), p ≤ 4 ∧ i = .int .i64 (j : Int) ∧ Hid (p + 1 = j ∧ ElS cok wo wr pb w4.heap.size ts (tyS ts k1 p).2 ⟨cn, (tyS ts k1 p).1, false⟩ ∧ Bx wr w5.heap.size tyW 106)) (fun i _ => 5 - (intOf i).toNat)
    case atStart => exact ⟨0, 1, by omega, rfl, Lib.hid ⟨rfl, HE6.out, HBT.out⟩⟩
    case round =>
     obtain ⟨p, j, hp4, rfl, HK⟩ := hrel
     obtain ⟨hpj, hke, hkb⟩ := HK.out
     have HPJ := Lib.hid hpj
     have HKE := Lib.hid hke
     have HKB := Lib.hid hkb
     clear hpj hke hkb HK
     by_cases h5 : j < 5
     ·have hjl : (j : Int) < 5 := by omega
      have hj0 : (0 : Int) ≤ (j : Int) := by omega
      have wj : IntKind.i64.wrap ((j : Int) + 1) = (j : Int) + 1 := by rw [IntKind.wrap_i64]; omega
      have kv : wr.cell? ⟨w5.heap.size, j, none⟩ = some (.string (strB (tyN j))) := HKB.out.cell (tyW_at h5)
      have zc : wr.cell? ⟨w4.heap.size, 1, none⟩ = some (.int .i64 ((tyS ts k1 p).1 : Int)) := HKE.out.bx.cell rfl
      have fc : wr.frozen? ⟨w4.heap.size, 1, none⟩ = false := HKE.out.bx.frz 1
      obtain ⟨TT, hTT⟩ : ∃ TT, strB (tyN j) = TT := ⟨_, rfl⟩
      have HTT := Lib.hid hTT
      rw [hTT] at kv
      have H5 := Lib.hid h5
      have hnext : tyS ts k1 (p + 1) = if (tyS ts k1 p).1 = 0 then (if dIs ts 1 (tyN j) (tyS ts k1 p).2 = true then (j, (tyS ts k1 p).2.next) else (0, (tyS ts k1 p).2)) else tyS ts k1 p := by rw [← HPJ.out]; rfl
      clear hTT
      by_cases ct0 : (tyS ts k1 p).1 = 0
      ·rw [ct0] at zc HKE
       rw [if_pos ct0] at hnext
       by_cases c : dIs ts 1 (tyN j) (tyS ts k1 p).2 = true
       ·rw [if_pos c] at hnext
        have HNX := Lib.hid hnext
        have hg := got_n HKE.out.dp.ds 1 1 rfl (tyN j) (tyN_lt j h5) (dGot_yes c)
        rw [HTT.out] at hg
        have HG := Lib.hid hg
        clear hnext c ct0 hg hp4 h5
        go_wp2_with (first | (go_at_call 48; refine HG.out.mono ?_; rintro e w8 ⟨rfl, s8⟩; have HE8 := Lib.hid (HKE.out.step s8); have hb8 := HKB.out.frm s8.fr HPT.out; have z8 : w8.cell? ⟨w4.heap.size, 1, none⟩ = some (.int .i64 0) := HE8.out.bx.cell rfl; have f8 : w8.frozen? ⟨w4.heap.size, 1, none⟩ = false := HE8.out.bx.frz 1; have he9 := HE8.out.set (⟨cn, j, false⟩ : Co) 1 (.int .i64 (j : Int)) rfl True.intro; have hb9 := hb8.frm (Frm.set1 (F := fun k => k = w4.heap.size) w8 rfl 1 (.int .i64 (j : Int))) (fun e => HNE.out e); obtain ⟨W9, hW9⟩ : ∃ W9, w8.setCell ⟨w4.heap.size, 1, none⟩ (.int .i64 (j : Int)) = W9 := ⟨_, rfl⟩; rw [hW9] at he9 hb9; have HE9 := Lib.hid he9; have HB9 := Lib.hid hb9; clear s8 hb8 he9 hb9 HG))
        refine ⟨⟨p + 1, j + 1, by have := HPJ.out; have := H5.out; omega, by simp, Lib.hid ⟨by rw [HPJ.out], ?_, HB9.out⟩⟩, by have := H5.out; simp [intOf]; omega⟩
        rw [HNX.out]
        exact HE9.out
       ·rw [if_neg c] at hnext
        have HNX := Lib.hid hnext
        have hg := got_n HKE.out.dp.ds 1 1 rfl (tyN j) (tyN_lt j h5) (dGot_no (show dIs ts 1 (tyN j) (tyS ts k1 p).2 = false by simpa using c))
        rw [HTT.out] at hg
        have HG := Lib.hid hg
        clear hnext c ct0 hg hp4 h5
        go_wp2_with (first | (go_at_call 48; refine HG.out.mono ?_; rintro e w8 ⟨rfl, s8⟩; have HE8 := Lib.hid (HKE.out.step s8); have HB8 := Lib.hid (HKB.out.frm s8.fr HPT.out); clear s8 HG))
        refine ⟨⟨p + 1, j + 1, by have := HPJ.out; have := H5.out; omega, by simp, Lib.hid ⟨by rw [HPJ.out], ?_, HB8.out⟩⟩, by have := H5.out; simp [intOf]; omega⟩
        rw [HNX.out]
        exact HE8.out
      ·have q0 : (((tyS ts k1 p).1 : Int) == 0) = false := by simp; omega
       rw [if_neg ct0] at hnext
       have HNX := Lib.hid hnext
       clear hnext hp4 h5 kv
       go_wp2_with fail
       refine ⟨⟨p + 1, j + 1, by have := HPJ.out; have := H5.out; omega, by simp, Lib.hid ⟨by rw [HPJ.out], ?_, HKB.out⟩⟩, by have := H5.out; simp [intOf]; omega⟩
       rw [HNX.out]
       exact HKE.out
     ·have hp : p = 4 := by have := HPJ.out; omega
      have hj5 : j = 5 := by have := HPJ.out; omega
      have HJ5 := Lib.hid hj5
      subst hj5
      subst hp
      have zc : wr.cell? ⟨w4.heap.size, 1, none⟩ = some (.int .i64 ((tyS ts k1 4).1 : Int)) := HKE.out.bx.cell rfl
      have htd := tyS_dType ts k1
      rw [HTY.out] at htd
      have HTD := Lib.hid htd
      clear htd hp4 h5
      go_upto_if 42 with fail
      go_cut [] (fun wx => Hid (ElS cok wo wx pb w4.heap.size ts k2 ⟨cn, ct, false⟩))
      case first =>
       by_cases c0 : (tyS ts k1 4).1 = 0
       ·have htd := HTD.out
        rw [if_pos c0] at htd
        injection htd with e1 e2
        have HEE := Lib.hid (And.intro e1 e2)
        have HC0 := Lib.hid c0
        rw [c0] at zc
        have q0 : (((tyS ts k1 4).1 : Int) == 0) = true := by rw [c0]; rfl
        clear e1 e2 c0
        go_wp2_with (first | (go_at_call 24; refine (fail_n HKE.out.dp.ds 130 130 rfl (by decide) rfl).mono ?_; rintro e w8 ⟨rfl, s8⟩; have HE8 := Lib.hid (HKE.out.step s8); clear s8))
        go_meet
        have h8 := HE8.out
        rw [HC0.out, ← HEE.out.2, ← HEE.out.1] at h8
        exact Lib.hid h8
       ·have htd := HTD.out
        rw [if_neg c0] at htd
        have q0 : (((tyS ts k1 4).1 : Int) == 0) = false := by simp; omega
        have HEE := Lib.hid htd
        clear htd
        go_wp2_with fail
        go_meet
        have h8 := HKE.out
        rw [← HEE.out] at h8
        exact Lib.hid h8
      case rest =>
       have HE10 := Lib.hid hcut.out
       clear hcut
       go_upto_if 46 with (first | (go_at_call 48; refine (got_n HE10.out.dp.ds 1 1 rfl wNot (by decide) HGN.out).mono ?_; rintro e w11 ⟨rfl, s11⟩; have HE11 := Lib.hid (HE10.out.step s11); clear s11 HGN))
       go_cut [] (fun wx => Hid (ElS cok wo wx pb w4.heap.size ts s1 ⟨cn, ct, rq⟩))
       case first =>
        cases rq with
        | true =>
         have hs1 := HS1E.out
         rw [if_pos rfl] at hs1
         have HM3 := Lib.hid hs1.symm
         clear hs1 HS1E
         go_wp2_with (first | (go_at_call 51; refine (must_n HE11.out.dp.ds 1 1 rfl wNull (by decide) HM3.out).mono ?_; rintro e w12 ⟨rfl, s12⟩; have HE12 := Lib.hid (HE11.out.step s12); have z12 : w12.cell? ⟨w4.heap.size, 2, none⟩ = some (.bool false) := HE12.out.bx.cell rfl; have f12 : w12.frozen? ⟨w4.heap.size, 2, none⟩ = false := HE12.out.bx.frz 2; have he13 := HE12.out.set (⟨cn, ct, true⟩ : Co) 2 (.bool true) rfl True.intro; obtain ⟨W13, hW13⟩ : ∃ W, w12.setCell ⟨w4.heap.size, 2, none⟩ (.bool true) = W := ⟨_, rfl⟩; rw [hW13] at he13; have HE13 := Lib.hid he13; clear s12 he13 HM3))
         go_meet
         exact HE13
        | false =>
         have hs1 := HS1E.out
         rw [if_neg (by decide)] at hs1
         clear HS1E
         go_wp2_with fail
         go_meet
         have h8 := HE11.out
         rw [← hs1] at h8
         exact Lib.hid h8
       case rest =>
        have HE12 := Lib.hid hcut.out
        clear hcut HS1E
        have HSE := Lib.hid (HSM.out.step HE12.out.dp)
        have hye := cok.mono (K' := fun k => w1.heap.size < k ∧ Value.ownBlock (.slice va q vc) ≠ some k ∧ ¬ NX k) (fun k hk => ⟨by have h1 := HSM.out.bx.lt; have h2 := hk.1; omega, fun e => by have h1 := (HSM.out.own.lt e).2.1; have h2 := hk.1; omega, id⟩) _ HE12.out.mm
        have HPU := Lib.hid (fun v' w' => SmS.push (E := cok) (f := 3) (y := (⟨cn, ct, rq⟩ : Co)) (v' := v') (w' := w') HSE.out hye)
        have HOW := Lib.hid (HSE.out.own.below ((Below.refl wc.heap.size wc).alloc (Nat.le_refl _) (.cells (cok.cells [(⟨cn, ct, rq⟩ : Co)]).toArray cok.te)))
        have HNW := Lib.hid (OwR.made_cells (K := cok.toRK) wc [(⟨cn, ct, rq⟩ : Co)])
        have z10 : wc.cell? ⟨w1.heap.size, 3, none⟩ = some (.slice va q vc) := HSE.out.bx.cell rfl
        clear hye
        cases b with
        | true =>
         rw [if_pos rfl] at hls
         have HLS2 := Lib.hid hls
         have HMT := Lib.hid (HMR.out.2.2 rfl)
         clear hls
         go_wp2_with (first | (refine wpLe cok Tryz.underlying74 rfl rfl _ rfl (x := (⟨cn, ct, rq⟩ : Co)) rfl HE12.out.bx rfl ?_; simp only [cok]) | (at_builtin; refine OwR.wp (K := cok.toRK) rfl _ _ rfl (w1.heap.size + 1) (.slice va q vc) xs rfl HOW.out (by have := HSE.out.bx.lt; simp; omega) ⟨wc.heap.size, 0, none⟩ 1 1 [(⟨cn, ct, rq⟩ : Co)] rfl rfl HNW.out (by have := HQ.out; have := HJO.out.2; omega) ?_; intro v9 w9 o9 g9 n9; have hpu := HPU.out v9 w9 o9 g9 n9 rfl; obtain ⟨a9, c9, e9, hc1, hc2⟩ := o9.sl; rw [List.length_append, List.length_singleton, HQ.out, HM.out] at e9; subst e9; have HZ9 := Lib.hid hpu.1; have z9 : w9.cell? ⟨w1.heap.size, 3, none⟩ = some (.slice va q vc) := HZ9.out.cell rfl; have f9 : w9.frozen? ⟨w1.heap.size, 3, none⟩ = false := HZ9.out.frz 3; obtain ⟨W11, hW11⟩ : ∃ W11, w9.setCell ⟨w1.heap.size, 3, none⟩ (.slice a9 m c9) = W11 := ⟨_, rfl⟩; have hs := hpu.2; rw [hW11] at hs; have HS11 := Lib.hid hs; have z11 : W11.cell? ⟨w1.heap.size, 3, none⟩ = some (.slice a9 m c9) := HS11.out.bx.cell rfl; clear hpu o9 g9 n9 hs) | (go_at_call 55; refine (more_n HS11.out.dp.ds m 16 16 rfl HMO.out).mono ?_; rintro e w12 ⟨rfl, s12⟩; have HS12 := Lib.hid (HS11.out.step s12); clear s12))
         refine ⟨⟨k, Lib.hid ⟨d8, _, xs ++ [(⟨cn, ct, rq⟩ : Co)], ?_, HS12.out, ?_, ?_⟩⟩, ?_⟩
         ·rw [List.map_append, List.map_cons, List.map_nil, show cok.er (⟨cn, ct, rq⟩ : Co) = ⟨cn, ct, rq⟩ from rfl]; exact HLS2.out
         ·rw [HMR.out.1]; exact HALL.out.1
         ·rw [List.length_append, List.length_singleton, HQ.out, HM.out]
          have h1 := HMT.out.2.2
          have h2 := HM.out
          have h3 := HJO.out.2
          omega
         ·rw [HS12.out.dp.ds.dlen, HDL.out]
          have h1 := HMT.out
          have h2 := HALL.out.2
          omega
        | false =>
         rw [if_neg (by decide)] at hls
         have HLS2 := Lib.hid hls
         clear hls
         go_wp2_with (first | (refine wpLe cok Tryz.underlying74 rfl rfl _ rfl (x := (⟨cn, ct, rq⟩ : Co)) rfl HE12.out.bx rfl ?_; simp only [cok]) | (at_builtin; refine OwR.wp (K := cok.toRK) rfl _ _ rfl (w1.heap.size + 1) (.slice va q vc) xs rfl HOW.out (by have := HSE.out.bx.lt; simp; omega) ⟨wc.heap.size, 0, none⟩ 1 1 [(⟨cn, ct, rq⟩ : Co)] rfl rfl HNW.out (by have := HQ.out; have := HJO.out.2; omega) ?_; intro v9 w9 o9 g9 n9; have hpu := HPU.out v9 w9 o9 g9 n9 rfl; obtain ⟨a9, c9, e9, hc1, hc2⟩ := o9.sl; rw [List.length_append, List.length_singleton, HQ.out, HM.out] at e9; subst e9; have HZ9 := Lib.hid hpu.1; have z9 : w9.cell? ⟨w1.heap.size, 3, none⟩ = some (.slice va q vc) := HZ9.out.cell rfl; have f9 : w9.frozen? ⟨w1.heap.size, 3, none⟩ = false := HZ9.out.frz 3; obtain ⟨W11, hW11⟩ : ∃ W11, w9.setCell ⟨w1.heap.size, 3, none⟩ (.slice a9 m c9) = W11 := ⟨_, rfl⟩; have hs := hpu.2; rw [hW11] at hs; have HS11 := Lib.hid hs; have z11 : W11.cell? ⟨w1.heap.size, 3, none⟩ = some (.slice a9 m c9) := HS11.out.bx.cell rfl; clear hpu o9 g9 n9 hs) | (go_at_call 55; refine (more_n HS11.out.dp.ds m 16 16 rfl HMO.out).mono ?_; rintro e w12 ⟨rfl, s12⟩; have HS12 := Lib.hid (HS11.out.step s12); clear s12))
         have hls := HLS2.out
         obtain ⟨hrr, hdd⟩ := some_pair hls
         clear hls
         subst hdd
         have hrr : (xs ++ [(⟨cn, ct, rq⟩ : Co)]).map cok.er = cl2 := by rw [List.map_append, List.map_cons, List.map_nil, show cok.er (⟨cn, ct, rq⟩ : Co) = ⟨cn, ct, rq⟩ from rfl]; exact hrr
         obtain ⟨y, -, hyx, hF⟩ := HS12.out.done (fun y => ({ kind := 1, table := tb, cols := y } : XSt)) (fun y => rfl) (fun y hy ho => ⟨hy, ho.names, ho.rows, ho.items, ho.src, ho.whr, ho.order, ho.sets⟩)
         have HFX := Lib.hid hF
         have HYX := Lib.hid (show y.xs.map cok.er = cl2 by rw [hyx]; exact hrr)
         clear hF hyx hrr
         go_wp2_with fail
         go_meet
         exact Lib.hid ⟨y, HYX.out, HFX.out, (by rw [HMR.out.1]; exact HALL.out.1)⟩


  case rest =>
   obtain ⟨y, hyy, hF, -⟩ := hcut.out
   have HFd := Lib.hid hF
   have HST := Lib.hid (show XSt.er { kind := 1, table := tb, cols := y } = { kind := 1, table := tb, cols := cl2 } by unfold XSt.er; simp only [er0, List.map_nil]; rw [show List.map cok.er y.xs = cl2 from hyy])
   clear hcut hF hyy
   go_upto_region 21 with (first | (go_at_call 51; refine (must_n HFd.out.dp.ds 5 5 rfl [41] (by decide) HDZ.out).mono ?_; rintro e wA ⟨rfl, sA⟩; have HFX := Lib.hid (HFd.out.step sA); clear sA))
   go_wp2_with (first | (refine wpLv (x := { kind := 1, table := tb, cols := y }) rfl _ rfl HFX.out.bx rfl ?_) | (refine wpSv (x := { kind := 1, table := tb, cols := y }) rfl _ _ rfl HFX.out.rb rfl rfl rfl ?_; intro wz fz bz; have HFI := Lib.hid (And.intro bz (HFX.out.fin fz HST.out)); clear fz bz))
   exact retV Tryz.results49 HFI.out.1 rfl rfl (by rw [← HP.out, ← HR.out]; exact HFI.out.2)
 | false =>
  obtain ⟨u, e0, hg0⟩ : ∃ b d, dGot ts 1 wUnique d0 = (b, d) := ⟨_, _, rfl⟩
  obtain ⟨e1, hm1⟩ : ∃ d, dMust ts 1 wIndex e0 = d := ⟨_, rfl⟩
  obtain ⟨ix, e2, hn2⟩ : ∃ a d, dName ts e1 = (a, d) := ⟨_, _, rfl⟩
  obtain ⟨e3, hm3⟩ : ∃ d, dMust ts 1 wOn e2 = d := ⟨_, rfl⟩
  obtain ⟨tb, e4, hn4⟩ : ∃ a d, dName ts e3 = (a, d) := ⟨_, _, rfl⟩
  obtain ⟨e5, hm5⟩ : ∃ d, dMust ts 5 [40] e4 = d := ⟨_, rfl⟩
  have hr := HR.out
  clear HR
  rw [if_neg (by decide), hg0] at hr
  dsimp only at hr
  rw [hm1, hn2] at hr
  dsimp only at hr
  rw [hm3, hn4] at hr
  dsimp only at hr
  obtain ⟨cl, dz, hen, hrz⟩ := bindO_some hr
  clear hr
  have HR := Lib.hid (show (({ kind := 3, table := tb, index := ix, names := cl, uniq := u } : Stm), dz) = r from Option.some.inj hrz)
  clear hrz
  have hen2 : bindO (dLs ts (fun d => some (dName ts d)) 4 n [] (dMust ts 5 [40] e4)) (fun l d2 => some (l, dMust ts 5 [41] d2)) = some (cl, dz) := hen
  clear hen
  rw [hm5] at hen2
  obtain ⟨cl2, e6, hcl, hen3⟩ := bindO_some hen2
  clear hen2
  obtain ⟨h1, h2⟩ := some_pair hen3
  clear hen3
  subst h1
  have HDZ := Lib.hid h2
  have HCL := Lib.hid hcl
  have o0 := dGot_opn ts 1 wUnique d0
  have o1 := dMust_opn ts 1 wIndex e0
  have o2 := dName_opn ts e1
  have o3 := dMust_opn ts 1 wOn e2
  have o4 := dName_opn ts e3
  have o5 := dMust_opn ts 5 [40] e4
  rw [hg0] at o0
  rw [hm1] at o1
  rw [hn2] at o2
  rw [hm3] at o3
  rw [hn4] at o4
  rw [hm5] at o5
  dsimp only at o0 o2 o4
  have HOP5 := Lib.hid (show e5.opn = 0 by rw [o5.1, o4.1, o3.1, o2.1, o1.1, o0.1]; exact HO0.out)
  have HG0 := Lib.hid hg0
  have HM1 := Lib.hid hm1
  have HN2 := Lib.hid hn2
  have HM3 := Lib.hid hm3
  have HN4 := Lib.hid hn4
  have HM5 := Lib.hid hm5
  clear h2 hcl hg0 hm1 hn2 hm3 hn4 hm5 o0 o1 o2 o3 o4 o5
  have zq : w3.cell? ⟨w1.heap.size, 0, none⟩ = some (.int .i64 1) := HF3.out.bx.cell rfl
  have fq : w3.frozen? ⟨w1.heap.size, 0, none⟩ = false := HF3.out.bx.frz 0
  have hfq := HF3.out.set { kind := 3 } 0 (.int .i64 3) rfl (memz _ _ nl nl nl nl nl nx nl nl)
  obtain ⟨W4, hW4⟩ : ∃ W, w3.setCell ⟨w1.heap.size, 0, none⟩ (.int .i64 3) = W := ⟨_, rfl⟩
  rw [hW4] at hfq
  have HF4 := Lib.hid hfq
  clear hfq
  go_upto_block 4 with (first | (go_at_call 48; refine (got_n HF4.out.dp.ds 1 1 rfl wUnique (by decide) HG0.out).mono ?_; rintro e w5 ⟨rfl, sq⟩; have HF6a := Lib.hid (HF4.out.step sq); have zq : w5.cell? ⟨w1.heap.size, 5, none⟩ = some (.bool false) := HF6a.out.bx.cell rfl; have fq : w5.frozen? ⟨w1.heap.size, 5, none⟩ = false := HF6a.out.bx.frz 5; have hfq := HF6a.out.set { kind := 3, uniq := u } 5 (.bool u) rfl (memz _ _ nl nl nl nl nl nx nl nl); obtain ⟨W6, hW6⟩ : ∃ W, w5.setCell ⟨w1.heap.size, 5, none⟩ (.bool u) = W := ⟨_, rfl⟩; rw [hW6] at hfq; have HF6 := Lib.hid hfq; clear sq hfq HG0) | (go_at_call 51; refine (must_n HF6.out.dp.ds 1 1 rfl wIndex (by decide) HM1.out).mono ?_; rintro e w7 ⟨rfl, s7⟩; have HF7 := Lib.hid (HF6.out.step s7); clear s7 HM1) | (go_at_call 50; refine (name_n HF7.out.dp.ds HN2.out).mono ?_; rintro e w8 ⟨rfl, sq⟩; have HF9a := Lib.hid (HF7.out.step sq); have zq : w8.cell? ⟨w1.heap.size, 2, none⟩ = some (.string ⟨#[]⟩) := HF9a.out.bx.cell rfl; have fq : w8.frozen? ⟨w1.heap.size, 2, none⟩ = false := HF9a.out.bx.frz 2; have hfq := HF9a.out.set { kind := 3, index := ix, uniq := u } 2 (.string (strB ix)) rfl (memz _ _ nl nl nl nl nl nx nl nl); obtain ⟨W9, hW9⟩ : ∃ W, w8.setCell ⟨w1.heap.size, 2, none⟩ (.string (strB ix)) = W := ⟨_, rfl⟩; rw [hW9] at hfq; have HF9 := Lib.hid hfq; clear sq hfq HN2) | (go_at_call 51; refine (must_n HF9.out.dp.ds 1 1 rfl wOn (by decide) HM3.out).mono ?_; rintro e w10 ⟨rfl, s10⟩; have HF10 := Lib.hid (HF9.out.step s10); clear s10 HM3) | (go_at_call 50; refine (name_n HF10.out.dp.ds HN4.out).mono ?_; rintro e w11 ⟨rfl, sq⟩; have HF12a := Lib.hid (HF10.out.step sq); have zq : w11.cell? ⟨w1.heap.size, 1, none⟩ = some (.string ⟨#[]⟩) := HF12a.out.bx.cell rfl; have fq : w11.frozen? ⟨w1.heap.size, 1, none⟩ = false := HF12a.out.bx.frz 1; have hfq := HF12a.out.set { kind := 3, table := tb, index := ix, uniq := u } 1 (.string (strB tb)) rfl (memz _ _ nl nl nl nl nl nx nl nl); obtain ⟨W12, hW12⟩ : ∃ W, w11.setCell ⟨w1.heap.size, 1, none⟩ (.string (strB tb)) = W := ⟨_, rfl⟩; rw [hW12] at hfq; have HF12 := Lib.hid hfq; clear sq hfq HN4) | (go_at_call 51; refine (must_n HF12.out.dp.ds 5 5 rfl [40] (by decide) HM5.out).mono ?_; rintro e w13 ⟨rfl, s13⟩; have HF13 := Lib.hid (HF12.out.step s13); clear s13 HM5))
  go_cut [4] (fun q1 wx => Hid (∃ y : XL (List Nat), y.xs.map stk.er = cl2 ∧ SmF w wx pb w1.heap.size ts e6 { kind := 3, table := tb, index := ix, names := y, uniq := u } ∧ e6.opn = 0))
  case first =>
   go_wp2_with fail
   go_loopw [] (fun wr => ∃ (k : Nat), Hid (∃ (sj : DS) (v : Value) (xs : List (List Nat)), dLs ts (fun d => some (dName ts d)) 4 k (xs.map stk.er) sj = some (cl2, e6) ∧ SmS stk NX w wr pb w1.heap.size ts sj (fun v => #[.int .i64 3, .string (strB tb), .string (strB ix), .slice none 0 0, v, .bool u, .slice none 0 0, .slice none 0 0, .slice none 0 0, .int .i64 0, .slice none 0 0, .int .i64 0, .int .i64 0, .int .i64 0, .string ⟨#[]⟩, .string ⟨#[]⟩, .slice none 0 0, .slice none 0 0] : Value → Array Value) v xs { kind := 3, table := tb, index := ix, uniq := u } ∧ sj.opn = 0 ∧ xs.length < 4)) (fun wr => dlen wr pb)
   case atStart => exact ⟨n, Lib.hid ⟨e5, _, [], HCL.out, HF13.out.grow rfl, HOP5.out, by simp⟩⟩
   case round =>
    obtain ⟨wo, hwo⟩ : ∃ wo, wo = wr := ⟨wr, rfl⟩
    subst hwo
    obtain ⟨k, HJ⟩ := hrel
    obtain ⟨sj, v, xs, hls, hsm, hjo, hxl⟩ := HJ.out
    obtain ⟨k, rfl⟩ : ∃ k', k = k' + 1 := by
     cases k with
     | zero => rw [dLs] at hls; cases hls
     | succ k => exact ⟨k, rfl⟩
    rw [dLs] at hls
    have hdl := hsm.dp.ds.dlen
    have HDL := Lib.hid hdl
    obtain ⟨aq, capq, hbq, -⟩ := hsm.dp.ds.hd
    obtain ⟨⟨-, -, -, y3, -⟩, -⟩ := hbq.five
    obtain ⟨va, vc, rfl, hvc1, hvc2⟩ := hsm.own.sl
    obtain ⟨q, hq⟩ : ∃ q, xs.length = q := ⟨_, rfl⟩
    have HQ := Lib.hid hq
    rw [List.length_map, hq] at hls
    rw [hq] at hsm hxl
    have HSM := Lib.hid hsm
    have HJO := Lib.hid (And.intro hjo hxl)
    clear hsm hdl hbq hjo hxl HJ hq hvc1 hvc2
    by_cases he : sj.e = 0
    case neg =>
     have q0 : ((sj.e : Int) == 0) = false := by simp; omega
     rw [if_pos he] at hls
     obtain ⟨hrr, hdd⟩ := some_pair hls
     clear hls
     subst hdd
     clear he
     obtain ⟨y, -, hyx, hF⟩ := HSM.out.done (fun y => ({ kind := 3, table := tb, index := ix, names := y, uniq := u } : XSt)) (fun y => rfl) (fun y hy ho => ⟨ho.cols, hy, ho.rows, ho.items, ho.src, ho.whr, ho.order, ho.sets⟩)
     have HFX := Lib.hid hF
     have HYX := Lib.hid (show y.xs.map stk.er = cl2 by rw [hyx]; exact hrr)
     clear hF hyx hrr
     go_wp2_with fail
     go_meet
     exact Lib.hid ⟨y, HYX.out, HFX.out, HJO.out.1⟩
    rw [if_neg (fun e => e he)] at hls
    rw [he] at y3
    obtain ⟨nm, s1, hna0, hlz⟩ := bindO_some hls
    have hna : dName ts sj = (nm, s1) := Option.some.inj hna0
    clear hls hna0
    have hls := hlz
    clear hlz
    obtain ⟨m, hm⟩ : ∃ m, q + 1 = m := ⟨_, rfl⟩
    have HM := Lib.hid hm
    rw [hm] at hls
    obtain ⟨b, d8, hmo⟩ : ∃ b d, dMore ts m 4 s1 = (b, d) := ⟨_, _, rfl⟩
    rw [hmo] at hls
    dsimp only at hls
    have HMO := Lib.hid hmo
    have hmr := dMore_opn ts m 4 s1
    rw [hmo] at hmr
    dsimp only at hmr
    have HMR := Lib.hid hmr
    clear hm hmo hmr
    have hn1 := dName_opn ts sj
    rw [hna] at hn1
    dsimp only at hn1
    have HN1 := Lib.hid hn1
    have HNA := Lib.hid hna
    have HSD := Lib.hid (HSM.out.below (Below.refl _ _).drew)
    have zd : wo.drew.cell? ⟨w1.heap.size, 4, none⟩ = some (.slice va q vc) := HSD.out.bx.cell rfl
    clear hn1 hna he
    go_upto_region 30 with fail
    go_cut [] (fun wx => Hid (∃ a9 c9, SmS stk NX w wx pb w1.heap.size ts s1 (fun v => #[.int .i64 3, .string (strB tb), .string (strB ix), .slice none 0 0, v, .bool u, .slice none 0 0, .slice none 0 0, .slice none 0 0, .int .i64 0, .slice none 0 0, .int .i64 0, .int .i64 0, .int .i64 0, .string ⟨#[]⟩, .string ⟨#[]⟩, .slice none 0 0, .slice none 0 0] : Value → Array Value) (.slice a9 m c9) (xs ++ [nm]) { kind := 3, table := tb, index := ix, uniq := u }))
    case first =>
     go_region_law (first | (go_simp; go_at_call 50; refine (name_n HSD.out.dp.ds HNA.out).mono ?_; rintro e w4 ⟨rfl, s4⟩; have HS4 := Lib.hid (HSD.out.step s4); have hym : stk.Mem (fun k => w1.heap.size < k ∧ Value.ownBlock (.slice va q vc) ≠ some k ∧ ¬ NX k) w4 nm := True.intro; have hpu0 := fun v' w' => SmS.push (E := stk) (f := 4) (y := nm) (v' := v') (w' := w') HS4.out hym; have how := HS4.out.own.below ((Below.refl w4.heap.size w4).alloc (Nat.le_refl _) (.cells (stk.cells [nm]).toArray stk.te)); have hap := OwR.append (K := stk.toRK) _ (w1.heap.size + 1) (.slice va q vc) xs how (by have := HS4.out.bx.lt; simp; omega) ⟨w4.heap.size, 0, none⟩ 1 1 [nm] rfl (OwR.made_cells (K := stk.toRK) w4 [nm]) (by have := HQ.out; have := HJO.out.2; omega) 24; obtain ⟨v9, w9, hrun, o9, g9, n9⟩ := hap; have hpu := hpu0 v9 w9 o9 g9 n9 rfl; obtain ⟨a9, c9, e9, hc1, hc2⟩ := o9.sl; rw [List.length_append, List.length_singleton, HQ.out, HM.out] at e9; subst e9; have HRUN := Lib.hid hrun; have HZ9 := Lib.hid hpu.1; have z9 : w9.cell? ⟨w1.heap.size, 4, none⟩ = some (.slice va q vc) := HZ9.out.cell rfl; have f9 : w9.frozen? ⟨w1.heap.size, 4, none⟩ = false := HZ9.out.frz 4; obtain ⟨W11, hW11⟩ : ∃ W11, w9.setCell ⟨w1.heap.size, 4, none⟩ (.slice a9 m c9) = W11 := ⟨_, rfl⟩; have hs := hpu.2; rw [hW11] at hs; have HS11 := Lib.hid hs; have z10 : w4.cell? ⟨w1.heap.size, 4, none⟩ = some (.slice va q vc) := HS4.out.bx.cell rfl; have z10b : (w4.alloc (.cells #[.string (strB nm)] 9)).cell? ⟨w1.heap.size, 4, none⟩ = some (.slice va q vc) := (HS4.out.below ((Below.refl _ _).alloc (Nat.le_refl _) _)).bx.cell rfl; clear s4 hym hpu0 how hrun hpu o9 g9 n9 hs) | (refine step_appR rfl _ _ 24 rfl _ _ rfl rfl HRUN.out ?_))
     all_goals
      go_wp2_with fail
      go_meet
      exact Lib.hid ⟨_, _, HS11.out⟩
    case rest =>
     obtain ⟨a9, c9, hs11⟩ := hcut.out
     have HS11 := Lib.hid hs11
     have z11 : wc.cell? ⟨w1.heap.size, 4, none⟩ = some (.slice a9 m c9) := HS11.out.bx.cell rfl
     clear hs11 hcut zd
     cases b with
     | true =>
      rw [if_pos rfl] at hls
      have HLS2 := Lib.hid hls
      have HMT := Lib.hid (HMR.out.2.2 rfl)
      clear hls
      go_wp2_with (first | (go_at_call 55; refine (more_n HS11.out.dp.ds m 4 4 rfl HMO.out).mono ?_; rintro e w12 ⟨rfl, s12⟩; have HS12 := Lib.hid (HS11.out.step s12); clear s12))
      refine ⟨⟨k, Lib.hid ⟨d8, _, xs ++ [nm], ?_, HS12.out, ?_, ?_⟩⟩, ?_⟩
      ·rw [List.map_append, List.map_cons, List.map_nil, show stk.er nm = nm from rfl]; exact HLS2.out
      ·rw [HMR.out.1]; exact by rw [HN1.out.1]; exact HJO.out.1
      ·rw [List.length_append, List.length_singleton, HQ.out, HM.out]
       have h1 := HMT.out.2.2
       have h2 := HM.out
       have h3 := HJO.out.2
       omega
      ·rw [HS12.out.dp.ds.dlen, HDL.out]
       have h1 := HMT.out
       have h2 := HN1.out.2
       omega
     | false =>
      rw [if_neg (by decide)] at hls
      have HLS2 := Lib.hid hls
      clear hls
      go_wp2_with (first | (go_at_call 55; refine (more_n HS11.out.dp.ds m 4 4 rfl HMO.out).mono ?_; rintro e w12 ⟨rfl, s12⟩; have HS12 := Lib.hid (HS11.out.step s12); clear s12))
      have hls := HLS2.out
      obtain ⟨hrr, hdd⟩ := some_pair hls
      clear hls
      subst hdd
      have hrr : (xs ++ [nm]).map stk.er = cl2 := by rw [List.map_append, List.map_cons, List.map_nil, show stk.er nm = nm from rfl]; exact hrr
      obtain ⟨y, -, hyx, hF⟩ := HS12.out.done (fun y => ({ kind := 3, table := tb, index := ix, names := y, uniq := u } : XSt)) (fun y => rfl) (fun y hy ho => ⟨ho.cols, hy, ho.rows, ho.items, ho.src, ho.whr, ho.order, ho.sets⟩)
      have HFX := Lib.hid hF
      have HYX := Lib.hid (show y.xs.map stk.er = cl2 by rw [hyx]; exact hrr)
      clear hF hyx hrr
      go_wp2_with fail
      go_meet
      exact Lib.hid ⟨y, HYX.out, HFX.out, (by rw [HMR.out.1]; exact by rw [HN1.out.1]; exact HJO.out.1)⟩


  case rest =>
   obtain ⟨y, hyy, hF, -⟩ := hcut.out
   have HFd := Lib.hid hF
   have HST := Lib.hid (show XSt.er { kind := 3, table := tb, index := ix, names := y, uniq := u } = { kind := 3, table := tb, index := ix, names := cl2, uniq := u } by unfold XSt.er; simp only [er0, List.map_nil]; rw [show List.map stk.er y.xs = cl2 from hyy])
   clear hcut hF hyy
   go_upto_region 33 with (first | (go_at_call 51; refine (must_n HFd.out.dp.ds 5 5 rfl [41] (by decide) HDZ.out).mono ?_; rintro e wA ⟨rfl, sA⟩; have HFX := Lib.hid (HFd.out.step sA); clear sA))
   go_wp2_with (first | (refine wpLv (x := { kind := 3, table := tb, index := ix, names := y, uniq := u }) rfl _ rfl HFX.out.bx rfl ?_) | (refine wpSv (x := { kind := 3, table := tb, index := ix, names := y, uniq := u }) rfl _ _ rfl HFX.out.rb rfl rfl rfl ?_; intro wz fz bz; have HFI := Lib.hid (And.intro bz (HFX.out.fin fz HST.out)); clear fz bz))
   exact retV Tryz.results49 HFI.out.1 rfl rfl (by rw [← HP.out, ← HR.out]; exact HFI.out.2)
end Go.Proofs.YtofnkfjhmjecjaaGreatDoor
