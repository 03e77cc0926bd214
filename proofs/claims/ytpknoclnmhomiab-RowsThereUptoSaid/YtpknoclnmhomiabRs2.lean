/-
  Package rows over the translation: a value's bytes behind a row's (appendValue).
  Conditions: the bytes are the call's own; the value is right.
-/
import Derived.Test.YtpknoclnmhomiabRs1
import Derived.Test.YtpknoclnmhomiabKs3
import Derived.Lib.AppendStr
namespace Go.Proofs.Ytpknoclnmhomiab
open Go.RowKit Go.Joins Go.ChangeShapes Go.WideShapes
set_option linter.unusedVariables false

theorem strCells_b (s : ByteArray) : Lib.strCells s = bcells (sl s) := by
  unfold Lib.strCells bcells sl
  simp
/-- append of a text's bytes, as a step of a region that draws -/
theorem step_pushS {ops : Array Oper} {o : Oper} {a : Act} {w : World} {K : Act → World → Prop} {Q : Exit → Act → World → Prop} {E : Prop} (hgd : o.guard = none) (s x : Operand)
    (ho : o.op = .call { callee := .builtin .append, args := #[s, x], argTypes := #[27, 9] })
    (base : Nat) (v : Value) (l : List Nat) (hs : a.eval s = v) (hown : OwB w base v l) (t : ByteArray) (hx : a.eval x = .string t)
    (hsz : l.length + t.size ≤ 70368744177664) (hbase : base ≤ w.heap.size)
    (h : ∀ v' w', OwB w' base v' (l ++ sl t) → w.grownBy w' v.ownBlock → K (a.put o.dst v') w') : if Region.wanted o (yielded ops a.tmps) = true then Oper.wp Try.prog o a w K Q else E := by
  obtain ⟨i0, hi, hz0, hz1, hz2⟩ := info_parts infoB
  have hw : Region.wanted o (yielded ops a.tmps) = true := by simp [Region.wanted, hgd]
  rw [if_pos hw]
  obtain ⟨v', w', hr, h2, h3, h4⟩ := Lib.run_append_own_string (P := Try.prog) w base 27 9 o.type 5 i0 Try.underlying27 Try.underlying9 hi hz0 hz1 hz2 v l.length (bcells l) hown.1 t (by unfold maxLen; omega) (by omega) hbase
  unfold Oper.wp execOp
  simp only [ho, resolve, invoke, builtin, Sem.run_bind, Sem.run_pure, Result.andThen_ok, List.map_toArray, List.map_cons, List.map_nil, hs, hx, hr]
  refine h v' w' ⟨?_, fun e => hown.2 (h4.1 e).1⟩ h3
  rw [bcells_app, List.length_append, sl_length, ← strCells_b]
  exact h2

set_option maxHeartbeats 4000000 in
theorem rappval_1 (W : World) (B : Nat) (v : Value) (l : List Nat) (hl : l.length ≤ 35184372088832) (n : Int) (s : ByteArray) (hi : InI n) (w : World) (h : Eo W w B v l) :
    Calls Try.prog 20 #[v, Vv 1 n s] w fun e w' => ∃ v', e = .returned v' ∧ Eo W w' B v' (l ++ rv 1 n s) := by
  generalize hP : (fun (e : Ending) (w' : World) => ∃ v', e = .returned v' ∧ Eo W w' B v' (l ++ rv 1 n s)) = P
  obtain ⟨U, hU⟩ : ∃ U, (n % 256).toNat = U := ⟨_, rfl⟩
  obtain ⟨bs, hbs⟩ : ∃ bs, [U] = bs := ⟨_, rfl⟩
  have hpost : ∀ (v' : Value) (w' : World), Eo W w' B v' (l ++ bs.take 1) → P (.returned v') w' := by
    intro v' w' h; rw [← hP]
    refine ⟨v', rfl, ?_⟩
    rw [rv1, hU, hbs]
    rw [← hbs] at h ⊢
    exact h
  have HP := Lib.hid hpost
  have HBS := Lib.hid hbs.symm
  have HE := Lib.hid (h.alloc (.cells #[.int .i64 1, .int .i64 n, .string s] 43))
  have HB := Lib.hid (boxV_new w 1 n s)
  have HW := Lib.hid (width_any 1)
  rw [show wid 1 = 1 from rfl] at HW
  have HL := Lib.hid (show l.length ≤ 35184372088832 from hl)
  have hU2 : U < 18446744073709551616 := by omega
  obtain ⟨i1, i2⟩ := hi
  clear hpost hP h hl hbs
  unfold Vv
  go_enter Try.func20, Try.ntmps20
  go_upto_region 1 with fail
  generalize w.alloc (.cells #[.int .i64 1, .int .i64 n, .string s] 43) = wx at *
  generalize w.heap.size = g at *
  obtain ⟨c0, c1, c2⟩ := HB.out.cells
  go_wp2_with (first | (go_at_call 27; refine (HW.out _).mono ?_; rintro e w1 ⟨rfl, rfl⟩))
  go_loopw [0, 22] (fun x i wr => ∃ j : Nat, j ≤ 1 ∧ i = .int .i64 j ∧ Eo W wr B x (l ++ bs.take j) ∧ BoxV wr g 1 n s) (fun _ i _ => 1 - (intOf i).toNat)
  case atStart => exact ⟨0, by omega, rfl, by simpa using HE.out, HB.out⟩
  case round =>
    obtain ⟨j, hj, rfl, hen, hbx⟩ := hrel
    have hc : j = 0 ∨ j = 1 := by omega
    have HE2 := Lib.hid hen
    have HBX := Lib.hid hbx
    have HL := Lib.hid (show (l ++ bs.take j).length ≤ 35184372088840 by rw [HBS.out, List.length_append, List.length_take]; have := HL.out; omega)
    clear hen hbx hj c0 c1 c2
    rcases hc with rfl | rfl
    · have hz0 : IntKind.u8.wrap (n / 2 ^ 0) = (((U : Nat)) : Int) := by rw [IntKind.wrap_u8]; omega
      have hz1 : IntKind.u8.wrap (n / 1) = (((U : Nat)) : Int) := by rw [IntKind.wrap_u8]; omega
      have hz2 : IntKind.u8.wrap n = (((U % 256 : Nat)) : Int) := by rw [IntKind.wrap_u8]; omega
      obtain ⟨f0, f1, f2⟩ := HBX.out.cells
      go_wp2_with (at_builtin; refine wp_pushN rfl _ _ rfl B _ _ rfl (HE2.out.own.alloc _) ⟨wr.heap.size, 0, none⟩ 1 1 [U] rfl rfl (by decide) (news1' wr _ _ (by first | omega | rfl)) (by have := HL.out; omega) (HE2.out.alloc _).sz ?_; intro v' w1 hown1 hgrow)
      have HE3 : En W w1 B v' (l ++ bs.take 1) := by
        have := (HE2.out.alloc _).push hown1 hgrow
        rw [List.append_assoc] at this
        rw [HBS.out] at this ⊢
        exact this
      have HB3 := Lib.hid ((HBX.out.alloc (.cells #[.int .u8 ((U : Nat) : Int)] 5)))
      have hbx3 : BoxV w1 g 1 n s := BoxV.grownO (HBX.out.alloc _) (HE2.out.own.alloc _) hgrow
      go_roundw
      case rel => exact ⟨1, by omega, by first | rfl | go_num, HE3.eo, hbx3⟩
      case measure => simp [intOf]
    · go_wp2_with fail
      exact HP.out _ _ HE2.out

set_option maxHeartbeats 4000000 in
theorem rappval_2 (W : World) (B : Nat) (v : Value) (l : List Nat) (hl : l.length ≤ 35184372088832) (n : Int) (s : ByteArray) (hi : InI n) (w : World) (h : Eo W w B v l) :
    Calls Try.prog 20 #[v, Vv 2 n s] w fun e w' => ∃ v', e = .returned v' ∧ Eo W w' B v' (l ++ rv 2 n s) := by
  generalize hP : (fun (e : Ending) (w' : World) => ∃ v', e = .returned v' ∧ Eo W w' B v' (l ++ rv 2 n s)) = P
  obtain ⟨U, hU⟩ : ∃ U, (n % 18446744073709551616).toNat = U := ⟨_, rfl⟩
  obtain ⟨bs, hbs⟩ : ∃ bs, le8 U = bs := ⟨_, rfl⟩
  have hpost : ∀ (v' : Value) (w' : World), Eo W w' B v' (l ++ bs.take 8) → P (.returned v') w' := by
    intro v' w' h; rw [← hP]
    refine ⟨v', rfl, ?_⟩
    rw [rv2, hU, hbs]
    rw [← hbs] at h ⊢
    exact h
  have HP := Lib.hid hpost
  have HBS := Lib.hid hbs.symm
  have HE := Lib.hid (h.alloc (.cells #[.int .i64 2, .int .i64 n, .string s] 43))
  have HB := Lib.hid (boxV_new w 2 n s)
  have HW := Lib.hid (width_any 2)
  rw [show wid 2 = 8 from rfl] at HW
  have HL := Lib.hid (show l.length ≤ 35184372088832 from hl)
  have hU2 : U < 18446744073709551616 := by omega
  obtain ⟨i1, i2⟩ := hi
  clear hpost hP h hl hbs
  unfold Vv
  go_enter Try.func20, Try.ntmps20
  go_upto_region 1 with fail
  generalize w.alloc (.cells #[.int .i64 2, .int .i64 n, .string s] 43) = wx at *
  generalize w.heap.size = g at *
  obtain ⟨c0, c1, c2⟩ := HB.out.cells
  go_wp2_with (first | (go_at_call 27; refine (HW.out _).mono ?_; rintro e w1 ⟨rfl, rfl⟩))
  go_loopw [0, 22] (fun x i wr => ∃ j : Nat, j ≤ 8 ∧ i = .int .i64 j ∧ Eo W wr B x (l ++ bs.take j) ∧ BoxV wr g 2 n s) (fun _ i _ => 8 - (intOf i).toNat)
  case atStart => exact ⟨0, by omega, rfl, by simpa using HE.out, HB.out⟩
  case round =>
    obtain ⟨j, hj, rfl, hen, hbx⟩ := hrel
    have hc : j = 0 ∨ j = 1 ∨ j = 2 ∨ j = 3 ∨ j = 4 ∨ j = 5 ∨ j = 6 ∨ j = 7 ∨ j = 8 := by omega
    have HE2 := Lib.hid hen
    have HBX := Lib.hid hbx
    have HL := Lib.hid (show (l ++ bs.take j).length ≤ 35184372088840 by rw [HBS.out, List.length_append, List.length_take]; have := HL.out; omega)
    clear hen hbx hj c0 c1 c2
    rcases hc with rfl | rfl | rfl | rfl | rfl | rfl | rfl | rfl | rfl
    · have hz0 : IntKind.u8.wrap (n / 2 ^ 0) = (((U % 256 : Nat)) : Int) := by rw [IntKind.wrap_u8]; omega
      have hz1 : IntKind.u8.wrap (n / 1) = (((U % 256 : Nat)) : Int) := by rw [IntKind.wrap_u8]; omega
      have hz2 : IntKind.u8.wrap n = (((U % 256 : Nat)) : Int) := by rw [IntKind.wrap_u8]; omega
      obtain ⟨f0, f1, f2⟩ := HBX.out.cells
      go_wp2_with (at_builtin; refine wp_pushN rfl _ _ rfl B _ _ rfl (HE2.out.own.alloc _) ⟨wr.heap.size, 0, none⟩ 1 1 [U % 256] rfl rfl (by decide) (news1' wr _ _ (by first | omega | rfl)) (by have := HL.out; omega) (HE2.out.alloc _).sz ?_; intro v' w1 hown1 hgrow)
      have HE3 : En W w1 B v' (l ++ bs.take 1) := by
        have := (HE2.out.alloc _).push hown1 hgrow
        rw [List.append_assoc] at this
        rw [HBS.out] at this ⊢
        exact this
      have HB3 := Lib.hid ((HBX.out.alloc (.cells #[.int .u8 ((U % 256 : Nat) : Int)] 5)))
      have hbx3 : BoxV w1 g 2 n s := BoxV.grownO (HBX.out.alloc _) (HE2.out.own.alloc _) hgrow
      go_roundw
      case rel => exact ⟨1, by omega, by first | rfl | go_num, HE3.eo, hbx3⟩
      case measure => simp [intOf]
    · have hz0 : IntKind.u8.wrap (n / 2 ^ 8) = (((U / 256 % 256 : Nat)) : Int) := by rw [IntKind.wrap_u8]; omega
      have hz1 : IntKind.u8.wrap (n / 256) = (((U / 256 % 256 : Nat)) : Int) := by rw [IntKind.wrap_u8]; omega
      have hz2 : IntKind.u8.wrap n = (((U % 256 : Nat)) : Int) := by rw [IntKind.wrap_u8]; omega
      obtain ⟨f0, f1, f2⟩ := HBX.out.cells
      go_wp2_with (at_builtin; refine wp_pushN rfl _ _ rfl B _ _ rfl (HE2.out.own.alloc _) ⟨wr.heap.size, 0, none⟩ 1 1 [U / 256 % 256] rfl rfl (by decide) (news1' wr _ _ (by first | omega | rfl)) (by have := HL.out; omega) (HE2.out.alloc _).sz ?_; intro v' w1 hown1 hgrow)
      have HE3 : En W w1 B v' (l ++ bs.take 2) := by
        have := (HE2.out.alloc _).push hown1 hgrow
        rw [List.append_assoc] at this
        rw [HBS.out] at this ⊢
        exact this
      have HB3 := Lib.hid ((HBX.out.alloc (.cells #[.int .u8 ((U / 256 % 256 : Nat) : Int)] 5)))
      have hbx3 : BoxV w1 g 2 n s := BoxV.grownO (HBX.out.alloc _) (HE2.out.own.alloc _) hgrow
      go_roundw
      case rel => exact ⟨2, by omega, by first | rfl | go_num, HE3.eo, hbx3⟩
      case measure => simp [intOf]
    · have hz0 : IntKind.u8.wrap (n / 2 ^ 16) = (((U / 65536 % 256 : Nat)) : Int) := by rw [IntKind.wrap_u8]; omega
      have hz1 : IntKind.u8.wrap (n / 65536) = (((U / 65536 % 256 : Nat)) : Int) := by rw [IntKind.wrap_u8]; omega
      have hz2 : IntKind.u8.wrap n = (((U % 256 : Nat)) : Int) := by rw [IntKind.wrap_u8]; omega
      obtain ⟨f0, f1, f2⟩ := HBX.out.cells
      go_wp2_with (at_builtin; refine wp_pushN rfl _ _ rfl B _ _ rfl (HE2.out.own.alloc _) ⟨wr.heap.size, 0, none⟩ 1 1 [U / 65536 % 256] rfl rfl (by decide) (news1' wr _ _ (by first | omega | rfl)) (by have := HL.out; omega) (HE2.out.alloc _).sz ?_; intro v' w1 hown1 hgrow)
      have HE3 : En W w1 B v' (l ++ bs.take 3) := by
        have := (HE2.out.alloc _).push hown1 hgrow
        rw [List.append_assoc] at this
        rw [HBS.out] at this ⊢
        exact this
      have HB3 := Lib.hid ((HBX.out.alloc (.cells #[.int .u8 ((U / 65536 % 256 : Nat) : Int)] 5)))
      have hbx3 : BoxV w1 g 2 n s := BoxV.grownO (HBX.out.alloc _) (HE2.out.own.alloc _) hgrow
      go_roundw
      case rel => exact ⟨3, by omega, by first | rfl | go_num, HE3.eo, hbx3⟩
      case measure => simp [intOf]
    · have hz0 : IntKind.u8.wrap (n / 2 ^ 24) = (((U / 16777216 % 256 : Nat)) : Int) := by rw [IntKind.wrap_u8]; omega
      have hz1 : IntKind.u8.wrap (n / 16777216) = (((U / 16777216 % 256 : Nat)) : Int) := by rw [IntKind.wrap_u8]; omega
      have hz2 : IntKind.u8.wrap n = (((U % 256 : Nat)) : Int) := by rw [IntKind.wrap_u8]; omega
      obtain ⟨f0, f1, f2⟩ := HBX.out.cells
      go_wp2_with (at_builtin; refine wp_pushN rfl _ _ rfl B _ _ rfl (HE2.out.own.alloc _) ⟨wr.heap.size, 0, none⟩ 1 1 [U / 16777216 % 256] rfl rfl (by decide) (news1' wr _ _ (by first | omega | rfl)) (by have := HL.out; omega) (HE2.out.alloc _).sz ?_; intro v' w1 hown1 hgrow)
      have HE3 : En W w1 B v' (l ++ bs.take 4) := by
        have := (HE2.out.alloc _).push hown1 hgrow
        rw [List.append_assoc] at this
        rw [HBS.out] at this ⊢
        exact this
      have HB3 := Lib.hid ((HBX.out.alloc (.cells #[.int .u8 ((U / 16777216 % 256 : Nat) : Int)] 5)))
      have hbx3 : BoxV w1 g 2 n s := BoxV.grownO (HBX.out.alloc _) (HE2.out.own.alloc _) hgrow
      go_roundw
      case rel => exact ⟨4, by omega, by first | rfl | go_num, HE3.eo, hbx3⟩
      case measure => simp [intOf]
    · have hz0 : IntKind.u8.wrap (n / 2 ^ 32) = (((U / 4294967296 % 256 : Nat)) : Int) := by rw [IntKind.wrap_u8]; omega
      have hz1 : IntKind.u8.wrap (n / 4294967296) = (((U / 4294967296 % 256 : Nat)) : Int) := by rw [IntKind.wrap_u8]; omega
      have hz2 : IntKind.u8.wrap n = (((U % 256 : Nat)) : Int) := by rw [IntKind.wrap_u8]; omega
      obtain ⟨f0, f1, f2⟩ := HBX.out.cells
      go_wp2_with (at_builtin; refine wp_pushN rfl _ _ rfl B _ _ rfl (HE2.out.own.alloc _) ⟨wr.heap.size, 0, none⟩ 1 1 [U / 4294967296 % 256] rfl rfl (by decide) (news1' wr _ _ (by first | omega | rfl)) (by have := HL.out; omega) (HE2.out.alloc _).sz ?_; intro v' w1 hown1 hgrow)
      have HE3 : En W w1 B v' (l ++ bs.take 5) := by
        have := (HE2.out.alloc _).push hown1 hgrow
        rw [List.append_assoc] at this
        rw [HBS.out] at this ⊢
        exact this
      have HB3 := Lib.hid ((HBX.out.alloc (.cells #[.int .u8 ((U / 4294967296 % 256 : Nat) : Int)] 5)))
      have hbx3 : BoxV w1 g 2 n s := BoxV.grownO (HBX.out.alloc _) (HE2.out.own.alloc _) hgrow
      go_roundw
      case rel => exact ⟨5, by omega, by first | rfl | go_num, HE3.eo, hbx3⟩
      case measure => simp [intOf]
    · have hz0 : IntKind.u8.wrap (n / 2 ^ 40) = (((U / 1099511627776 % 256 : Nat)) : Int) := by rw [IntKind.wrap_u8]; omega
      have hz1 : IntKind.u8.wrap (n / 1099511627776) = (((U / 1099511627776 % 256 : Nat)) : Int) := by rw [IntKind.wrap_u8]; omega
      have hz2 : IntKind.u8.wrap n = (((U % 256 : Nat)) : Int) := by rw [IntKind.wrap_u8]; omega
      obtain ⟨f0, f1, f2⟩ := HBX.out.cells
      go_wp2_with (at_builtin; refine wp_pushN rfl _ _ rfl B _ _ rfl (HE2.out.own.alloc _) ⟨wr.heap.size, 0, none⟩ 1 1 [U / 1099511627776 % 256] rfl rfl (by decide) (news1' wr _ _ (by first | omega | rfl)) (by have := HL.out; omega) (HE2.out.alloc _).sz ?_; intro v' w1 hown1 hgrow)
      have HE3 : En W w1 B v' (l ++ bs.take 6) := by
        have := (HE2.out.alloc _).push hown1 hgrow
        rw [List.append_assoc] at this
        rw [HBS.out] at this ⊢
        exact this
      have HB3 := Lib.hid ((HBX.out.alloc (.cells #[.int .u8 ((U / 1099511627776 % 256 : Nat) : Int)] 5)))
      have hbx3 : BoxV w1 g 2 n s := BoxV.grownO (HBX.out.alloc _) (HE2.out.own.alloc _) hgrow
      go_roundw
      case rel => exact ⟨6, by omega, by first | rfl | go_num, HE3.eo, hbx3⟩
      case measure => simp [intOf]
    · have hz0 : IntKind.u8.wrap (n / 2 ^ 48) = (((U / 281474976710656 % 256 : Nat)) : Int) := by rw [IntKind.wrap_u8]; omega
      have hz1 : IntKind.u8.wrap (n / 281474976710656) = (((U / 281474976710656 % 256 : Nat)) : Int) := by rw [IntKind.wrap_u8]; omega
      have hz2 : IntKind.u8.wrap n = (((U % 256 : Nat)) : Int) := by rw [IntKind.wrap_u8]; omega
      obtain ⟨f0, f1, f2⟩ := HBX.out.cells
      go_wp2_with (at_builtin; refine wp_pushN rfl _ _ rfl B _ _ rfl (HE2.out.own.alloc _) ⟨wr.heap.size, 0, none⟩ 1 1 [U / 281474976710656 % 256] rfl rfl (by decide) (news1' wr _ _ (by first | omega | rfl)) (by have := HL.out; omega) (HE2.out.alloc _).sz ?_; intro v' w1 hown1 hgrow)
      have HE3 : En W w1 B v' (l ++ bs.take 7) := by
        have := (HE2.out.alloc _).push hown1 hgrow
        rw [List.append_assoc] at this
        rw [HBS.out] at this ⊢
        exact this
      have HB3 := Lib.hid ((HBX.out.alloc (.cells #[.int .u8 ((U / 281474976710656 % 256 : Nat) : Int)] 5)))
      have hbx3 : BoxV w1 g 2 n s := BoxV.grownO (HBX.out.alloc _) (HE2.out.own.alloc _) hgrow
      go_roundw
      case rel => exact ⟨7, by omega, by first | rfl | go_num, HE3.eo, hbx3⟩
      case measure => simp [intOf]
    · have hz0 : IntKind.u8.wrap (n / 2 ^ 56) = (((U / 72057594037927936 % 256 : Nat)) : Int) := by rw [IntKind.wrap_u8]; omega
      have hz1 : IntKind.u8.wrap (n / 72057594037927936) = (((U / 72057594037927936 % 256 : Nat)) : Int) := by rw [IntKind.wrap_u8]; omega
      have hz2 : IntKind.u8.wrap n = (((U % 256 : Nat)) : Int) := by rw [IntKind.wrap_u8]; omega
      obtain ⟨f0, f1, f2⟩ := HBX.out.cells
      go_wp2_with (at_builtin; refine wp_pushN rfl _ _ rfl B _ _ rfl (HE2.out.own.alloc _) ⟨wr.heap.size, 0, none⟩ 1 1 [U / 72057594037927936 % 256] rfl rfl (by decide) (news1' wr _ _ (by first | omega | rfl)) (by have := HL.out; omega) (HE2.out.alloc _).sz ?_; intro v' w1 hown1 hgrow)
      have HE3 : En W w1 B v' (l ++ bs.take 8) := by
        have := (HE2.out.alloc _).push hown1 hgrow
        rw [List.append_assoc] at this
        rw [HBS.out] at this ⊢
        exact this
      have HB3 := Lib.hid ((HBX.out.alloc (.cells #[.int .u8 ((U / 72057594037927936 % 256 : Nat) : Int)] 5)))
      have hbx3 : BoxV w1 g 2 n s := BoxV.grownO (HBX.out.alloc _) (HE2.out.own.alloc _) hgrow
      go_roundw
      case rel => exact ⟨8, by omega, by first | rfl | go_num, HE3.eo, hbx3⟩
      case measure => simp [intOf]
    · go_wp2_with fail
      exact HP.out _ _ HE2.out

set_option maxHeartbeats 4000000 in
theorem rappval_3 (W : World) (B : Nat) (v : Value) (l : List Nat) (hl : l.length ≤ 35184372088832) (n : Int) (s : ByteArray) (hi : InI n) (w : World) (h : Eo W w B v l) :
    Calls Try.prog 20 #[v, Vv 3 n s] w fun e w' => ∃ v', e = .returned v' ∧ Eo W w' B v' (l ++ rv 3 n s) := by
  generalize hP : (fun (e : Ending) (w' : World) => ∃ v', e = .returned v' ∧ Eo W w' B v' (l ++ rv 3 n s)) = P
  obtain ⟨U, hU⟩ : ∃ U, (n % 18446744073709551616).toNat = U := ⟨_, rfl⟩
  obtain ⟨bs, hbs⟩ : ∃ bs, le8 U = bs := ⟨_, rfl⟩
  have hpost : ∀ (v' : Value) (w' : World), Eo W w' B v' (l ++ bs.take 8) → P (.returned v') w' := by
    intro v' w' h; rw [← hP]
    refine ⟨v', rfl, ?_⟩
    rw [rv3, hU, hbs]
    rw [← hbs] at h ⊢
    exact h
  have HP := Lib.hid hpost
  have HBS := Lib.hid hbs.symm
  have HE := Lib.hid (h.alloc (.cells #[.int .i64 3, .int .i64 n, .string s] 43))
  have HB := Lib.hid (boxV_new w 3 n s)
  have HW := Lib.hid (width_any 3)
  rw [show wid 3 = 8 from rfl] at HW
  have HL := Lib.hid (show l.length ≤ 35184372088832 from hl)
  have hU2 : U < 18446744073709551616 := by omega
  obtain ⟨i1, i2⟩ := hi
  clear hpost hP h hl hbs
  unfold Vv
  go_enter Try.func20, Try.ntmps20
  go_upto_region 1 with fail
  generalize w.alloc (.cells #[.int .i64 3, .int .i64 n, .string s] 43) = wx at *
  generalize w.heap.size = g at *
  obtain ⟨c0, c1, c2⟩ := HB.out.cells
  go_wp2_with (first | (go_at_call 27; refine (HW.out _).mono ?_; rintro e w1 ⟨rfl, rfl⟩))
  go_loopw [0, 22] (fun x i wr => ∃ j : Nat, j ≤ 8 ∧ i = .int .i64 j ∧ Eo W wr B x (l ++ bs.take j) ∧ BoxV wr g 3 n s) (fun _ i _ => 8 - (intOf i).toNat)
  case atStart => exact ⟨0, by omega, rfl, by simpa using HE.out, HB.out⟩
  case round =>
    obtain ⟨j, hj, rfl, hen, hbx⟩ := hrel
    have hc : j = 0 ∨ j = 1 ∨ j = 2 ∨ j = 3 ∨ j = 4 ∨ j = 5 ∨ j = 6 ∨ j = 7 ∨ j = 8 := by omega
    have HE2 := Lib.hid hen
    have HBX := Lib.hid hbx
    have HL := Lib.hid (show (l ++ bs.take j).length ≤ 35184372088840 by rw [HBS.out, List.length_append, List.length_take]; have := HL.out; omega)
    clear hen hbx hj c0 c1 c2
    rcases hc with rfl | rfl | rfl | rfl | rfl | rfl | rfl | rfl | rfl
    · have hz0 : IntKind.u8.wrap (n / 2 ^ 0) = (((U % 256 : Nat)) : Int) := by rw [IntKind.wrap_u8]; omega
      have hz1 : IntKind.u8.wrap (n / 1) = (((U % 256 : Nat)) : Int) := by rw [IntKind.wrap_u8]; omega
      have hz2 : IntKind.u8.wrap n = (((U % 256 : Nat)) : Int) := by rw [IntKind.wrap_u8]; omega
      obtain ⟨f0, f1, f2⟩ := HBX.out.cells
      go_wp2_with (at_builtin; refine wp_pushN rfl _ _ rfl B _ _ rfl (HE2.out.own.alloc _) ⟨wr.heap.size, 0, none⟩ 1 1 [U % 256] rfl rfl (by decide) (news1' wr _ _ (by first | omega | rfl)) (by have := HL.out; omega) (HE2.out.alloc _).sz ?_; intro v' w1 hown1 hgrow)
      have HE3 : En W w1 B v' (l ++ bs.take 1) := by
        have := (HE2.out.alloc _).push hown1 hgrow
        rw [List.append_assoc] at this
        rw [HBS.out] at this ⊢
        exact this
      have HB3 := Lib.hid ((HBX.out.alloc (.cells #[.int .u8 ((U % 256 : Nat) : Int)] 5)))
      have hbx3 : BoxV w1 g 3 n s := BoxV.grownO (HBX.out.alloc _) (HE2.out.own.alloc _) hgrow
      go_roundw
      case rel => exact ⟨1, by omega, by first | rfl | go_num, HE3.eo, hbx3⟩
      case measure => simp [intOf]
    · have hz0 : IntKind.u8.wrap (n / 2 ^ 8) = (((U / 256 % 256 : Nat)) : Int) := by rw [IntKind.wrap_u8]; omega
      have hz1 : IntKind.u8.wrap (n / 256) = (((U / 256 % 256 : Nat)) : Int) := by rw [IntKind.wrap_u8]; omega
      have hz2 : IntKind.u8.wrap n = (((U % 256 : Nat)) : Int) := by rw [IntKind.wrap_u8]; omega
      obtain ⟨f0, f1, f2⟩ := HBX.out.cells
      go_wp2_with (at_builtin; refine wp_pushN rfl _ _ rfl B _ _ rfl (HE2.out.own.alloc _) ⟨wr.heap.size, 0, none⟩ 1 1 [U / 256 % 256] rfl rfl (by decide) (news1' wr _ _ (by first | omega | rfl)) (by have := HL.out; omega) (HE2.out.alloc _).sz ?_; intro v' w1 hown1 hgrow)
      have HE3 : En W w1 B v' (l ++ bs.take 2) := by
        have := (HE2.out.alloc _).push hown1 hgrow
        rw [List.append_assoc] at this
        rw [HBS.out] at this ⊢
        exact this
      have HB3 := Lib.hid ((HBX.out.alloc (.cells #[.int .u8 ((U / 256 % 256 : Nat) : Int)] 5)))
      have hbx3 : BoxV w1 g 3 n s := BoxV.grownO (HBX.out.alloc _) (HE2.out.own.alloc _) hgrow
      go_roundw
      case rel => exact ⟨2, by omega, by first | rfl | go_num, HE3.eo, hbx3⟩
      case measure => simp [intOf]
    · have hz0 : IntKind.u8.wrap (n / 2 ^ 16) = (((U / 65536 % 256 : Nat)) : Int) := by rw [IntKind.wrap_u8]; omega
      have hz1 : IntKind.u8.wrap (n / 65536) = (((U / 65536 % 256 : Nat)) : Int) := by rw [IntKind.wrap_u8]; omega
      have hz2 : IntKind.u8.wrap n = (((U % 256 : Nat)) : Int) := by rw [IntKind.wrap_u8]; omega
      obtain ⟨f0, f1, f2⟩ := HBX.out.cells
      go_wp2_with (at_builtin; refine wp_pushN rfl _ _ rfl B _ _ rfl (HE2.out.own.alloc _) ⟨wr.heap.size, 0, none⟩ 1 1 [U / 65536 % 256] rfl rfl (by decide) (news1' wr _ _ (by first | omega | rfl)) (by have := HL.out; omega) (HE2.out.alloc _).sz ?_; intro v' w1 hown1 hgrow)
      have HE3 : En W w1 B v' (l ++ bs.take 3) := by
        have := (HE2.out.alloc _).push hown1 hgrow
        rw [List.append_assoc] at this
        rw [HBS.out] at this ⊢
        exact this
      have HB3 := Lib.hid ((HBX.out.alloc (.cells #[.int .u8 ((U / 65536 % 256 : Nat) : Int)] 5)))
      have hbx3 : BoxV w1 g 3 n s := BoxV.grownO (HBX.out.alloc _) (HE2.out.own.alloc _) hgrow
      go_roundw
      case rel => exact ⟨3, by omega, by first | rfl | go_num, HE3.eo, hbx3⟩
      case measure => simp [intOf]
    · have hz0 : IntKind.u8.wrap (n / 2 ^ 24) = (((U / 16777216 % 256 : Nat)) : Int) := by rw [IntKind.wrap_u8]; omega
      have hz1 : IntKind.u8.wrap (n / 16777216) = (((U / 16777216 % 256 : Nat)) : Int) := by rw [IntKind.wrap_u8]; omega
      have hz2 : IntKind.u8.wrap n = (((U % 256 : Nat)) : Int) := by rw [IntKind.wrap_u8]; omega
      obtain ⟨f0, f1, f2⟩ := HBX.out.cells
      go_wp2_with (at_builtin; refine wp_pushN rfl _ _ rfl B _ _ rfl (HE2.out.own.alloc _) ⟨wr.heap.size, 0, none⟩ 1 1 [U / 16777216 % 256] rfl rfl (by decide) (news1' wr _ _ (by first | omega | rfl)) (by have := HL.out; omega) (HE2.out.alloc _).sz ?_; intro v' w1 hown1 hgrow)
      have HE3 : En W w1 B v' (l ++ bs.take 4) := by
        have := (HE2.out.alloc _).push hown1 hgrow
        rw [List.append_assoc] at this
        rw [HBS.out] at this ⊢
        exact this
      have HB3 := Lib.hid ((HBX.out.alloc (.cells #[.int .u8 ((U / 16777216 % 256 : Nat) : Int)] 5)))
      have hbx3 : BoxV w1 g 3 n s := BoxV.grownO (HBX.out.alloc _) (HE2.out.own.alloc _) hgrow
      go_roundw
      case rel => exact ⟨4, by omega, by first | rfl | go_num, HE3.eo, hbx3⟩
      case measure => simp [intOf]
    · have hz0 : IntKind.u8.wrap (n / 2 ^ 32) = (((U / 4294967296 % 256 : Nat)) : Int) := by rw [IntKind.wrap_u8]; omega
      have hz1 : IntKind.u8.wrap (n / 4294967296) = (((U / 4294967296 % 256 : Nat)) : Int) := by rw [IntKind.wrap_u8]; omega
      have hz2 : IntKind.u8.wrap n = (((U % 256 : Nat)) : Int) := by rw [IntKind.wrap_u8]; omega
      obtain ⟨f0, f1, f2⟩ := HBX.out.cells
      go_wp2_with (at_builtin; refine wp_pushN rfl _ _ rfl B _ _ rfl (HE2.out.own.alloc _) ⟨wr.heap.size, 0, none⟩ 1 1 [U / 4294967296 % 256] rfl rfl (by decide) (news1' wr _ _ (by first | omega | rfl)) (by have := HL.out; omega) (HE2.out.alloc _).sz ?_; intro v' w1 hown1 hgrow)
      have HE3 : En W w1 B v' (l ++ bs.take 5) := by
        have := (HE2.out.alloc _).push hown1 hgrow
        rw [List.append_assoc] at this
        rw [HBS.out] at this ⊢
        exact this
      have HB3 := Lib.hid ((HBX.out.alloc (.cells #[.int .u8 ((U / 4294967296 % 256 : Nat) : Int)] 5)))
      have hbx3 : BoxV w1 g 3 n s := BoxV.grownO (HBX.out.alloc _) (HE2.out.own.alloc _) hgrow
      go_roundw
      case rel => exact ⟨5, by omega, by first | rfl | go_num, HE3.eo, hbx3⟩
      case measure => simp [intOf]
    · have hz0 : IntKind.u8.wrap (n / 2 ^ 40) = (((U / 1099511627776 % 256 : Nat)) : Int) := by rw [IntKind.wrap_u8]; omega
      have hz1 : IntKind.u8.wrap (n / 1099511627776) = (((U / 1099511627776 % 256 : Nat)) : Int) := by rw [IntKind.wrap_u8]; omega
      have hz2 : IntKind.u8.wrap n = (((U % 256 : Nat)) : Int) := by rw [IntKind.wrap_u8]; omega
      obtain ⟨f0, f1, f2⟩ := HBX.out.cells
      go_wp2_with (at_builtin; refine wp_pushN rfl _ _ rfl B _ _ rfl (HE2.out.own.alloc _) ⟨wr.heap.size, 0, none⟩ 1 1 [U / 1099511627776 % 256] rfl rfl (by decide) (news1' wr _ _ (by first | omega | rfl)) (by have := HL.out; omega) (HE2.out.alloc _).sz ?_; intro v' w1 hown1 hgrow)
      have HE3 : En W w1 B v' (l ++ bs.take 6) := by
        have := (HE2.out.alloc _).push hown1 hgrow
        rw [List.append_assoc] at this
        rw [HBS.out] at this ⊢
        exact this
      have HB3 := Lib.hid ((HBX.out.alloc (.cells #[.int .u8 ((U / 1099511627776 % 256 : Nat) : Int)] 5)))
      have hbx3 : BoxV w1 g 3 n s := BoxV.grownO (HBX.out.alloc _) (HE2.out.own.alloc _) hgrow
      go_roundw
      case rel => exact ⟨6, by omega, by first | rfl | go_num, HE3.eo, hbx3⟩
      case measure => simp [intOf]
    · have hz0 : IntKind.u8.wrap (n / 2 ^ 48) = (((U / 281474976710656 % 256 : Nat)) : Int) := by rw [IntKind.wrap_u8]; omega
      have hz1 : IntKind.u8.wrap (n / 281474976710656) = (((U / 281474976710656 % 256 : Nat)) : Int) := by rw [IntKind.wrap_u8]; omega
      have hz2 : IntKind.u8.wrap n = (((U % 256 : Nat)) : Int) := by rw [IntKind.wrap_u8]; omega
      obtain ⟨f0, f1, f2⟩ := HBX.out.cells
      go_wp2_with (at_builtin; refine wp_pushN rfl _ _ rfl B _ _ rfl (HE2.out.own.alloc _) ⟨wr.heap.size, 0, none⟩ 1 1 [U / 281474976710656 % 256] rfl rfl (by decide) (news1' wr _ _ (by first | omega | rfl)) (by have := HL.out; omega) (HE2.out.alloc _).sz ?_; intro v' w1 hown1 hgrow)
      have HE3 : En W w1 B v' (l ++ bs.take 7) := by
        have := (HE2.out.alloc _).push hown1 hgrow
        rw [List.append_assoc] at this
        rw [HBS.out] at this ⊢
        exact this
      have HB3 := Lib.hid ((HBX.out.alloc (.cells #[.int .u8 ((U / 281474976710656 % 256 : Nat) : Int)] 5)))
      have hbx3 : BoxV w1 g 3 n s := BoxV.grownO (HBX.out.alloc _) (HE2.out.own.alloc _) hgrow
      go_roundw
      case rel => exact ⟨7, by omega, by first | rfl | go_num, HE3.eo, hbx3⟩
      case measure => simp [intOf]
    · have hz0 : IntKind.u8.wrap (n / 2 ^ 56) = (((U / 72057594037927936 % 256 : Nat)) : Int) := by rw [IntKind.wrap_u8]; omega
      have hz1 : IntKind.u8.wrap (n / 72057594037927936) = (((U / 72057594037927936 % 256 : Nat)) : Int) := by rw [IntKind.wrap_u8]; omega
      have hz2 : IntKind.u8.wrap n = (((U % 256 : Nat)) : Int) := by rw [IntKind.wrap_u8]; omega
      obtain ⟨f0, f1, f2⟩ := HBX.out.cells
      go_wp2_with (at_builtin; refine wp_pushN rfl _ _ rfl B _ _ rfl (HE2.out.own.alloc _) ⟨wr.heap.size, 0, none⟩ 1 1 [U / 72057594037927936 % 256] rfl rfl (by decide) (news1' wr _ _ (by first | omega | rfl)) (by have := HL.out; omega) (HE2.out.alloc _).sz ?_; intro v' w1 hown1 hgrow)
      have HE3 : En W w1 B v' (l ++ bs.take 8) := by
        have := (HE2.out.alloc _).push hown1 hgrow
        rw [List.append_assoc] at this
        rw [HBS.out] at this ⊢
        exact this
      have HB3 := Lib.hid ((HBX.out.alloc (.cells #[.int .u8 ((U / 72057594037927936 % 256 : Nat) : Int)] 5)))
      have hbx3 : BoxV w1 g 3 n s := BoxV.grownO (HBX.out.alloc _) (HE2.out.own.alloc _) hgrow
      go_roundw
      case rel => exact ⟨8, by omega, by first | rfl | go_num, HE3.eo, hbx3⟩
      case measure => simp [intOf]
    · go_wp2_with fail
      exact HP.out _ _ HE2.out

set_option maxHeartbeats 2000000 in
theorem rappval_0 (W : World) (B : Nat) (v : Value) (l : List Nat) (n : Int) (s : ByteArray) (w : World) (h : Eo W w B v l) :
    Calls Try.prog 20 #[v, Vv 0 n s] w fun e w' => ∃ v', e = .returned v' ∧ Eo W w' B v' (l ++ rv 0 n s) := by
  rw [rv0, List.append_nil]
  generalize hP : (fun (e : Ending) (w' : World) => ∃ v', e = .returned v' ∧ Eo W w' B v' l) = P
  have hpost : ∀ (v' : Value) (w' : World), Eo W w' B v' l → P (.returned v') w' := by
    intro v' w' h; rw [← hP]; exact ⟨v', rfl, h⟩
  have HP := Lib.hid hpost
  clear hP hpost
  have HE := Lib.hid (h.alloc (.cells #[.int .i64 0, .int .i64 n, .string s] 43))
  have HW := Lib.hid (width_any 0)
  rw [show wid 0 = 0 from rfl] at HW
  clear h
  unfold Vv
  go_enter Try.func20, Try.ntmps20
  go_wp2_with (first | (go_at_call 27; refine (HW.out _).mono ?_; rintro e w1 ⟨rfl, rfl⟩))
  go_loopw [0, 22] (fun x i wr => i = .int .i64 0 ∧ Eo W wr B x l) (fun _ _ _ => 0)
  case atStart => exact ⟨rfl, HE.out⟩
  case round =>
    obtain ⟨rfl, hen⟩ := hrel
    have HE2 := Lib.hid hen
    clear hen
    go_wp2_with fail
    exact HP.out _ _ HE2.out

set_option maxHeartbeats 4000000 in
theorem rappval_4 (W : World) (B : Nat) (v : Value) (l : List Nat) (hl : l.length ≤ 35184372088832) (n : Int) (s : ByteArray) (hs : s.size ≤ 200) (w : World) (h : Eo W w B v l) :
    Calls Try.prog 20 #[v, Vv 4 n s] w fun e w' => ∃ v', e = .returned v' ∧ Eo W w' B v' (l ++ rv 4 n s) := by
  generalize hP : (fun (e : Ending) (w' : World) => ∃ v', e = .returned v' ∧ Eo W w' B v' (l ++ rv 4 n s)) = P
  have hpost : ∀ (v' : Value) (w' : World), Eo W w' B v' (l ++ [s.size] ++ sl s) → P (.returned v') w' := by
    intro v' w' h; rw [← hP]
    refine ⟨v', rfl, ?_⟩
    rw [rv4, show s.size % 256 = s.size by omega, ← List.append_assoc]
    exact h
  have HP := Lib.hid hpost
  have HE := Lib.hid (h.alloc (.cells #[.int .i64 4, .int .i64 n, .string s] 43))
  have HB := Lib.hid (boxV_new w 4 n s)
  have HL := Lib.hid hl
  have hz : IntKind.u8.wrap (s.size : Int) = (s.size : Int) := by rw [IntKind.wrap_u8]; omega
  clear hpost hP h hl
  unfold Vv
  go_enter Try.func20, Try.ntmps20
  go_upto_region 1 with fail
  generalize w.alloc (.cells #[.int .i64 4, .int .i64 n, .string s] 43) = wx at *
  generalize w.heap.size = g at *
  obtain ⟨c0, c1, c2⟩ := HB.out.cells
  have hgl := HB.out.lt
  go_upto_region 2 with fail
  go_region_law (first
    | (refine step_pushN rfl _ _ rfl B _ _ rfl (HE.out.drew.own.alloc _) ⟨wx.heap.size, 0, none⟩ 1 1 [s.size] rfl rfl (by decide) (news1' wx.drew _ _ (by first | rfl | assumption | (simp [*]; done))) (by have := HL.out; omega) (HE.out.drew.alloc _).sz ?_; intro v1 w1 hown1 hgrow1; have HE1 := Lib.hid ((HE.out.drew.alloc _).push hown1 hgrow1); have HB1 := Lib.hid (BoxV.grownO (BoxV.alloc (show BoxV wx.drew _ _ _ _ from HB.out) _) (HE.out.drew.own.alloc _) hgrow1); obtain ⟨d0, d1, d2⟩ := HB1.out.cells; clear hgrow1 hown1)
    | (refine step_pushS rfl _ _ rfl B _ _ rfl HE1.out.own s rfl (by have := HL.out; simp; omega) HE1.out.sz ?_; intro v2 w2 hown2 hgrow2; have HE2 := Lib.hid (HE1.out.push hown2 hgrow2); clear hgrow2 hown2))
  all_goals
    go_wp2_with fail
    go_ret
    exact HP.out _ _ HE2.out.eo

theorem rappval_any (W : World) (B : Nat) (v : Value) (l : List Nat) (hl : l.length ≤ 35184372088832) (k n : Int) (s : ByteArray) (hv : VCheck k n s = 0) (hi : InI n) (w : World) (h : Eo W w B v l) :
    Calls Try.prog 20 #[v, Vv k n s] w fun e w' => ∃ v', e = .returned v' ∧ Eo W w' B v' (l ++ rv k n s) := by
  obtain ⟨h0, h4, -, -, hs⟩ := vck hv
  rcases kinds5 h0 h4 with rfl | rfl | rfl | rfl | rfl
  · exact rappval_0 W B v l n s w h
  · exact rappval_1 W B v l hl n s hi w h
  · exact rappval_2 W B v l hl n s hi w h
  · exact rappval_3 W B v l hl n s hi w h
  · exact rappval_4 W B v l hl n s hs w h

end Go.Proofs.Ytpknoclnmhomiab
