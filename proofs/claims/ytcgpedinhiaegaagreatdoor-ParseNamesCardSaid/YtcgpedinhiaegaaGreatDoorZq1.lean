/-
  Texts of mine put together, in build order.
  Conditions: as each declaration says.
-/
import Derived.Deep.QuietTactic
import Derived.Test.YtcgpedinhiaegaaGreatDoorZp9
namespace Go.Proofs.YtcgpedinhiaegaaGreatDoor
set_option maxRecDepth 100000
open Go.RowKit Go.Joins Go.ChangeShapes Go.WideShapes
set_option linter.unusedVariables false
set_option linter.unusedSimpArgs false

def prA : ByteArray := ⟨#[68, 69, 76, 69, 84, 69, 32, 70, 82, 79, 77, 32, 116, 32, 87, 72, 69, 82, 69, 32, 78, 79, 84, 32, 97, 32, 61, 32, 45, 49, 32, 43, 32, 98, 32, 42, 32, 50]⟩
def prB : ByteArray := ⟨#[83, 69, 76, 69, 67, 84, 32, 97, 32, 70, 82, 79, 77]⟩
def prAt : List Tk := [⟨1, [100, 101, 108, 101, 116, 101], 0, 0⟩, ⟨1, [102, 114, 111, 109], 0, 0⟩, ⟨1, [116], 0, 0⟩, ⟨1, [119, 104, 101, 114, 101], 0, 0⟩, ⟨1, [110, 111, 116], 0, 0⟩, ⟨1, [97], 0, 0⟩, ⟨5, [61], 0, 0⟩, ⟨5, [45], 0, 0⟩, ⟨2, [], 1, 0⟩, ⟨5, [43], 0, 0⟩, ⟨1, [98], 0, 0⟩, ⟨5, [42], 0, 0⟩, ⟨2, [], 2, 0⟩]
def prBt : List Tk := [⟨1, [115, 101, 108, 101, 99, 116], 0, 0⟩, ⟨1, [97], 0, 0⟩, ⟨1, [102, 114, 111, 109], 0, 0⟩]
theorem prA_toks : toksE (sl prA) = .ok prAt := by rfl
theorem prB_toks : toksE (sl prB) = .ok prBt := by rfl
theorem isN_t : isN [116] = true := by
  simp only [isN, nameB, resB, ByteArray.toList_eq]
  rfl
theorem isN_a : isN [97] = true := by
  simp only [isN, nameB, resB, ByteArray.toList_eq]
  rfl
theorem isN_b : isN [98] = true := by
  simp only [isN, nameB, resB, ByteArray.toList_eq]
  rfl
def prD : Ex := .mk 7 0 0 0 ⟨#[]⟩ ⟨#[]⟩ [.mk 13 0 0 0 ⟨#[]⟩ ⟨#[]⟩ [.mk 21 2 1 0 ⟨#[]⟩ ⟨#[]⟩ []], .mk 9 0 0 0 ⟨#[]⟩ ⟨#[]⟩ [.mk 22 0 0 0 (strB [98]) ⟨#[]⟩ [], .mk 21 2 2 0 ⟨#[]⟩ ⟨#[]⟩ []]]
def prC : Ex := .mk 1 0 0 0 ⟨#[]⟩ ⟨#[]⟩ [.mk 22 0 0 0 (strB [97]) ⟨#[]⟩ [], prD]
def prX : Ex := .mk 16 0 0 0 ⟨#[]⟩ ⟨#[]⟩ [prC]
theorem prA_p : parseP isN 40 prAt = some (.ok { kind := 8, table := [116], whr := prX }) := by kernel_rfl
theorem prX_dep : depR prX = 4 := by rfl
theorem prX_wf : Ex.Wf prX := by
  simp [prX, prC, prD, Ex.Wf, Ex.WfL]
theorem prB_p : parseP isN 40 prBt = some (.error 130) := by kernel_rfl
end Go.Proofs.YtcgpedinhiaegaaGreatDoor

namespace Go.Proofs.YtcgpedinhiaegaaGreatDoor
set_option maxRecDepth 100000
open Go.RowKit Go.Joins Go.ChangeShapes Go.WideShapes
set_option linter.unusedVariables false
set_option linter.unusedSimpArgs false

theorem XE.er_mk {y : XE} {op kind num scale : Int} {text qual : ByteArray} {l : List Ex} (h : y.er = .mk op kind num scale text qual l) : ∃ a cap args, y = .mk op kind num scale text qual a cap args ∧ XE.erL args = l := by
  obtain ⟨op', kind', num', scale', text', qual', a, cap, args⟩ := y
  simp only [XE.er, Ex.mk.injEq] at h
  obtain ⟨rfl, rfl, rfl, rfl, rfl, rfl, h⟩ := h
  exact ⟨a, cap, args, rfl, h⟩
theorem XE.erL_cons {l : List XE} {a : Ex} {r : List Ex} (h : XE.erL l = a :: r) : ∃ x t, l = x :: t ∧ x.er = a ∧ XE.erL t = r := by
  cases l with
  | nil => simp [XE.erL] at h
  | cons x t =>
    simp only [XE.erL, List.cons.injEq] at h
    exact ⟨x, t, rfl, h.1, h.2⟩
theorem XE.erL_nil {l : List XE} (h : XE.erL l = []) : l = [] := by
  cases l with
  | nil => rfl
  | cons x t => simp [XE.erL] at h
theorem prX_lies {K : Bl} {w : World} {y : XE} (h : y.er = prX) (m : XE.Mem K w y) : ∃ b0 o0 c0 b1 o1 c1 z,
    y = .mk 16 0 0 0 ⟨#[]⟩ ⟨#[]⟩ (some ⟨b0, o0, none⟩) c0 [z] ∧ 1 ≤ c0 ∧ 2 ≤ c1 ∧ b0 < w.heap.size ∧ b1 < w.heap.size ∧ w.cell? ⟨b0, o0, none⟩ = some (.int .i64 1) ∧ w.cell? ⟨b0, o0 + 1, none⟩ = some (.slice (some ⟨b1, o1, none⟩) 2 c1) ∧ w.cell? ⟨b1, o1 + 7, none⟩ = some (.int .i64 7) := by
  obtain ⟨a, cap, args, rfl, h1⟩ := XE.er_mk h
  obtain ⟨z, t, rfl, h2, h3⟩ := XE.erL_cons h1
  obtain rfl := XE.erL_nil h3
  obtain ⟨a1, cap1, args1, rfl, h4⟩ := XE.er_mk h2
  obtain ⟨z1, t1, rfl, h5, h6⟩ := XE.erL_cons h4
  obtain ⟨z2, t2, rfl, h7, h8⟩ := XE.erL_cons h6
  obtain rfl := XE.erL_nil h8
  obtain ⟨a3, cap3, args3, rfl, h9⟩ := XE.er_mk h7
  have q0 := m
  unfold XE.Mem at q0
  obtain ⟨b0, o0, rfl, _, hb0, hc0, m1⟩ := XE.Mem.at m (k := 0) rfl
  have q1 := m1
  unfold XE.Mem at q1
  obtain ⟨b1, o1, rfl, _, hb1, hc1, m2⟩ := XE.Mem.at m1 (k := 1) rfl
  have k0 := hc0 0 _ rfl
  have k1 := hc0 1 _ rfl
  have k2 := hc1 0 _ rfl
  simp only [Nat.zero_mul, Nat.one_mul, Nat.add_zero] at k0 k1 k2
  exact ⟨b0, o0, cap, b1, o1, cap1, _, rfl, q0.1, q1.1, hb0, hb1, k0, k1, k2⟩
set_option maxHeartbeats 4000000 in
theorem speaks13_any (w : World) (hE : ErrR w) : Calls Tryz.prog 12 #[] w fun e w' => e = .returned (.bool true) ∧ Below w.heap.size w w' := by
  have H1 := Lib.hid (parse_p prA w hE 40 (r := .ok { kind := 8, table := [116], whr := prX }) (by unfold parseS; rw [prA_toks]; exact prA_p))
  have H2 := Lib.hid (fun (wx : World) (hb : Below w.heap.size w wx) => parse_p prB wx (hE.below hb) 40 (r := .error 130) (by unfold parseS; rw [prB_toks]; exact prB_p))
  clear hE
  unfold prA at H1
  unfold prB at H2
  generalize hP : (fun (e : Ending) (w' : World) => e = .returned (.bool true) ∧ Below w.heap.size w w') = P
  have HP := Lib.hid hP
  clear hP
  go_enter Tryz.func12, Tryz.ntmps12
  go_wp2_with fail
  try go_at_call 13
  refine H1.out.mono ?_
  rintro e w1 ⟨b1, x, rfl, hx, mx⟩
  have hk : x.kind = 8 := congrArg Stm.kind hx
  have ht : x.table = [116] := congrArg Stm.table hx
  have hw : x.whr.er = prX := congrArg Stm.whr hx
  obtain ⟨b0, o0, c0, b2, o2, c2, z, hz, hc0, hc2, hb0, hb2, k0, k1, k2⟩ := prX_lies hw mx.whr
  have hn := Bx.new w1 #[.int .i64 0, .string ⟨#[]⟩, .string ⟨#[]⟩, .slice none 0 0, .slice none 0 0, .bool false, .slice none 0 0, .slice none 0 0, .slice none 0 0, .int .i64 0, .slice none 0 0, .int .i64 0, .int .i64 0, .int .i64 0, .string ⟨#[]⟩, .string ⟨#[]⟩, .slice none 0 0, .slice none 0 0] 34
  obtain ⟨wz, hst, fz, bz⟩ := st_V hn rfl x
  have HST := Lib.hid hst
  have hx1 := x.enc
  have f1 : Frm (fun k => w1.heap.size ≤ k) w1 wz := (Frm.of_below (F := fun k => w1.heap.size ≤ k) ((Below.refl _ _).alloc (Nat.le_refl _) _)).trans fz (fun k hk => .inl (Nat.le_of_eq hk.symm))
  have bl : Below w1.heap.size w1 wz := f1.below (fun k hk => hk) (Nat.le_refl _)
  have m1 := XSt.Mem.frm (Frm.of_below (F := fun _ => False) bl) (fun _ _ e => e) mx
  have hbz : Bx wz w1.heap.size #[.int .i64 8, .string ⟨#[116]⟩, .string (strB x.index), x.cols.val, x.names.val, .bool x.uniq, x.rows.val, x.items.val, x.src.val, .int .i64 16, .slice (some ⟨b0, o0, none⟩) 1 c0, .int .i64 0, .int .i64 0, .int .i64 0, .string ⟨#[]⟩, .string ⟨#[]⟩, x.order.val, x.sets.val] 34 := by
    have h := bz
    unfold XSt.enc at h
    rw [hk, ht, hz] at h
    exact h
  have HBZ := Lib.hid hbz
  have HBL := Lib.hid (b1.trans (bl.mono b1.size))
  have HK := Lib.hid (And.intro ((bl.cell (p := ⟨b0, o0, none⟩) hb0).trans k0) (And.intro ((bl.cell (p := ⟨b0, o0 + 1, none⟩) hb0).trans k1) ((bl.cell (p := ⟨b2, o2 + 7, none⟩) hb2).trans k2)))
  have HN := Lib.hid (And.intro (Nat.lt_of_lt_of_le hb0 bl.size) (Nat.lt_of_lt_of_le hb2 bl.size))
  have HM := Lib.hid (show XE.Mem (GE w.heap.size) wz x.whr from m1.whr)
  have HW := Lib.hid hw
  have HZ := Lib.hid hz
  clear hbz bl b1 k0 k1 k2 hb0 hb2 m1 f1 bz fz hst hn mx hk ht hw hx hx1 hz H1
  go_wp2_with (first | (refine wpSt rfl _ _ rfl rfl rfl HST.out ?_; clear HST))
  try go_at_call 13
  refine (H2.out wz HBL.out).mono ?_
  rintro e w2 ⟨bq, rfl⟩
  have hn := Bx.new w2 #[.int .i64 0, .string ⟨#[]⟩, .string ⟨#[]⟩, .slice none 0 0, .slice none 0 0, .bool false, .slice none 0 0, .slice none 0 0, .slice none 0 0, .int .i64 0, .slice none 0 0, .int .i64 0, .int .i64 0, .int .i64 0, .string ⟨#[]⟩, .string ⟨#[]⟩, .slice none 0 0, .slice none 0 0] 34
  obtain ⟨wy, hst, fz, bz⟩ := st_V hn rfl ({ kind := 0 } : XSt)
  have HST := Lib.hid (show (Instr.storeAt 34 (.pointer (some ⟨w2.heap.size, 0, none⟩)) (.agg #[.int .i64 0, .string ⟨#[]⟩, .string ⟨#[]⟩, .slice none 0 0, .slice none 0 0, .bool false, .slice none 0 0, .slice none 0 0, .slice none 0 0, .int .i64 0, .slice none 0 0, .int .i64 0, .int .i64 0, .int .i64 0, .string ⟨#[]⟩, .string ⟨#[]⟩, .slice none 0 0, .slice none 0 0])).run Tryz.prog (w2.alloc (.cells #[.int .i64 0, .string ⟨#[]⟩, .string ⟨#[]⟩, .slice none 0 0, .slice none 0 0, .bool false, .slice none 0 0, .slice none 0 0, .slice none 0 0, .int .i64 0, .slice none 0 0, .int .i64 0, .int .i64 0, .int .i64 0, .string ⟨#[]⟩, .string ⟨#[]⟩, .slice none 0 0, .slice none 0 0] 34)) = .ok () wy from hst)
  have f1 : Frm (fun k => w2.heap.size ≤ k) w2 wy := (Frm.of_below (F := fun k => w2.heap.size ≤ k) ((Below.refl _ _).alloc (Nat.le_refl _) _)).trans fz (fun k hk => .inl (Nat.le_of_eq hk.symm))
  have bl : Below w2.heap.size w2 wy := f1.below (fun k hk => hk) (Nat.le_refl _)
  have b3 : Below wz.heap.size wz wy := bq.trans (bl.mono bq.size)
  have HB3 := Lib.hid b3
  have HBY := Lib.hid (HBZ.out.below b3)
  have k0 := (b3.cell (p := ⟨b0, o0, none⟩) HN.out.1).trans HK.out.1
  have g9 := HBY.out.cell (o := 9) (v := .int .i64 16) rfl
  have g10 := HBY.out.cell (o := 10) (v := .slice (some ⟨b0, o0, none⟩) 1 c0) rfl
  have g11 := HBY.out.cell (o := 11) (v := .int .i64 0) rfl
  have g12 := HBY.out.cell (o := 12) (v := .int .i64 0) rfl
  have g13 := HBY.out.cell (o := 13) (v := .int .i64 0) rfl
  have g14 := HBY.out.cell (o := 14) (v := .string ⟨#[]⟩) rfl
  have g15 := HBY.out.cell (o := 15) (v := .string ⟨#[]⟩) rfl
  have gl := HBY.out.lt
  have b4 : Below wy.heap.size wy (wy.alloc (.cells #[.int .i64 16, .slice (some ⟨b0, o0, none⟩) 1 c0, .int .i64 0, .int .i64 0, .int .i64 0, .string ⟨#[]⟩, .string ⟨#[]⟩] 30)) := (Below.refl _ _).alloc (Nat.le_refl _) _
  have hv : Bx (wy.alloc (.cells #[.int .i64 16, .slice (some ⟨b0, o0, none⟩) 1 c0, .int .i64 0, .int .i64 0, .int .i64 0, .string ⟨#[]⟩, .string ⟨#[]⟩] 30)) wy.heap.size #[.int .i64 16, .slice (some ⟨b0, o0, none⟩) 1 c0, .int .i64 0, .int .i64 0, .int .i64 0, .string ⟨#[]⟩, .string ⟨#[]⟩] 30 := Bx.new wy _ _
  have b5 : Below wz.heap.size wz (wy.alloc (.cells #[.int .i64 16, .slice (some ⟨b0, o0, none⟩) 1 c0, .int .i64 0, .int .i64 0, .int .i64 0, .string ⟨#[]⟩, .string ⟨#[]⟩] 30)) := HB3.out.trans (b4.mono HB3.out.size)
  have HBV := Lib.hid b5
  have hs := HBZ.out.below b5
  have c0s := hs.cell (o := 0) (v := .int .i64 8) rfl
  have c1s := hs.cell (o := 1) (v := .string ⟨#[116]⟩) rfl
  have x0 := hv.cell (o := 0) (v := .int .i64 16) rfl
  have x1 := hv.cell (o := 1) (v := .slice (some ⟨b0, o0, none⟩) 1 c0) rfl
  have x2 := hv.cell (o := 2) (v := .int .i64 0) rfl
  have x3 := hv.cell (o := 3) (v := .int .i64 0) rfl
  have x4 := hv.cell (o := 4) (v := .int .i64 0) rfl
  have x5 := hv.cell (o := 5) (v := .string ⟨#[]⟩) rfl
  have x6 := hv.cell (o := 6) (v := .string ⟨#[]⟩) rfl
  have y0 := (b5.cell (p := ⟨b0, o0, none⟩) HN.out.1).trans HK.out.1
  have y1 := (b5.cell (p := ⟨b0, o0 + 1, none⟩) HN.out.1).trans HK.out.2.1
  have y2 := (b5.cell (p := ⟨b2, o2 + 7, none⟩) HN.out.2).trans HK.out.2.2
  have HD := Lib.hid (depth_p 5 (K := GE w.heap.size) (w := (wy.alloc (.cells #[.int .i64 16, .slice (some ⟨b0, o0, none⟩) 1 c0, .int .i64 0, .int .i64 0, .int .i64 0, .string ⟨#[]⟩, .string ⟨#[]⟩] 30))) x.whr (by rw [HW.out, prX_dep]; omega) (by rw [HW.out, prX_dep]; omega) (by rw [HW.out]; exact prX_wf) (HM.out.below b5))
  rw [HW.out, prX_dep, HZ.out] at HD
  have b6 : Below w.heap.size w (wy.alloc (.cells #[.int .i64 16, .slice (some ⟨b0, o0, none⟩) 1 c0, .int .i64 0, .int .i64 0, .int .i64 0, .string ⟨#[]⟩, .string ⟨#[]⟩] 30)) := HBL.out.trans (b5.mono HBL.out.size)
  have HB6 := Lib.hid b6
  clear hst fz bz f1 bl bq hn b3 k0 b4 hv b5 hs b6
  go_wp2_with (first | (refine wpSt rfl _ _ rfl rfl rfl HST.out ?_; clear HST))
  try go_at_call 27
  refine HD.out.mono ?_
  rintro e w' ⟨rfl, bd⟩
  have HF := Lib.hid (HB6.out.trans (bd.mono HB6.out.size))
  clear bd
  go_wp2_with fail
  rw [← HP.out]
  exact ⟨rfl, HF.out⟩

end Go.Proofs.YtcgpedinhiaegaaGreatDoor
