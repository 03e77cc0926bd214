/-
  How a condition bounds a column (norm's Bound): both operands, over the translation (layer 18).
  Conditions: the condition lies in memory, and is not greater than 4194304.
-/
import Derived.Test.YtccjeclncmogiaaNo19
namespace Go.Proofs.Ytccjeclncmogiaa
open Go.RowKit Go.Joins Go.ChangeShapes Go.WideShapes
set_option linter.unusedVariables false
set_option linter.unusedSimpArgs false

/-- two blocks just made -/
theorem two_new (w : World) (c d : Array Value) (T : TypeId) : Bx (((w.alloc (.cells c T)).alloc (.cells d T)).drew) w.heap.size c T ∧ Bx (((w.alloc (.cells c T)).alloc (.cells d T)).drew) (w.heap.size + 1) d T ∧ Below w.heap.size w (((w.alloc (.cells c T)).alloc (.cells d T)).drew) := by
  have b1 : Below w.heap.size w (w.alloc (.cells c T)) := (Below.refl _ _).alloc (Nat.le_refl _) _
  have h1 := Bx.new w c T
  have hs : (w.alloc (.cells c T)).heap.size = w.heap.size + 1 := by simp
  have h2 := Bx.new (w.alloc (.cells c T)) d T
  have b2 : Below (w.alloc (.cells c T)).heap.size (w.alloc (.cells c T)) ((w.alloc (.cells c T)).alloc (.cells d T)) := (Below.refl _ _).alloc (Nat.le_refl _) _
  rw [hs] at h2
  have h3 := h1.below b2
  exact ⟨h3, h2, (b1.trans (b2.mono b1.size)).drew⟩
set_option maxRecDepth 100000 in
set_option maxHeartbeats 16000000 in
theorem bound_two {K : Bl} {w : World} (op ty : Int) (a : Option Addr) (cap : Nat) (x y : XC) (vk vn : Int) (vs : ByteArray) (tab col t : Int) (hc : (turn op == 0) = false) (hm : XC.Row K w a cap [x, y]) (hs : szC x.er ≤ 4194304 ∧ szC y.er ≤ 4194304) (hKw : ∀ k, K k → k < w.heap.size) :
    Calls Try.prog 8 #[.agg (cel op ty (.slice a 2 cap) vk vn vs tab col), .int .i64 t] w (BnE (fun w' y => y.Al ∧ XC.Mem (fun k => w.heap.size < k) w' y) w (if bds x.er y.er t = true then (true, x.er.col, op, y.er) else if bds y.er x.er t = true then (true, y.er.col, turn op, x.er) else (false, 0, 0, zCd))) := by
  generalize hP : BnE (fun w' y => y.Al ∧ XC.Mem (fun k => w.heap.size < k) w' y) w (if bds x.er y.er t = true then (true, x.er.col, op, y.er) else if bds y.er x.er t = true then (true, y.er.col, turn op, x.er) else (false, 0, 0, zCd)) = P
  have HP := Lib.hid hP
  have b1 : Below w.heap.size w (w.alloc (.cells (cel op ty (.slice a 2 cap) vk vn vs tab col) 26)) := (Below.refl _ _).alloc (Nat.le_refl _) _
  have hx1 := Bx.new w (cel op ty (.slice a 2 cap) vk vn vs tab col) 26
  obtain ⟨wa, hwa⟩ : ∃ wa, w.alloc (.cells (cel op ty (.slice a 2 cap) vk vn vs tab col) 26) = wa := ⟨_, rfl⟩
  rw [hwa] at b1 hx1
  have hx2 := Bx.new wa #[.int .i64 0, .int .i64 0, .int .i64 0, .int .i64 0, .slice none 0 0, .int .i64 0, .int .i64 0, .string ⟨#[]⟩, .int .i64 0, .int .i64 0] 30
  have b2 : Below wa.heap.size wa (wa.alloc (.cells #[.int .i64 0, .int .i64 0, .int .i64 0, .int .i64 0, .slice none 0 0, .int .i64 0, .int .i64 0, .string ⟨#[]⟩, .int .i64 0, .int .i64 0] 30)) := (Below.refl _ _).alloc (Nat.le_refl _) _
  obtain ⟨wb, hwb⟩ : ∃ wb, wa.alloc (.cells #[.int .i64 0, .int .i64 0, .int .i64 0, .int .i64 0, .slice none 0 0, .int .i64 0, .int .i64 0, .string ⟨#[]⟩, .int .i64 0, .int .i64 0] 30) = wb := ⟨_, rfl⟩
  rw [hwb] at hx2 b2
  have hx3 := hx1.below b2
  have b3 := b1.trans (b2.mono b1.size)
  have HT := Lib.hid (turned_any wb op)
  have HB3 := Lib.hid b3
  have hwas := Lib.hid hx1.lt
  have HKW := Lib.hid hKw
  have hrow := hm.below b3
  have hbd := hrow.bounds
  have hcap : 2 ≤ cap := hbd.1
  have hcm : cap ≤ maxLen := hbd.2
  obtain ⟨b, o, rfl, -, hb, hcx, hcy, hmx, hmy⟩ := XC.at_row hrow
  have l0 : wb.cell? ⟨w.heap.size, 0, none⟩ = some (.int .i64 op) := hx3.cell rfl
  have l2 : wb.cell? ⟨w.heap.size, 2, none⟩ = some (.slice (some ⟨b, o, none⟩) 2 cap) := hx3.cell rfl
  have HM := Lib.hid (And.intro hmx (And.intro hmy hs))
  have HBX := Lib.hid (And.intro hx2 hx3)
  obtain ⟨op1, ty1, a1, cap1, args1, vk1, vn1, vs1, tab1, col1⟩ := x
  obtain ⟨op2, ty2, a2, cap2, args2, vk2, vn2, vs2, tab2, col2⟩ := y
  have q0 := hcx 0 _ rfl
  have q1 := hcx 1 _ rfl
  have q2 := hcx 2 _ rfl
  have q3 := hcx 3 _ rfl
  have q4 := hcx 4 _ rfl
  have q5 := hcx 5 _ rfl
  have q6 := hcx 6 _ rfl
  have q7 := hcx 7 _ rfl
  have p0 := hcy 0 _ rfl
  have p1 := hcy 1 _ rfl
  have p2 := hcy 2 _ rfl
  have p3 := hcy 3 _ rfl
  have p4 := hcy 4 _ rfl
  have p5 := hcy 5 _ rfl
  have p6 := hcy 6 _ rfl
  have p7 := hcy 7 _ rfl
  rw [Nat.add_zero] at q0 p0
  obtain ⟨q, hq⟩ : ∃ q, turn op = q := ⟨_, rfl⟩
  rw [hq] at HT hc HP
  have hlt1 : w.heap.size < wb.heap.size := hx3.lt
  have hlt2 : wa.heap.size < wb.heap.size := hx2.lt
  clear hP b1 hx1 hx2 b2 hx3 b3 hm hrow hbd hcx hcy hmx hmy hs hq
  go_enter Try.func8, Try.ntmps8
  go_wp2_with fail
  try go_at_call 20
  refine HT.out.mono ?_
  rintro e w3 ⟨rfl, rfl⟩
  go_wp2_with fail
  go_region
  all_goals
    first
    | (obtain ⟨hl, hr, hbw⟩ := two_new w3 #[.int .i64 op1, .int .i64 ty1, .slice a1 args1.length cap1, .int .i64 vk1, .int .i64 vn1, .string vs1, .int .i64 tab1, .int .i64 col1] #[.int .i64 op2, .int .i64 ty2, .slice a2 args2.length cap2, .int .i64 vk2, .int .i64 vn2, .string vs2, .int .i64 tab2, .int .i64 col2] 26; obtain ⟨wd, hwd⟩ : ∃ wd, (((w3.alloc (.cells #[.int .i64 op1, .int .i64 ty1, .slice a1 args1.length cap1, .int .i64 vk1, .int .i64 vn1, .string vs1, .int .i64 tab1, .int .i64 col1] 26)).alloc (.cells #[.int .i64 op2, .int .i64 ty2, .slice a2 args2.length cap2, .int .i64 vk2, .int .i64 vn2, .string vs2, .int .i64 tab2, .int .i64 col2] 26)).drew) = wd := ⟨_, rfl⟩; rw [hwd] at hl hr hbw; rw [hwd]; obtain ⟨gr, hgr⟩ : ∃ g, w3.heap.size + 1 = g := ⟨_, rfl⟩; obtain ⟨gl, hgl⟩ : ∃ g, w3.heap.size = g := ⟨_, rfl⟩; rw [hgr] at hr; rw [hgl] at hl; try rw [hgr]; try rw [hgl])
    | (obtain ⟨hr, hl, hbw⟩ := two_new w3 #[.int .i64 op2, .int .i64 ty2, .slice a2 args2.length cap2, .int .i64 vk2, .int .i64 vn2, .string vs2, .int .i64 tab2, .int .i64 col2] #[.int .i64 op1, .int .i64 ty1, .slice a1 args1.length cap1, .int .i64 vk1, .int .i64 vn1, .string vs1, .int .i64 tab1, .int .i64 col1] 26; obtain ⟨wd, hwd⟩ : ∃ wd, (((w3.alloc (.cells #[.int .i64 op2, .int .i64 ty2, .slice a2 args2.length cap2, .int .i64 vk2, .int .i64 vn2, .string vs2, .int .i64 tab2, .int .i64 col2] 26)).alloc (.cells #[.int .i64 op1, .int .i64 ty1, .slice a1 args1.length cap1, .int .i64 vk1, .int .i64 vn1, .string vs1, .int .i64 tab1, .int .i64 col1] 26)).drew) = wd := ⟨_, rfl⟩; rw [hwd] at hl hr hbw; rw [hwd]; obtain ⟨gl, hgl⟩ : ∃ g, w3.heap.size + 1 = g := ⟨_, rfl⟩; obtain ⟨gr, hgr⟩ : ∃ g, w3.heap.size = g := ⟨_, rfl⟩; rw [hgl] at hl; rw [hgr] at hr; try rw [hgl]; try rw [hgr])
    have HL := Lib.hid hl
    have HR := Lib.hid hr
    have hgl3 := Lib.hid (show w3.heap.size ≤ gl by omega)
    have hgr3 := Lib.hid (show w3.heap.size ≤ gr by omega)
    have hwb3 := Lib.hid hlt2
    have HB4 := Lib.hid (HB3.out.trans (hbw.mono HB3.out.size))
    have HBW := Lib.hid hbw
    have hlt1 := hl.lt
    have hlt2' := hr.lt
    have x0 : wd.cell? ⟨gl, 0, none⟩ = some (.int .i64 op1) := hl.cell rfl
    have x1 : wd.cell? ⟨gl, 1, none⟩ = some (.int .i64 ty1) := hl.cell rfl
    have x2 : wd.cell? ⟨gl, 2, none⟩ = some (.slice a1 args1.length cap1) := hl.cell rfl
    have x3 : wd.cell? ⟨gl, 3, none⟩ = some (.int .i64 vk1) := hl.cell rfl
    have x4 : wd.cell? ⟨gl, 4, none⟩ = some (.int .i64 vn1) := hl.cell rfl
    have x5 : wd.cell? ⟨gl, 5, none⟩ = some (.string vs1) := hl.cell rfl
    have x6 : wd.cell? ⟨gl, 6, none⟩ = some (.int .i64 tab1) := hl.cell rfl
    have x7 : wd.cell? ⟨gl, 7, none⟩ = some (.int .i64 col1) := hl.cell rfl
    have y0 : wd.cell? ⟨gr, 0, none⟩ = some (.int .i64 op2) := hr.cell rfl
    have y1 : wd.cell? ⟨gr, 1, none⟩ = some (.int .i64 ty2) := hr.cell rfl
    have y2 : wd.cell? ⟨gr, 2, none⟩ = some (.slice a2 args2.length cap2) := hr.cell rfl
    have y3 : wd.cell? ⟨gr, 3, none⟩ = some (.int .i64 vk2) := hr.cell rfl
    have y4 : wd.cell? ⟨gr, 4, none⟩ = some (.int .i64 vn2) := hr.cell rfl
    have y5 : wd.cell? ⟨gr, 5, none⟩ = some (.string vs2) := hr.cell rfl
    have y6 : wd.cell? ⟨gr, 6, none⟩ = some (.int .i64 tab2) := hr.cell rfl
    have y7 : wd.cell? ⟨gr, 7, none⟩ = some (.int .i64 col2) := hr.cell rfl
    have HN1 := Lib.hid (bounds_any (K := K) (w := wd) (.mk op1 ty1 a1 cap1 args1 vk1 vn1 vs1 tab1 col1) (.mk op2 ty2 a2 cap2 args2 vk2 vn2 vs2 tab2 col2) t (HM.out.2.1.below hbw))
    have HN2 := Lib.hid (fun (wv : World) (hb : Below wd.heap.size wd wv) => bounds_any (K := K) (w := wv) (.mk op2 ty2 a2 cap2 args2 vk2 vn2 vs2 tab2 col2) (.mk op1 ty1 a1 cap1 args1 vk1 vn1 vs1 tab1 col1) t (HM.out.1.below (hbw.trans (hb.mono hbw.size))))
    have HCPy := Lib.hid (fun (wv : World) (h : Frm (fun k => k = wa.heap.size) w3 wv) => copy_q _ K wv (.mk op2 ty2 a2 cap2 args2 vk2 vn2 vs2 tab2 col2) (Nat.lt_succ_self _) HM.out.2.2.2 (XC.Mem.frm h (fun k hk e => by have := HKW.out k hk; have := hwas.out; omega) _ HM.out.2.1))
    have HCPx := Lib.hid (fun (wv : World) (h : Frm (fun k => k = wa.heap.size) w3 wv) => copy_q _ K wv (.mk op1 ty1 a1 cap1 args1 vk1 vn1 vs1 tab1 col1) (Nat.lt_succ_self _) HM.out.2.2.1 (XC.Mem.frm h (fun k hk e => by have := HKW.out k hk; have := hwas.out; omega) _ HM.out.1))
    obtain ⟨B1, hB1⟩ : ∃ B, bds (XC.er (.mk op1 ty1 a1 cap1 args1 vk1 vn1 vs1 tab1 col1)) (XC.er (.mk op2 ty2 a2 cap2 args2 vk2 vn2 vs2 tab2 col2)) t = B := ⟨_, rfl⟩
    obtain ⟨B2, hB2⟩ : ∃ B, bds (XC.er (.mk op2 ty2 a2 cap2 args2 vk2 vn2 vs2 tab2 col2)) (XC.er (.mk op1 ty1 a1 cap1 args1 vk1 vn1 vs1 tab1 col1)) t = B := ⟨_, rfl⟩
    rw [hB1] at HN1 HP
    rw [hB2] at HN2 HP
    have HBX4 := Lib.hid (And.intro (HBX.out.1.below hbw) (HBX.out.2.below hbw))
    simp only [XC.val] at HN1 HN2 HCPx HCPy
    clear hl hr hbw hB1 hB2
    go_wp2_with fail
    try go_at_call 21
    refine HN1.out.mono ?_
    rintro e w5 ⟨rfl, b5⟩
    have HB5 := Lib.hid (HB4.out.trans (b5.mono HB4.out.size))
    have HB35 := Lib.hid (HBW.out.trans (b5.mono HBW.out.size))
    have HLC := Lib.hid (HL.out.below b5)
    have HRC := Lib.hid (HR.out.below b5)
    have HOC := Lib.hid (HBX4.out.2.below b5)
    have HZR := Lib.hid (HBX4.out.1.below b5)
    have HL7 := Lib.hid (fun (wv : World) (hb : Below w5.heap.size w5 wv) => HLC.out.below hb)
    have HN2' := Lib.hid (HN2.out w5 b5)
    have s0 : w5.cell? ⟨gl, 0, none⟩ = some (.int .i64 op1) := HLC.out.cell rfl
    have s1 : w5.cell? ⟨gl, 1, none⟩ = some (.int .i64 ty1) := HLC.out.cell rfl
    have s2 : w5.cell? ⟨gl, 2, none⟩ = some (.slice a1 args1.length cap1) := HLC.out.cell rfl
    have s3 : w5.cell? ⟨gl, 3, none⟩ = some (.int .i64 vk1) := HLC.out.cell rfl
    have s4 : w5.cell? ⟨gl, 4, none⟩ = some (.int .i64 vn1) := HLC.out.cell rfl
    have s5 : w5.cell? ⟨gl, 5, none⟩ = some (.string vs1) := HLC.out.cell rfl
    have s6 : w5.cell? ⟨gl, 6, none⟩ = some (.int .i64 tab1) := HLC.out.cell rfl
    have s7 : w5.cell? ⟨gl, 7, none⟩ = some (.int .i64 col1) := HLC.out.cell rfl
    have u0 : w5.cell? ⟨gr, 0, none⟩ = some (.int .i64 op2) := HRC.out.cell rfl
    have u1 : w5.cell? ⟨gr, 1, none⟩ = some (.int .i64 ty2) := HRC.out.cell rfl
    have u2 : w5.cell? ⟨gr, 2, none⟩ = some (.slice a2 args2.length cap2) := HRC.out.cell rfl
    have u3 : w5.cell? ⟨gr, 3, none⟩ = some (.int .i64 vk2) := HRC.out.cell rfl
    have u4 : w5.cell? ⟨gr, 4, none⟩ = some (.int .i64 vn2) := HRC.out.cell rfl
    have u5 : w5.cell? ⟨gr, 5, none⟩ = some (.string vs2) := HRC.out.cell rfl
    have u6 : w5.cell? ⟨gr, 6, none⟩ = some (.int .i64 tab2) := HRC.out.cell rfl
    have u7 : w5.cell? ⟨gr, 7, none⟩ = some (.int .i64 col2) := HRC.out.cell rfl
    have o5 : w5.cell? ⟨w.heap.size, 0, none⟩ = some (.int .i64 op) := HOC.out.cell rfl
    have hs5l := HLC.out.lt
    have hs5r := HRC.out.lt
    clear b5 HN2 HBX4 HN1 HL HR HBX HT hcap hcm hb hlt1 hlt2' l0 l2 q0 q1 q2 q3 q4 q5 q6 q7 p0 p1 p2 p3 p4 p5 p6 p7 x0 x1 x2 x3 x4 x5 x6 x7 y0 y1 y2 y3 y4 y5 y6 y7
    cases B1 with
    | true =>
      have HIF := Lib.hid (show (if true = true then (true, (XC.er (.mk op1 ty1 a1 cap1 args1 vk1 vn1 vs1 tab1 col1)).col, op, XC.er (.mk op2 ty2 a2 cap2 args2 vk2 vn2 vs2 tab2 col2)) else if B2 = true then (true, (XC.er (.mk op2 ty2 a2 cap2 args2 vk2 vn2 vs2 tab2 col2)).col, q, XC.er (.mk op1 ty1 a1 cap1 args1 vk1 vn1 vs1 tab1 col1)) else (false, 0, 0, zCd)) = (true, col1, op, XC.er (.mk op2 ty2 a2 cap2 args2 vk2 vn2 vs2 tab2 col2)) by rw [if_pos rfl, XC.er]; rfl)
      have HBZ := Lib.hid (Below.drew (Below.refl w5.heap.size w5))
      go_wp2_with fail
      have hC := (HCPy.out w5.drew (Frm.of_below (HB35.out.trans (HBZ.out.mono HB35.out.size)))).mono (R' := fun e w' => ∃ y : XC, e = .returned y.val ∧ (y.er = XC.er (.mk op2 ty2 a2 cap2 args2 vk2 vn2 vs2 tab2 col2) ∧ y.Al ∧ XC.Mem (fun k => w5.heap.size < k) w' y) ∧ Below w5.heap.size w5 w') (by rintro e w' ⟨y, rfl, h1, h2, h3, h4⟩; exact ⟨y, rfl, ⟨h1, h2, h3⟩, HBZ.out.trans h4⟩)
      refine reg6 s7 HLC.out.lt (by have := hgl3.out; have := hgr3.out; have := hwb3.out; omega) o5 (HOC.out.lt) (by have := hwas.out; omega) HRC.out (by have := hgl3.out; have := hgr3.out; have := hwb3.out; omega) HZR.out hC (fun c d v a w h => by cases d <;> exact h) (fun yc w6 wz a' hr hb6 fz bz h4 h5 hd => ?_)
      have hszb : wa.heap.size < w5.heap.size := HZR.out.lt
      have HF := Lib.hid (show P (.returned (.tuple #[.agg (yc.rng col1 op), .bool true])) wz by
        rw [← HP.out]
        refine ⟨yc, by rw [HIF.out], by rw [HIF.out]; exact hr.1, ⟨hr.2.1, XC.Mem.mono (fun k hk => by have := HB5.out.size; omega) _ (XC.Mem.frm fz (fun k hk e => by omega) _ hr.2.2)⟩, ?_⟩
        exact HB5.out.trans (((Frm.of_below hb6).trans fz (New.refl _ _) |>.mono (F1 := fun k => w.heap.size ≤ k) (fun k hk => by have := hwas.out; omega)).below (fun k hk => hk) HB5.out.size))
      obtain ⟨op9, ty9, a9, cap9, args9, vk9, vn9, vs9, tab9, col9⟩ := yc
      go_wp2_with fail
      exact retB (R := P) (b := true) Try.results8 bz h4 h5 hd HF.out
    | false =>
      go_wp2_with fail
      try go_at_call 21
      refine HN2'.out.mono ?_
      rintro e w7 ⟨rfl, b7⟩
      have HB5 := Lib.hid (HB5.out.trans (b7.mono HB5.out.size))
      have HB35 := Lib.hid (HB35.out.trans (b7.mono HB35.out.size))
      have HLC := Lib.hid (HRC.out.below b7)
      have HRC := Lib.hid (HL7.out w7 b7)
      have HOC := Lib.hid (HOC.out.below b7)
      have HZR := Lib.hid (HZR.out.below b7)
      have v0 : w7.cell? ⟨gl, 0, none⟩ = some (.int .i64 op1) := HRC.out.cell rfl
      have v1 : w7.cell? ⟨gl, 1, none⟩ = some (.int .i64 ty1) := HRC.out.cell rfl
      have v2 : w7.cell? ⟨gl, 2, none⟩ = some (.slice a1 args1.length cap1) := HRC.out.cell rfl
      have v3 : w7.cell? ⟨gl, 3, none⟩ = some (.int .i64 vk1) := HRC.out.cell rfl
      have v4 : w7.cell? ⟨gl, 4, none⟩ = some (.int .i64 vn1) := HRC.out.cell rfl
      have v5 : w7.cell? ⟨gl, 5, none⟩ = some (.string vs1) := HRC.out.cell rfl
      have v6 : w7.cell? ⟨gl, 6, none⟩ = some (.int .i64 tab1) := HRC.out.cell rfl
      have v7 : w7.cell? ⟨gl, 7, none⟩ = some (.int .i64 col1) := HRC.out.cell rfl
      have r0 : w7.cell? ⟨gr, 0, none⟩ = some (.int .i64 op2) := HLC.out.cell rfl
      have r1 : w7.cell? ⟨gr, 1, none⟩ = some (.int .i64 ty2) := HLC.out.cell rfl
      have r2 : w7.cell? ⟨gr, 2, none⟩ = some (.slice a2 args2.length cap2) := HLC.out.cell rfl
      have r3 : w7.cell? ⟨gr, 3, none⟩ = some (.int .i64 vk2) := HLC.out.cell rfl
      have r4 : w7.cell? ⟨gr, 4, none⟩ = some (.int .i64 vn2) := HLC.out.cell rfl
      have r5 : w7.cell? ⟨gr, 5, none⟩ = some (.string vs2) := HLC.out.cell rfl
      have r6 : w7.cell? ⟨gr, 6, none⟩ = some (.int .i64 tab2) := HLC.out.cell rfl
      have r7 : w7.cell? ⟨gr, 7, none⟩ = some (.int .i64 col2) := HLC.out.cell rfl
      have o7 : w7.cell? ⟨w.heap.size, 0, none⟩ = some (.int .i64 op) := HOC.out.cell rfl
      have hs7l := HLC.out.lt
      have hs7r := HRC.out.lt
      clear b7 HN2' HL7 o5 hs5l hs5r s0 s1 s2 s3 s4 s5 s6 s7 u0 u1 u2 u3 u4 u5 u6 u7
      cases B2 with
      | true =>
        have HIF := Lib.hid (show (if false = true then (true, (XC.er (.mk op1 ty1 a1 cap1 args1 vk1 vn1 vs1 tab1 col1)).col, op, XC.er (.mk op2 ty2 a2 cap2 args2 vk2 vn2 vs2 tab2 col2)) else if true = true then (true, (XC.er (.mk op2 ty2 a2 cap2 args2 vk2 vn2 vs2 tab2 col2)).col, q, XC.er (.mk op1 ty1 a1 cap1 args1 vk1 vn1 vs1 tab1 col1)) else (false, 0, 0, zCd)) = (true, col2, q, XC.er (.mk op1 ty1 a1 cap1 args1 vk1 vn1 vs1 tab1 col1)) by rw [if_neg (by decide), if_pos rfl, XC.er]; rfl)
        have HBZ := Lib.hid (Below.drew (Below.refl w7.heap.size w7))
        go_wp2_with fail
        have hC := (HCPx.out w7.drew (Frm.of_below (HB35.out.trans (HBZ.out.mono HB35.out.size)))).mono (R' := fun e w' => ∃ y : XC, e = .returned y.val ∧ (y.er = XC.er (.mk op1 ty1 a1 cap1 args1 vk1 vn1 vs1 tab1 col1) ∧ y.Al ∧ XC.Mem (fun k => w7.heap.size < k) w' y) ∧ Below w7.heap.size w7 w') (by rintro e w' ⟨y, rfl, h1, h2, h3, h4⟩; exact ⟨y, rfl, ⟨h1, h2, h3⟩, HBZ.out.trans h4⟩)
        refine reg8 r7 HLC.out.lt (by have := hgl3.out; have := hgr3.out; have := hwb3.out; omega) HRC.out (by have := hgl3.out; have := hgr3.out; have := hwb3.out; omega) HZR.out hC (fun c d v a w h => by cases d <;> exact h) (fun yc w6 wz a' hr hb6 fz bz h4 h5 hd => ?_)
        have hszb : wa.heap.size < w7.heap.size := HZR.out.lt
        have HF := Lib.hid (show P (.returned (.tuple #[.agg (yc.rng col2 q), .bool true])) wz by
          rw [← HP.out]
          refine ⟨yc, by rw [HIF.out], by rw [HIF.out]; exact hr.1, ⟨hr.2.1, XC.Mem.mono (fun k hk => by have := HB5.out.size; omega) _ (XC.Mem.frm fz (fun k hk e => by omega) _ hr.2.2)⟩, ?_⟩
          exact HB5.out.trans (((Frm.of_below hb6).trans fz (New.refl _ _) |>.mono (F1 := fun k => w.heap.size ≤ k) (fun k hk => by have := hwas.out; omega)).below (fun k hk => hk) HB5.out.size))
        obtain ⟨op9, ty9, a9, cap9, args9, vk9, vn9, vs9, tab9, col9⟩ := yc
        go_wp2_with fail
        exact retB (R := P) (b := true) Try.results8 bz h4 h5 hd HF.out
      | false =>
        obtain ⟨wz, hst, fz, hbz⟩ := st_R HZR.out 0 0 (.mk 0 0 none 0 [] 0 0 ⟨#[]⟩ 0 0)
        simp only [XC.rng, List.length_nil] at hst hbz
        have HST := Lib.hid hst
        have HBZ := Lib.hid hbz
        have HF := Lib.hid (show P (.returned (.tuple #[.agg #[.int .i64 0, .int .i64 0, .int .i64 0, .int .i64 0, .slice none 0 0, .int .i64 0, .int .i64 0, .string ⟨#[]⟩, .int .i64 0, .int .i64 0], .bool false])) wz by
          rw [← HP.out]
          exact ⟨.mk 0 0 none 0 [] 0 0 ⟨#[]⟩ 0 0, rfl, zC_er, ⟨by unfold XC.Al; exact ⟨.inl rfl, trivial⟩, XC.Mem.leaf _ _ _ _ _ _ _ _ _⟩, HB5.out.trans ((fz.mono (F1 := fun k => w.heap.size ≤ k) (fun k hk => by have := hwas.out; omega)).below (fun k hk => hk) HB5.out.size)⟩)
        clear hst hbz fz
        go_wp2_with (refine wpSt rfl _ _ rfl rfl rfl HST.out ?_; clear HST)
        refine retB (R := P) (w := wz) (b := false) Try.results8 HBZ.out ?_ ?_ ?_ HF.out
        · rfl
        · rfl
        · rfl

end Go.Proofs.Ytccjeclncmogiaa
