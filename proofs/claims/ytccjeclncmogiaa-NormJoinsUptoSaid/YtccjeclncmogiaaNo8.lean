/-
  A code copied (norm's copyCode): the contract, over the translation (layer 18).
  Conditions: the code lies in memory.
-/
import Derived.Test.YtccjeclncmogiaaNo7
import Derived.BigQuiet
import Derived.Deep.RegionWith
namespace Go.Proofs.Ytccjeclncmogiaa
open Go.RowKit Go.Joins Go.ChangeShapes Go.WideShapes
set_option linter.unusedVariables false
set_option linter.unusedSimpArgs false

theorem szC_arg {op ty vk vn tab col : Int} {vs : ByteArray} {a : Option Addr} {cap N : Nat} {args : List XC} (h : szC (XC.er (.mk op ty a cap args vk vn vs tab col)) ≤ N) : args.length ≤ N ∧ ∀ x ∈ args, szC x.er ≤ N := by
  rw [XC.er, szC] at h
  have hl : ∀ l : List XC, l.length ≤ szCL (XC.erL l) ∧ ∀ x ∈ l, szC x.er ≤ szCL (XC.erL l) := by
    intro l
    induction l with
    | nil => exact ⟨Nat.zero_le _, fun x hx => by cases hx⟩
    | cons a r ih =>
      rw [XC.erL, szCL]
      have h1 : 1 ≤ szC a.er := by
        cases a
        rw [XC.er, szC]; omega
      refine ⟨by rw [List.length_cons]; omega, fun x hx => ?_⟩
      rcases List.mem_cons.1 hx with rfl | hx
      · omega
      · have := ih.2 x hx; omega
  obtain ⟨h1, h2⟩ := hl args
  exact ⟨by omega, fun x hx => by have := h2 x hx; omega⟩
theorem drop_at {ys l : List XC} {k : Nat} {x : XC} (hl : ys.length = k) (hx : l[k]? = some x) : (ys ++ l.drop k)[k]? = some x := by
  rw [List.getElem?_append_right (by omega), hl, Nat.sub_self, List.getElem?_drop, Nat.add_zero]
  exact hx
theorem CpS.step {w wz wv w3 : World} {cs : Array Value} {g n sc : Nat} {args : List XC} {k : Nat} {ys : List XC} (h : CpS w wz cs (.slice (some ⟨g, 0, none⟩) n sc) args k ys) (b : Below wz.heap.size wz wv) (b3 : Below wv.heap.size wv w3) {x y : XC} (hx : args[k]? = some x) (he : y.er = x.er) (ha : y.Al) (hm : XC.Mem (fun q => wv.heap.size < q) w3 y) :
    CpS w (w3.setCells g (k * 8) y.enc) cs (.slice (some ⟨g, 0, none⟩) n sc) args (k + 1) (ys ++ [y]) := by
  have hlt := (h.own.lt (k := g) rfl).2.1
  have hb := b.size
  have hw : w.heap.size + 2 ≤ wz.heap.size := h.rb.lt
  obtain ⟨g', cap, e, -, h2⟩ := (h.below (b.trans (b3.mono b.size))).put hx he ha (hm.mono (fun q hq => ⟨by omega, fun e => by simp only [Value.ownBlock, Option.some.injEq] at e; omega⟩))
  injection e with e
  injection e with e
  injection e with e
  subst e
  exact h2
/-- the copy is whole -/
theorem CpS.fin {w wr : World} {op ty vk vn tab col : Int} {vs : ByteArray} {sa a : Option Addr} {n sc cap : Nat} {args ys : List XC} (h : CpS w wr (cel op ty (.slice sa n sc) vk vn vs tab col) (.slice sa n sc) args n ys) (hn : args.length = n) :
    (Instr.loadAt 26 (.pointer (some ⟨w.heap.size, 0, none⟩))).run Try.prog wr = .ok (.agg (cel op ty (.slice sa n sc) vk vn vs tab col)) wr ∧
    ∃ wz, (Instr.storeAt 26 (.pointer (some ⟨w.heap.size + 1, 0, none⟩)) (.agg (cel op ty (.slice sa n sc) vk vn vs tab col))).run Try.prog wr = .ok () wz ∧ Bx wz (w.heap.size + 1) (cel op ty (.slice sa n sc) vk vn vs tab col) 26 ∧
      ∃ y : XC, Ending.returned (.agg (cel op ty (.slice sa n sc) vk vn vs tab col)) = .returned y.val ∧ y.er = XC.er (.mk op ty a cap args vk vn vs tab col) ∧ y.Al ∧ XC.Mem (fun k => w.heap.size < k) wz y ∧ Below w.heap.size w wz := by
  have hl := h.len
  have hd : args.drop n = [] := by rw [← hn]; simp
  have ho := h.own
  rw [hd, List.append_nil] at ho
  have hv : (XC.mk op ty sa sc ys vk vn vs tab col).val = .agg (cel op ty (.slice sa n sc) vk vn vs tab col) := by simp only [XC.val, hl]
  have he : (XC.mk op ty sa sc ys vk vn vs tab col).encA = cel op ty (.slice sa n sc) vk vn vs tab col := by simp only [XC.encA, hl]
  have hbx := h.bx
  rw [← he] at hbx
  have h1 := ld_C (XC.at_box hbx)
  obtain ⟨wz, h2, h3, h4⟩ := st_C h.rb rfl (XC.mk op ty sa sc ys vk vn vs tab col)
  rw [hv] at h1 h2
  rw [he] at h4
  refine ⟨h1, wz, h2, h4, XC.mk op ty sa sc ys vk vn vs tab col, by rw [hv], ?_, ?_, ?_, ?_⟩
  · rw [XC.er, XC.er, h.er, ← hn, ← XC.erL_length, List.take_length]
  · have ho' := ho
    rw [← hl] at ho'
    exact ho'.al (XC.alL_iff.2 h.al) _ _ _ _ _ _ _
  · have ho2 := ho.step h3 (fun k hk e => by have := (ho.lt hk).1; omega)
    have hm : XC.MemL (fun k => w.heap.size < k) wz ys := XC.memL_iff.2 fun y hy => (XC.Mem.frm h3 (fun k hk e => by have := hk.1; omega) y (h.mm y hy)).mono (fun k hk => by have := hk.1; omega)
    obtain ⟨a', cap', e, hr⟩ := ho2.row hm (fun k hk => by have := (ho2.lt hk).1; omega)
    injection e with e1 e2 e3
    subst e1 e3
    exact hr.mem _ _ _ _ _ _ _
  · exact h.bel.trans ((h3.mono (F1 := fun k => w.heap.size ≤ k) (fun k hk => by omega)).below (fun k hk => hk) h.bel.size)
/-- copyCode, for codes less deep than N -/
def CopyQ (N : Nat) : Prop := ∀ (K : Bl) (w : World) (x : XC), depC x.er < N → szC x.er ≤ 4194304 → XC.Mem K w x →
    Calls Try.prog 22 #[x.val] w fun e w' => ∃ y : XC, e = .returned y.val ∧ y.er = x.er ∧ y.Al ∧ XC.Mem (fun k => w.heap.size < k) w' y ∧ Below w.heap.size w w'
set_option maxRecDepth 100000 in
set_option maxHeartbeats 4000000 in
theorem copy_q : ∀ N : Nat, CopyQ N
  | 0 => fun K w x h => absurd h (by omega)
  | N + 1 => fun K w x h hs hm => by
    obtain ⟨op, ty, a, cap, args, vk, vn, vs, tab, col⟩ := x
    have hd := dep_arg h
    obtain ⟨hl, hsz⟩ := szC_arg hs
    have HI := Lib.hid (fun (K : Bl) (w : World) (x : XC) (h : x ∈ args) (hm : XC.Mem K w x) => copy_q N K w x (hd x h) (hsz x h) hm)
    generalize hP : (fun (e : Ending) (w' : World) => ∃ y : XC, e = .returned y.val ∧ y.er = XC.er (.mk op ty a cap args vk vn vs tab col) ∧ y.Al ∧ XC.Mem (fun k => w.heap.size < k) w' y ∧ Below w.heap.size w w') = P
    have HP := Lib.hid hP
    have b1 : Below w.heap.size w (w.alloc (.cells (cel op ty (.slice a args.length cap) vk vn vs tab col) 26)) := (Below.refl _ _).alloc (Nat.le_refl _) _
    have hn1 := Bx.new w (cel op ty (.slice a args.length cap) vk vn vs tab col) 26
    have hs1 : (w.alloc (.cells (cel op ty (.slice a args.length cap) vk vn vs tab col) 26)).heap.size = w.heap.size + 1 := by simp
    obtain ⟨wa, hwa⟩ : ∃ wa, w.alloc (.cells (cel op ty (.slice a args.length cap) vk vn vs tab col) 26) = wa := ⟨_, rfl⟩
    rw [hwa] at b1 hn1 hs1
    have b2 : Below wa.heap.size wa (wa.alloc (.cells zc8 26)) := (Below.refl _ _).alloc (Nat.le_refl _) _
    have hn2 := Bx.new wa zc8 26
    have hs2 : (wa.alloc (.cells zc8 26)).heap.size = w.heap.size + 2 := by simp [hs1]
    obtain ⟨wb, hwb⟩ : ∃ wb, wa.alloc (.cells #[.int .i64 0, .int .i64 0, .slice none 0 0, .int .i64 0, .int .i64 0, .string ⟨#[]⟩, .int .i64 0, .int .i64 0] 26) = wb := ⟨_, rfl⟩
    rw [hwb] at b2 hn2 hs2
    rw [hs1] at hn2
    have hn1b := hn1.below b2
    have b12 := b1.trans (b2.mono b1.size)
    have HCL := Lib.hid (clonec_any wb a cap args (hm.row.below b12) (by omega))
    have HX := Lib.hid (And.intro hn1b (And.intro hn2 (And.intro hs2 b12)))
    have hb0 : wb.cell? ⟨w.heap.size, 2, none⟩ = some (.slice a args.length cap) := hn1b.cell rfl
    have HM := Lib.hid hm
    have HS1 := Lib.hid hs1
    simp only [XC.val]
    clear hP b1 hn1 hs1 b2 hn2 hs2 hn1b b12 hm h hs hd hl hsz
    go_enter Try.func22, Try.ntmps22
    go_wp2_with fail
    rw [HS1.out]
    try go_at_call 29
    refine HCL.out.mono ?_
    rintro e w2 ⟨v, rfl, ho, b3⟩
    obtain ⟨sa, sc, rfl, -, -⟩ := ho.sl
    have hx1 := HX.out.1.below b3
    have hx2 := HX.out.2.1.below b3
    have hsz := HX.out.2.2.1
    have bw2 := HX.out.2.2.2.trans (b3.mono HX.out.2.2.2.size)
    obtain ⟨n, hn⟩ : ∃ n, args.length = n := ⟨_, rfl⟩
    have hn0 : n ≤ sc ∧ sc ≤ maxLen := by rw [← hn]; obtain ⟨_, _, e, h1, h2⟩ := ho.sl; injection e with e1 e2 e3; subst e3; exact ⟨h1, h2⟩
    rw [hsz] at ho
    have hS : CpS w (w2.setCell ⟨w.heap.size, 2, none⟩ (.slice sa args.length sc)) (cel op ty (.slice sa args.length sc) vk vn vs tab col) (.slice sa args.length sc) args 0 [] := by
      have f : Frm (fun k => k = w.heap.size) w2 (w2.setCell ⟨w.heap.size, 2, none⟩ (.slice sa args.length sc)) := Frm.set1 (F := fun k => k = w.heap.size) w2 rfl 2 _
      refine ⟨box_set hx1 2 _, hx2.frm' f (by omega), ?_, rfl, by simp [XC.erL], (fun y hy => by cases hy), (fun y hy => by cases hy), ?_⟩
      · rw [List.drop_zero, List.nil_append]
        exact ho.step f (fun k hk e => by have := (ho.lt hk).1; omega)
      · exact ((Frm.of_below (F := fun _ => False) bw2).trans f (fun k hk => .inr (Nat.le_of_eq hk.symm))).nothing
    have hc2 : w2.cell? ⟨w.heap.size, 2, none⟩ = some (.slice a args.length cap) := hx1.cell rfl
    have hf2 : w2.frozen? ⟨w.heap.size, 2, none⟩ = false := hx1.frz 2
    have HW := Lib.hid (HX.out.2.2.2.trans (b3.mono HX.out.2.2.2.size))
    clear ho b3 hx1 hx2 hsz bw2 hb0
    rw [hn] at hS hc2 ⊢
    obtain ⟨ws, hws⟩ : ∃ ws, w2.setCell ⟨w.heap.size, 2, none⟩ (.slice sa n sc) = ws := ⟨_, rfl⟩
    have hcw : (w2.setCell ⟨w.heap.size, 2, none⟩ (.slice sa n sc)).cell? ⟨w.heap.size, 2, none⟩ = some (.slice sa n sc) := hS.bx.cell rfl
    have HS := Lib.hid hS
    have HNL := Lib.hid hn
    have HM0 := Lib.hid hn0
    clear hS hn hws
    go_wp2_with fail
    go_loopw [12] (fun i wr => ∃ (k : Nat) (ys : List XC), k ≤ n ∧ i = .int .i64 (k : Int) ∧ Hid (CpS w wr (cel op ty (.slice sa n sc) vk vn vs tab col) (.slice sa n sc) args k ys)) (fun i _ => n - (intOf i).toNat)
    case atStart => exact ⟨0, [], Nat.zero_le _, rfl, HS⟩
    case round =>
      obtain ⟨k, ys, hk, rfl, HR⟩ := hrel
      by_cases c : k < n
      · have c1 : (k : Int) < (n : Int) := by omega
        obtain ⟨x, hx⟩ : ∃ x, args[k]? = some x := ⟨_, List.getElem?_eq_getElem (by rw [HNL.out]; exact c)⟩
        obtain ⟨g, cp, e0, -, hg, -, -, hcell, -⟩ := HR.out.own.at (drop_at HR.out.len hx)
        obtain rfl : sa = some ⟨g, 0, none⟩ := by injection e0
        have HLD := Lib.hid (ld_C (w := wr) (b := g) (o := k * 8) (x := x) (fun j u hj => hcell j u hj))
        obtain ⟨wz, hst, bz, bxz⟩ := put_C wr x
        have HST := Lib.hid hst
        have HRZ := Lib.hid (HR.out.below bz)
        have hcz : wz.cell? ⟨w.heap.size, 2, none⟩ = some (.slice (some ⟨g, 0, none⟩) n sc) := HRZ.out.bx.cell rfl
        have hmx : XC.Mem K wz x := by
          obtain ⟨_, _, _, _, _, _, hm⟩ := HM.out.row.at hx
          exact XC.Mem.frm (Frm.of_below (F := fun _ => False) (HRZ.out.bel)) (fun _ _ e => e) x hm
        have HC := Lib.hid (fun (wv : World) (hb : Below wz.heap.size wz wv) => HI.out K wv x (List.mem_of_getElem? hx) (hmx.below hb))
        have HXK := Lib.hid hx
        have HBX := Lib.hid bxz
        have HPU := Lib.hid (fun (wv w3 : World) (y : XC) (b : Below wz.heap.size wz wv) (b3 : Below wv.heap.size wv w3) (he : y.er = x.er) (ha : y.Al) (hm : XC.Mem (fun q => wv.heap.size < q) w3 y) => HRZ.out.step b b3 hx he ha hm)
        have hwk : wrap64 ((k : Int) + 1) = ((k + 1 : Nat) : Int) := by have := HM0.out; unfold wrap64 maxLen at *; omega
        clear e0 hst bz bxz hmx hcell hx
        go_wp2_with (first | (refine wpLd rfl _ rfl rfl HLD.out ?_; clear HLD) | (refine wpSt rfl _ _ rfl rfl rfl HST.out ?_; clear HST))
        have HCE := Lib.hid (fun (wv : World) (hb : Below wz.heap.size wz wv) => show (∀ j u, x.enc[j]? = some u → wv.cell? ⟨g, k * 8 + j, none⟩ = some u) ∧ ∀ o, wv.frozen? ⟨g, o, none⟩ = false by
          obtain ⟨g', _, e, -, -, -, -, h1, h2⟩ := ((HRZ.out.below hb).own.at (drop_at HRZ.out.len HXK.out))
          injection e with e
          injection e with e
          injection e with e
          subst e
          exact ⟨h1, h2⟩)
        have HBZ := Lib.hid (Below.drew (Below.refl wz.heap.size wz))
        obtain ⟨op1, ty1, a1, cap1, args1, vk1, vn1, vs1, tab1, col1⟩ := x
        have q0 : wz.cell? ⟨wr.heap.size, 0, none⟩ = some (.int .i64 op1) := HBX.out.cell rfl
        have q1 : wz.cell? ⟨wr.heap.size, 1, none⟩ = some (.int .i64 ty1) := HBX.out.cell rfl
        have q2 : wz.cell? ⟨wr.heap.size, 2, none⟩ = some (.slice a1 args1.length cap1) := HBX.out.cell rfl
        have q3 : wz.cell? ⟨wr.heap.size, 3, none⟩ = some (.int .i64 vk1) := HBX.out.cell rfl
        have q4 : wz.cell? ⟨wr.heap.size, 4, none⟩ = some (.int .i64 vn1) := HBX.out.cell rfl
        have q5 : wz.cell? ⟨wr.heap.size, 5, none⟩ = some (.string vs1) := HBX.out.cell rfl
        have q6 : wz.cell? ⟨wr.heap.size, 6, none⟩ = some (.int .i64 tab1) := HBX.out.cell rfl
        have q7 : wz.cell? ⟨wr.heap.size, 7, none⟩ = some (.int .i64 col1) := HBX.out.cell rfl
        simp only [XC.val] at HC
        go_region_with (go_at_call 22; refine (HC.out _ HBZ.out).mono ?_; rintro e w3 ⟨y, rfl, hye, hya, hym, b3⟩; have hcf := HCE.out w3 (HBZ.out.trans b3); have hc3 : w3.cell? ⟨w.heap.size, 2, none⟩ = some (.slice (some ⟨g, 0, none⟩) n sc) := (HRZ.out.below (HBZ.out.trans b3)).bx.cell rfl; have HSY := Lib.hid (HPU.out _ _ _ HBZ.out b3 hye hya hym); obtain ⟨op2, ty2, a2, cap2, args2, vk2, vn2, vs2, tab2, col2⟩ := y; simp only [World.setCells, XC.enc, Nat.add_assoc, Nat.reduceAdd] at HSY; have p0 := hcf.1 0 _ rfl; have p1 := hcf.1 1 _ rfl; have p2 := hcf.1 2 _ rfl; have p3 := hcf.1 3 _ rfl; have p4 := hcf.1 4 _ rfl; have p5 := hcf.1 5 _ rfl; have p6 := hcf.1 6 _ rfl; have p7 := hcf.1 7 _ rfl; have f0 := hcf.2 (k * 8); have f1 := hcf.2 (k * 8 + 1); have f2 := hcf.2 (k * 8 + 2); have f3 := hcf.2 (k * 8 + 3); have f4 := hcf.2 (k * 8 + 4); have f5 := hcf.2 (k * 8 + 5); have f6 := hcf.2 (k * 8 + 6); have f7 := hcf.2 (k * 8 + 7); rw [Nat.add_zero] at p0; clear hcf hye hya hym b3)
        all_goals
          go_wp2_with fail
          refine ⟨⟨k + 1, _, by omega, by rw [hwk], HSY⟩, ?_⟩
          rw [hwk]
          simp [intOf]
          omega
      · obtain rfl : k = n := by omega
        have c1 : decide ((k : Int) < (k : Int)) = false := by simp
        obtain ⟨hld, wz, hst, hbz, hfin⟩ := HR.out.fin (a := a) (cap := cap) HNL.out
        have HLD := Lib.hid hld
        have HST := Lib.hid hst
        have HF := Lib.hid (show P (.returned (.agg (cel op ty (.slice sa k sc) vk vn vs tab col))) wz by rw [← HP.out]; exact hfin)
        have HBZ := Lib.hid hbz
        clear hld hst hbz hfin
        go_wp2_with (first | (refine wpLd rfl _ rfl rfl HLD.out ?_; clear HLD) | (refine wpSt rfl _ _ rfl rfl rfl HST.out ?_; clear HST))
        exact retC Try.results22 HBZ.out rfl rfl HF.out

end Go.Proofs.Ytccjeclncmogiaa
