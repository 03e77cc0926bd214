/-
  The document's reading that is covered (haspref22): a contract over the translation.
  Conditions: the row lies in memory.
-/
import Derived.Test.YtgndbhgpdcelpaaDoorCr2
import Derived.Deep.Cut
import Derived.Deep.RegionHeld3
import Derived.Deep.RegionLaw
namespace Go.Proofs.YtgndbhgpdcelpaaDoor
set_option maxRecDepth 100000
open Go.RowKit Go.Joins Go.ChangeShapes Go.WideShapes
set_option linter.unusedVariables false
set_option linter.unusedSimpArgs false

theorem fidx_filter {α : Type} (p : α → Bool) : ∀ q : List α, (q.filter p = [] ∧ fidx p q = -1) ∨ ∃ (k : Nat) (o : α) (r : List α), q.filter p = o :: r ∧ fidx p q = (k : Nat) ∧ q[k]? = some o
  | [] => .inl ⟨rfl, rfl⟩
  | a :: t => by
    cases ha : p a with
    | true =>
      right
      refine ⟨0, a, t.filter p, List.filter_cons_of_pos ha, ?_, rfl⟩
      unfold fidx
      rw [List.takeWhile_cons_of_neg (by simp [ha])]
      rw [if_neg (by simp)]
      rfl
    | false =>
      have e : (a :: t).takeWhile (fun y => !p y) = a :: t.takeWhile fun y => !p y := List.takeWhile_cons_of_pos (by simp [ha])
      have ef : (a :: t).filter p = t.filter p := List.filter_cons_of_neg (by rw [ha]; decide)
      rcases fidx_filter p t with ⟨h1, h2⟩ | ⟨k, o, r, h1, h2, h3⟩
      · left
        refine ⟨by rw [ef, h1], ?_⟩
        unfold fidx at h2 ⊢
        rw [e]
        simp only [List.length_cons, Nat.add_right_cancel_iff]
        split at h2
        · rename_i hc; rw [if_pos hc]
        · omega
      · right
        refine ⟨k + 1, o, r, by rw [ef, h1], ?_, by simpa using h3⟩
        unfold fidx at h2 ⊢
        rw [e]
        simp only [List.length_cons, Nat.add_right_cancel_iff]
        split at h2
        · omega
        · rename_i hc
          rw [if_neg hc]
          omega
theorem rng_14 {w : World} {b o : Nat} {x : Ins} (h : w.rangeAt b o x.enc) : w.cell? ⟨b, o, none⟩ = some (.int .i64 x.op) ∧ w.cell? ⟨b, o + 1, none⟩ = some (.int .i64 x.c) ∧ w.cell? ⟨b, o + 2, none⟩ = some (.int .i64 x.jt) ∧ w.cell? ⟨b, o + 3, none⟩ = some (.int .i64 x.mode) ∧ w.cell? ⟨b, o + 4, none⟩ = some (.int .i64 x.part) ∧ w.cell? ⟨b, o + 5, none⟩ = some (.string x.tab) ∧ w.cell? ⟨b, o + 6, none⟩ = some (.int .i64 x.idx) ∧ w.cell? ⟨b, o + 7, none⟩ = some (.slice x.lo.a x.lo.n x.lo.c) ∧ w.cell? ⟨b, o + 8, none⟩ = some (.slice x.hi.a x.hi.n x.hi.c) ∧ w.cell? ⟨b, o + 9, none⟩ = some (.bool x.lx) ∧ w.cell? ⟨b, o + 10, none⟩ = some (.bool x.hx) ∧ w.cell? ⟨b, o + 11, none⟩ = some (.slice x.e.a x.e.n x.e.c) ∧ w.cell? ⟨b, o + 12, none⟩ = some (.int .i64 x.n) ∧ w.cell? ⟨b, o + 13, none⟩ = some (.slice x.ds.a x.ds.n x.ds.c) :=
  ⟨by have := h 0 _ rfl; rwa [Nat.add_zero] at this, h 1 _ rfl, h 2 _ rfl, h 3 _ rfl, h 4 _ rfl, h 5 _ rfl, h 6 _ rfl, h 7 _ rfl, h 8 _ rfl, h 9 _ rfl, h 10 _ rfl, h 11 _ rfl, h 12 _ rfl, h 13 _ rfl⟩
section
variable {P : Program} {ops : Array Oper} {Q : Exit → Act → World → Prop}
theorem wpOp_K {i : Nat} {o : Oper} {a : Act} {w : World} {S : World → Prop} {L : Act → World → Prop} (hi : ops[i]? = some o) (hw : Region.wanted o (yielded ops a.tmps) = true)
    (h : ∀ K : Act → World → Prop, Hid (∀ a' w', S w' → L a' w' → K a' w') → o.wp P a w K Q) : wpOp P ops Q i (fun a' w' => S w' ∧ L a' w') a w := by
  unfold wpOp
  rw [hi]
  simp only [hw, if_true]
  exact .inl (h _ (Lib.hid fun a' w' h1 h2 => ⟨h1, h2⟩))
theorem yields_ld {S : World → Prop} {o : Oper} {a : Act} {T : TypeId} (hw : Region.wanted o (yielded ops a.tmps) = true) (x : Operand) (ho : o.op = .load T x) {p v : Value} (hx : a.eval x = p) (h : ∀ w, S w → (Instr.loadAt T p).run P w = .ok v w) : YieldsIf P ops S o v a :=
  .inl ⟨hw, fun w hS => by
    unfold execOp
    simp only [ho, hx, Sem.run_bind, Sem.run_pure, Result.andThen_ok, h w hS]⟩
end
/-- an instruction stored into a box that is there -/
theorem st_I {w : World} {g : Nat} {cs : Array Value} (hb : Bx w g cs 33) (hcs : cs.size = 14) (x : Ins) : ∃ wz, (Instr.storeAt 33 (.pointer (some ⟨g, 0, none⟩)) x.val).run Tryd.prog w = .ok () wz ∧ Frm (fun k => k = g) w wz ∧ Bx wz g x.enc.toArray 33 := by
  refine ⟨_, run_storeAt_mid (P := Tryd.prog) _ g 0 33 x.enc.toArray (fun j hj => ?_) (by rw [infoI]; rfl) (all_oneCell_toArray x.enc_one), ?_, ?_⟩
  · rw [Nat.zero_add]
    have hj' : j < 14 := hj
    exact ⟨by rw [cell_of_block hb, Array.getElem?_eq_getElem (by rw [hcs]; exact hj')]; rfl, hb.frz j⟩
  · exact setc_frm (F := fun k => k = g) (.inl rfl) _ _ (Frm.refl _ _)
  · exact setc_all hb _ (by rw [hcs]; rfl)
theorem op_Is {o : Oper} {a : Act} {w : World} {K : Act → World → Prop} {Q : Exit → Act → World → Prop} (p v : Operand) (ho : o.op = .store 33 p v) {g : Nat} {cs : Array Value} {x : Ins} (hb : Bx w g cs 33) (hcs : cs.size = 14) (hp : a.eval p = .pointer (some ⟨g, 0, none⟩)) (hv : a.eval v = x.val)
    (h : ∀ wz, Frm (fun k => k = g) w wz → Bx wz g x.enc.toArray 33 → K (a.put o.dst undef) wz) : Oper.wp Tryd.prog o a w K Q := by
  obtain ⟨wz, hst, hf, hz⟩ := st_I hb hcs x
  unfold Oper.wp execOp
  simp only [ho, hp, hv, Sem.run_bind, Sem.run_pure, Result.andThen_ok, hst]
  exact h wz hf hz
/-- is what an instruction reads covered? -/
def rdR (q : List Ins) (x : Ins) : Bool :=
  if x.op == 2 then (match q.filter (ocB 2 x.c) with | [] => false | o :: _ => o.tab.toList == x.tab.toList && o.idx == x.idx && (cvI (mdL x.tab q 0) 3 || decide (0 ≤ x.idx) && cvI (mdL x.tab q 0) 1))
  else if x.op == 3 then (match q.filter (ocB 2 x.c) with | [] => false | o :: _ => decide (o.idx < 0) || (cvI x.mode 3 && cvI x.part 3))
  else true
set_option maxHeartbeats 16000000 in
set_option maxRecDepth 100000 in
theorem read22 (w : World) (tb : ByteArray) (a : Option Addr) (cap : Nat) (q : List Ins) (h : RowA w a q) (hm : q.length ≤ 1048576) (x : Ins) (hx : x ∈ q) :
    Calls Tryd.prog 13 #[.agg #[.string tb, .slice a q.length cap], x.val] w fun e w' => e = .returned (.bool (rdR q x)) ∧ Below w.heap.size w w' := by
  have HOP := Lib.hid (fun (V : World) (hV : Below w.heap.size w V) => opened22 V tb a cap q (h.below hV) hm x.c)
  have HMO := Lib.hid (fun (V : World) (hV : Below w.heap.size w V) => mode22 V tb a cap q (h.below hV) hm x.tab)
  have HRO := Lib.hid (fun (V : World) (hV : Below w.heap.size w V) => h.below hV)
  have hin : (x.op == 2) = true → x ∈ q.filter (ocB 2 x.c) := fun h2 => List.mem_filter.2 ⟨hx, by unfold ocB; rw [h2]; simp⟩
  obtain ⟨n, hn⟩ : ∃ n, q.length = n := ⟨_, rfl⟩
  rw [hn] at HOP HMO hm ⊢
  have HN := Lib.hid hn
  obtain ⟨M, hM⟩ : ∃ M, mdL x.tab q 0 = M := ⟨_, rfl⟩
  obtain ⟨R, hR⟩ : ∃ R, rdR q x = R := ⟨_, rfl⟩
  rw [hR]
  unfold rdR at hR
  rw [hM] at HMO hR
  obtain ⟨wa, hwa⟩ : ∃ wa, w.alloc (.cells #[.string tb, .slice a n cap] 25) = wa := ⟨_, rfl⟩
  obtain ⟨HBA, z0, z1, hza, hbxa⟩ := ck_box hwa
  obtain ⟨wb, hwb⟩ : ∃ wb, wa.alloc (.cells x.enc.toArray 33) = wb := ⟨_, rfl⟩
  have hbx : Bx wb wa.heap.size x.enc.toArray 33 := by rw [← hwb]; exact Bx.new _ _ _
  have hab : Below wa.heap.size wa wb := by rw [← hwb]; exact (Below.refl _ _).alloc (Nat.le_refl _) _
  have HBB := Lib.hid (btr HBA.out hab HBA.out.size)
  have HPX := Lib.hid (fun (V : World) (hV : Below wb.heap.size wb V) => (hbxa.below hab).below hV)
  have HIX := Lib.hid (fun (V : World) (hV : Below wb.heap.size wb V) => n14 (hbx.below hV))
  obtain ⟨f0, f1, f2, f3, f4, f5, f6⟩ := n14 hbx
  have y0 : wb.cell? ⟨w.heap.size, 0, none⟩ = some (.string tb) := (hbxa.below hab).cell rfl
  have y1 : wb.cell? ⟨w.heap.size, 1, none⟩ = some (.slice a n cap) := (hbxa.below hab).cell rfl
  rw [show x.enc.toArray = #[.int .i64 x.op, .int .i64 x.c, .int .i64 x.jt, .int .i64 x.mode, .int .i64 x.part, .string x.tab, .int .i64 x.idx, .slice x.lo.a x.lo.n x.lo.c, .slice x.hi.a x.hi.n x.hi.c, .bool x.lx, .bool x.hx, .slice x.e.a x.e.n x.e.c, .int .i64 x.n, .slice x.ds.a x.ds.n x.ds.c] from rfl] at hwb
  have HWA := Lib.hid hza
  have hlt1 : w.heap.size < wb.heap.size := Nat.lt_of_lt_of_le hbxa.lt hab.size
  have hlt2 : wa.heap.size < wb.heap.size := hbx.lt
  have HHX := Lib.hid hx
  unfold Ins.val
  clear z0 z1 hza hbxa hbx hab hn hM h hx
  go_enter Tryd.func13, Tryd.ntmps13
  cases c2 : x.op == 2 with
  | true =>
    rw [c2] at hR
    simp only [if_true] at hR
    rcases fidx_filter (ocB 2 x.c) q with ⟨e1, -⟩ | ⟨k, o, r, e1, e2, e3⟩
    · have := hin c2
      rw [e1] at this
      cases this
    rw [e1] at hR
    simp only at hR
    rw [e2] at HOP
    have hkn : k < n := by rw [← HN.out]; exact (List.getElem?_eq_some_iff.1 e3).1
    have hkn2 : (k : Int) < (n : Int) := by omega
    have HE3 := Lib.hid e3
    obtain ⟨gb, off, rfl, hlt4, hra⟩ := (HRO.out wb HBB.out).at e3
    obtain ⟨p0, p1, p2, p3, p4, p5, p6, p7, p8, p9, p10, p11, p12, p13⟩ := rng_14 hra
    have HR := Lib.hid hR
    have H14 := Lib.hid (show ∀ V, Below wb.heap.size wb V → V.rangeAt gb (off + k * 14) o.enc from fun V hV j v hj => (hV.cell (p := ⟨gb, _, none⟩) hlt4).trans (hra j v hj))
    clear e1 e2 e3 hin hR hra p0 p1 p2 p3 p4 p5 p6 p7 p8 p9 p10 p11 p12 p13
    go_upto_region 2 with fail
    go_cut [5] (fun u wr => ∃ p, u = .pointer (some ⟨p, 0, none⟩) ∧ Hid (wr.cell? ⟨p, 5, none⟩ = some (.string o.tab) ∧ wr.cell? ⟨p, 6, none⟩ = some (.int .i64 o.idx) ∧ Below wb.heap.size wb wr))
    case first =>
      have hSnow : Below wb.heap.size wb wb.drew := (Below.refl _ _).drew
      refine wp_region_held_drew (S := fun v0 => Below wb.heap.size wb v0) (by kernel_rfl) hSnow (fun hHeld => ?_)
      refine wpAnyH_take (i := 0) (v := .pointer (some ⟨w.heap.size, 1, none⟩)) rfl (by kernel_rfl) (by kernel_rfl) (by kernel_rfl) (fun _ _ _ h => h) (Or.inl ⟨by rfl, (by intro w9 hSw; go_simp)⟩) hSnow ?_
      simp only [Act.put, List.setIfInBounds_toArray, List.set_cons_zero, List.set_cons_succ]
      refine wpAnyH_take (i := 1) (v := .slice (some ⟨gb, off, none⟩) n cap) rfl (by kernel_rfl) (by kernel_rfl) (by kernel_rfl) (fun _ _ _ h => h) (Or.inl ⟨by rfl, (by intro w9 hSw; have q1 := (HPX.out w9 hSw).cell (o := 1) rfl; go_simp)⟩) hSnow ?_
      simp only [Act.put, List.setIfInBounds_toArray, List.set_cons_zero, List.set_cons_succ]
      refine wpAnyH_take (i := 2) (v := .agg #[.string tb, .slice (some ⟨gb, off, none⟩) n cap]) rfl (by kernel_rfl) (by kernel_rfl) (by kernel_rfl) (fun _ _ _ h => h) (Or.inl ⟨by rfl, (by intro w9 hSw; have q0 := (HPX.out w9 hSw).cell (o := 0) rfl; have q1 := (HPX.out w9 hSw).cell (o := 1) rfl; go_simp)⟩) hSnow ?_
      simp only [Act.put, List.setIfInBounds_toArray, List.set_cons_zero, List.set_cons_succ]
      refine wpAnyH_take (i := 3) (v := .pointer (some ⟨wa.heap.size, 1, none⟩)) rfl (by kernel_rfl) (by kernel_rfl) (by kernel_rfl) (fun _ _ _ h => h) (Or.inl ⟨by rfl, (by intro w9 hSw; go_simp)⟩) hSnow ?_
      simp only [Act.put, List.setIfInBounds_toArray, List.set_cons_zero, List.set_cons_succ]
      refine wpAnyH_take (i := 4) (v := .int .i64 x.c) rfl (by kernel_rfl) (by kernel_rfl) (by kernel_rfl) (fun _ _ _ h => h) (Or.inl ⟨by rfl, (by intro w9 hSw; have q1 := (HIX.out w9 hSw).2.1; go_simp)⟩) hSnow ?_
      simp only [Act.put, List.setIfInBounds_toArray, List.set_cons_zero, List.set_cons_succ]
      refine wpAnyH_all (rs := [5, 8]) (by kernel_rfl) (by simp) (fun i hi => ?_)
      rcases List.mem_cons.1 hi with rfl | hi
      · refine wpOp_K rfl rfl (fun K hK => ?_)
        unfold Oper.wp
        go_simp
        refine (HOP.out wb.drew (btr HBB.out hSnow HBB.out.size)).mono ?_
        rintro e w' ⟨rfl, hb'⟩
        have hS1 : Below wb.heap.size wb w' := btr hSnow hb' (Nat.le_refl _)
        refine hK.out _ _ hS1 ?_
        refine wpAnyH_take (i := 6) (v := .pointer (some ⟨gb, off + k * 14, none⟩)) rfl (by kernel_rfl) (by kernel_rfl) (by kernel_rfl) (fun _ _ _ h => h) (Or.inl ⟨by rfl, (by intro w9 hSw; go_simp)⟩) hS1 ?_
        simp only [Act.put, List.setIfInBounds_toArray, List.set_cons_zero, List.set_cons_succ]
        refine wpAnyH_take (i := 7) (v := o.val) rfl (by kernel_rfl) (by kernel_rfl) (by kernel_rfl) (fun _ _ _ h => h) (yields_ld rfl _ rfl rfl (fun w9 hSw => ld_I (H14.out w9 hSw))) hS1 ?_
        simp only [Act.put, List.setIfInBounds_toArray, List.set_cons_zero, List.set_cons_succ]
        refine wpAnyH_all (rs := [8]) (by kernel_rfl) (by simp) (fun i hi => ?_)
        obtain rfl : i = 8 := by simpa using hi
        refine wpOp_K rfl rfl (fun K2 hK2 => ?_)
        unfold Oper.wp
        go_simp
        have hS2 : Below wb.heap.size wb (w'.alloc (.cells #[.int .i64 0, .int .i64 0, .int .i64 0, .int .i64 0, .int .i64 0, .string ⟨#[]⟩, .int .i64 0, .slice none 0 0, .slice none 0 0, .bool false, .bool false, .slice none 0 0, .int .i64 0, .slice none 0 0] 33)) := hS1.alloc hS1.size _
        refine hK2.out _ _ hS2 ?_
        refine wpAnyH_all (rs := [9]) (by kernel_rfl) (by simp) (fun i hi => ?_)
        obtain rfl : i = 9 := by simpa using hi
        refine wpOp_K rfl rfl (fun K3 hK3 => ?_)
        refine op_Is (x := o) _ _ rfl (Bx.new w' #[.int .i64 0, .int .i64 0, .int .i64 0, .int .i64 0, .int .i64 0, .string ⟨#[]⟩, .int .i64 0, .slice none 0 0, .slice none 0 0, .bool false, .bool false, .slice none 0 0, .int .i64 0, .slice none 0 0] 33) rfl rfl rfl ?_
        intro wz fz bz
        have hS3 : Below wb.heap.size wb wz := hS2.trans (fz.below (fun k hk => by have : k = w'.heap.size := hk; have := hS1.size; omega) hS2.size)
        refine hK3.out _ _ hS3 ?_
        refine wpAnyH_done (by kernel_rfl) ?_ _
        have HQ := Lib.hid (show wz.cell? ⟨w'.heap.size, 5, none⟩ = some (.string o.tab) ∧ wz.cell? ⟨w'.heap.size, 6, none⟩ = some (.int .i64 o.idx) ∧ Below wb.heap.size wb wz from ⟨bz.cell rfl, bz.cell rfl, hS3⟩)
        clear hK hK2 hK3 bz fz
        go_wp2_with fail
        go_meet
        exact ⟨_, rfl, HQ⟩
      · obtain rfl : i = 8 := by simpa using hi
        refine wpOp_K rfl rfl (fun K hK => ?_)
        unfold Oper.wp
        go_simp
        have hSB : Below wb.heap.size wb (wb.alloc (.cells #[.int .i64 0, .int .i64 0, .int .i64 0, .int .i64 0, .int .i64 0, .string ⟨#[]⟩, .int .i64 0, .slice none 0 0, .slice none 0 0, .bool false, .bool false, .slice none 0 0, .int .i64 0, .slice none 0 0] 33)).drew := ((Below.refl _ _).alloc (Nat.le_refl _) _).drew
        have hbB : Bx (wb.alloc (.cells #[.int .i64 0, .int .i64 0, .int .i64 0, .int .i64 0, .int .i64 0, .string ⟨#[]⟩, .int .i64 0, .slice none 0 0, .slice none 0 0, .bool false, .bool false, .slice none 0 0, .int .i64 0, .slice none 0 0] 33)).drew wb.heap.size #[.int .i64 0, .int .i64 0, .int .i64 0, .int .i64 0, .int .i64 0, .string ⟨#[]⟩, .int .i64 0, .slice none 0 0, .slice none 0 0, .bool false, .bool false, .slice none 0 0, .int .i64 0, .slice none 0 0] 33 := Bx.new wb #[.int .i64 0, .int .i64 0, .int .i64 0, .int .i64 0, .int .i64 0, .string ⟨#[]⟩, .int .i64 0, .slice none 0 0, .slice none 0 0, .bool false, .bool false, .slice none 0 0, .int .i64 0, .slice none 0 0] 33
        refine hK.out _ _ hSB ?_
        refine wpAnyH_all (rs := [5]) (by kernel_rfl) (by simp) (fun i hi => ?_)
        obtain rfl : i = 5 := by simpa using hi
        refine wpOp_K rfl rfl (fun K2 hK2 => ?_)
        unfold Oper.wp
        go_simp
        refine (HOP.out _ (btr HBB.out hSB HBB.out.size)).mono ?_
        rintro e w' ⟨rfl, hb'⟩
        have hS1 : Below wb.heap.size wb w' := btr hSB hb' hSB.size
        have hb1 := hbB.below hb'
        refine hK2.out _ _ hS1 ?_
        refine wpAnyH_take (i := 6) (v := .pointer (some ⟨gb, off + k * 14, none⟩)) rfl (by kernel_rfl) (by kernel_rfl) (by kernel_rfl) (fun _ _ _ h => h) (Or.inl ⟨by rfl, (by intro w9 hSw; go_simp)⟩) hS1 ?_
        simp only [Act.put, List.setIfInBounds_toArray, List.set_cons_zero, List.set_cons_succ]
        refine wpAnyH_take (i := 7) (v := o.val) rfl (by kernel_rfl) (by kernel_rfl) (by kernel_rfl) (fun _ _ _ h => h) (yields_ld rfl _ rfl rfl (fun w9 hSw => ld_I (H14.out w9 hSw))) hS1 ?_
        simp only [Act.put, List.setIfInBounds_toArray, List.set_cons_zero, List.set_cons_succ]
        refine wpAnyH_all (rs := [9]) (by kernel_rfl) (by simp) (fun i hi => ?_)
        obtain rfl : i = 9 := by simpa using hi
        refine wpOp_K rfl rfl (fun K3 hK3 => ?_)
        simp only [Act.put, List.setIfInBounds_toArray, List.set_cons_zero, List.set_cons_succ, List.getElem_toArray, List.getElem_cons_succ, List.getElem_cons_zero]
        refine op_Is (x := o) (.tmp 5) (.tmp 18) rfl hb1 rfl ?_ ?_ ?_
        · rfl
        · rfl
        intro wz fz bz
        have hS3 : Below wb.heap.size wb wz := hS1.trans (fz.below (fun k hk => by have : k = wb.heap.size := hk; omega) hS1.size)
        refine hK3.out _ _ hS3 ?_
        refine wpAnyH_done (by kernel_rfl) ?_ _
        have HQ := Lib.hid (show wz.cell? ⟨wb.heap.size, 5, none⟩ = some (.string o.tab) ∧ wz.cell? ⟨wb.heap.size, 6, none⟩ = some (.int .i64 o.idx) ∧ Below wb.heap.size wb wz from ⟨bz.cell rfl, bz.cell rfl, hS3⟩)
        clear hK hK2 hK3 bz fz
        go_wp2_with fail
        go_meet
        exact ⟨_, rfl, HQ⟩
    case rest =>
      obtain ⟨p, rfl, HP⟩ := hcut
      obtain ⟨p5, p6, hbc⟩ := HP.out
      have HBC := Lib.hid hbc
      have HBW := Lib.hid (btr HBB.out hbc HBB.out.size)
      have k0 : wc.cell? ⟨w.heap.size, 0, none⟩ = some (.string tb) := (HPX.out wc hbc).cell rfl
      have k1 : wc.cell? ⟨w.heap.size, 1, none⟩ = some (.slice (some ⟨gb, off, none⟩) n cap) := (HPX.out wc hbc).cell rfl
      obtain ⟨-, -, -, -, -, k5, k6⟩ := HIX.out wc hbc
      have HM1 := Lib.hid (HMO.out wc HBW.out)
      clear hbc f0 f1 f2 f3 f4 f5 f6 y0 y1
      go_wp2_with fail
      refine HM1.out.mono ?_
      rintro e w5 ⟨rfl, hb5⟩
      have hbt := btr HBC.out hb5 HBC.out.size
      have HB5 := Lib.hid hbt
      have HW5 := Lib.hid (btr HBB.out hbt HBB.out.size)
      obtain ⟨-, -, -, -, -, g5, g6⟩ := HIX.out w5 hbt
      obtain ⟨hc5, -⟩ := bcell hb5
      have hpl : p < wc.heap.size := by
        have := HP.out.1
        exact World.block_lt_of_cell? wc _ this
      have q5 : w5.cell? ⟨p, 5, none⟩ = some (.string o.tab) := (hc5 p 5 hpl).trans p5
      have q6 : w5.cell? ⟨p, 6, none⟩ = some (.int .i64 o.idx) := (hc5 p 6 hpl).trans p6
      have HC1 := Lib.hid (rcov_any M 3 w5)
      clear hb5 hbt hc5 p5 p6 HM1 k5 k6
      cases d1 : o.tab.toList == x.tab.toList with
      | false =>
        obtain rfl : R = false := by rw [← HR.out, d1]; rfl
        go_wp2_with fail
        go_ret
        exact ⟨rfl, HW5.out⟩
      | true =>
        cases d2 : o.idx == x.idx with
        | false =>
          obtain rfl : R = false := by rw [← HR.out, d1, d2]; rfl
          have d3 : (o.idx != x.idx) = true := by simp [bne, d2]
          go_wp2_with fail
          go_ret
          exact ⟨rfl, HW5.out⟩
        | true =>
          have d3 : (o.idx != x.idx) = false := by simp [bne, d2]
          have HR2 := Lib.hid (show (cvI M 3 || decide (0 ≤ x.idx) && cvI M 1) = R by rw [← HR.out, d1, d2]; rfl)
          clear HR
          go_wp2_with fail
          refine HC1.out.mono ?_
          rintro e w6 ⟨rfl, hb6⟩
          have HB6 := Lib.hid (btr HB5.out hb6 HB5.out.size)
          have HW6 := Lib.hid (btr HW5.out hb6 HW5.out.size)
          obtain ⟨-, -, -, -, -, -, e6⟩ := HIX.out w6 HB6.out
          have HC2 := Lib.hid (rcov_any M 1 w6)
          have HR3 := HR2.out
          clear hb6 HR2
          cases v3 : cvI M 3 with
          | true =>
            obtain rfl : R = true := by rw [← HR3, v3]; rfl
            go_wp2_with fail
            go_ret
            exact ⟨rfl, HW6.out⟩
          | false =>
            rw [v3] at HR3
            simp only [Bool.false_or] at HR3
            by_cases ci : 0 ≤ x.idx
            · simp only [ci, decide_true, Bool.true_and] at HR3
              rw [HR3] at HC2
              clear HR3
              go_wp2_with fail
              refine HC2.out.mono ?_
              rintro e w7 ⟨rfl, hb7⟩
              have HW7 := Lib.hid (btr HW6.out hb7 HW6.out.size)
              clear hb7
              go_wp2_with fail
              go_ret
              exact ⟨rfl, HW7.out⟩
            · obtain rfl : R = false := by rw [← HR3]; simp [ci]
              clear HR3
              go_wp2_with fail
              go_ret
              exact ⟨rfl, HW6.out⟩
  | false =>
    rw [c2] at hR
    simp only [Bool.false_eq_true, if_false] at hR
    cases c3 : x.op == 3 with
    | false =>
      rw [c3] at hR
      simp only [Bool.false_eq_true, if_false] at hR
      subst hR
      go_wp2_with fail
      go_ret
      exact ⟨rfl, HBB.out⟩
    | true =>
      rw [c3] at hR
      simp only [if_true] at hR
      have HO1 := Lib.hid (HOP.out wb HBB.out)
      rcases fidx_filter (ocB 2 x.c) q with ⟨e1, e2⟩ | ⟨k, o, r, e1, e2, e3⟩
      · rw [e1] at hR
        simp only at hR
        subst hR
        rw [e2] at HO1
        clear e1 e2 hin
        go_wp2_with fail
        refine HO1.out.mono ?_
        rintro e w5 ⟨rfl, hb5⟩
        have HW5 := Lib.hid (btr HBB.out hb5 HBB.out.size)
        clear hb5
        go_wp2_with fail
        go_ret
        exact ⟨rfl, HW5.out⟩
      · rw [e1] at hR
        simp only at hR
        rw [e2] at HO1
        have hkn : k < n := by rw [← HN.out]; exact (List.getElem?_eq_some_iff.1 e3).1
        have hkn2 : (k : Int) < (n : Int) := by omega
        obtain ⟨gb, off, rfl, hlt4, hra⟩ := (HRO.out wb HBB.out).at e3
        have H14 := Lib.hid (show ∀ V, Below wb.heap.size wb V → V.rangeAt gb (off + k * 14) o.enc from fun V hV j v hj => (hV.cell (p := ⟨gb, _, none⟩) hlt4).trans (hra j v hj))
        have HR := Lib.hid hR
        clear e1 e2 e3 hin hR hra
        go_wp2_with fail
        refine HO1.out.mono ?_
        rintro e w5 ⟨rfl, hb5⟩
        have HB5 := Lib.hid hb5
        have HW5 := Lib.hid (btr HBB.out hb5 HBB.out.size)
        have k0 : w5.cell? ⟨w.heap.size, 0, none⟩ = some (.string tb) := (HPX.out w5 hb5).cell rfl
        have k1 : w5.cell? ⟨w.heap.size, 1, none⟩ = some (.slice (some ⟨gb, off, none⟩) n cap) := (HPX.out w5 hb5).cell rfl
        obtain ⟨-, -, -, j3, j4, -, -⟩ := HIX.out w5 hb5
        obtain ⟨-, -, -, -, -, -, q6⟩ := rng_cells (H14.out w5 hb5)
        have HC1 := Lib.hid (rcov_any x.mode 3 w5)
        clear hb5 HO1
        by_cases ci : o.idx < 0
        · obtain rfl : R = true := by rw [← HR.out]; simp [ci]
          go_wp2_with fail
          go_ret
          exact ⟨rfl, HW5.out⟩
        · have HR2 := Lib.hid (show (cvI x.mode 3 && cvI x.part 3) = R by rw [← HR.out]; simp [ci])
          have ci2 : decide (o.idx < 0) = false := by simp; omega
          have HRX := HR2.out
          clear HR HR2
          cases v3 : cvI x.mode 3 with
          | false =>
            obtain rfl : R = false := by rw [← HRX, v3]; rfl
            rw [v3] at HC1
            clear HRX
            go_wp2_with fail
            refine HC1.out.mono ?_
            rintro e w6 ⟨rfl, hb6⟩
            have HW6 := Lib.hid (btr HW5.out hb6 HW5.out.size)
            clear hb6
            go_wp2_with fail
            go_ret
            exact ⟨rfl, HW6.out⟩
          | true =>
            rw [v3] at HC1 HRX
            simp only [Bool.true_and] at HRX
            have HRY := Lib.hid HRX
            clear HRX
            go_wp2_with fail
            refine HC1.out.mono ?_
            rintro e w6 ⟨rfl, hb6⟩
            have HB6 := Lib.hid (btr HB5.out hb6 HB5.out.size)
            have HW6 := Lib.hid (btr HW5.out hb6 HW5.out.size)
            obtain ⟨-, -, -, -, i4, -, -⟩ := HIX.out w6 HB6.out
            have HC2 := Lib.hid (rcov_any x.part 3 w6)
            rw [HRY.out] at HC2
            clear hb6
            go_wp2_with fail
            refine HC2.out.mono ?_
            rintro e w7 ⟨rfl, hb7⟩
            have HW7 := Lib.hid (btr HW6.out hb7 HW6.out.size)
            clear hb7
            go_wp2_with fail
            go_ret
            exact ⟨rfl, HW7.out⟩

end Go.Proofs.YtgndbhgpdcelpaaDoor
