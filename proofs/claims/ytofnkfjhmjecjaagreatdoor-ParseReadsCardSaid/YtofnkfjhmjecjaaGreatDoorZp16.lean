/-
  Texts of mine put together, in build order.
  Conditions: as each declaration says.
-/
import Derived.Deep.RegionLaw
import Derived.Deep.QuietTactic
import Derived.Test.YtofnkfjhmjecjaaGreatDoorZp9
import Derived.Test.YtofnkfjhmjecjaaGreatDoorZp15
namespace Go.Proofs.YtofnkfjhmjecjaaGreatDoor
set_option maxRecDepth 100000
open Go.RowKit Go.Joins Go.ChangeShapes Go.WideShapes
set_option linter.unusedVariables false
set_option linter.unusedSimpArgs false
theorem pcatch_V (g h : Nat) (c : Int) (older : List PanicEntry) (w : World) (x : XSt) (y : Value) (hx : Bx w g x.enc.toArray 34) (hy : w.cell? ⟨h, 0, none⟩ = some y) (fy : w.frozen? ⟨h, 0, none⟩ = false) (hgh : g < h) (hh : h < w.heap.size) :
  CallsD Tryz.prog 19 #[.pointer (some ⟨g, 0, none⟩), .pointer (some ⟨h, 0, none⟩)] (.panicking ({ v := PFlt c, recovered := false } :: older)) w fun e u' w' =>
   e = .returned (.tuple #[]) ∧ u' = .panicking ({ v := PFlt c, recovered := true } :: older) ∧ Bx w' g #[.int .i64 0, .string ⟨#[]⟩, .string ⟨#[]⟩, .slice none 0 0, .slice none 0 0, .bool false, .slice none 0 0, .slice none 0 0, .slice none 0 0, .int .i64 0, .slice none 0 0, .int .i64 0, .int .i64 0, .int .i64 0, .string ⟨#[]⟩, .string ⟨#[]⟩, .slice none 0 0, .slice none 0 0] 34 ∧ w'.cell? ⟨h, 0, none⟩ = some (.int .i64 c) ∧ Below g w w' := by
 obtain ⟨x0, x1, x2, x3, x4, x5, x6, x7, x8, x9, x10, x11⟩ := x
 obtain ⟨e0, e1, e2, e3, e4, e5, e6, e7, e8⟩ := x9
 exact pcatch_panicking g h c older w y hx hy fy hgh hh
theorem tokC_pos {c : Nat} {r l : List Nat} {e : Nat} (h : tokC c r l = .error e) : e ≠ 0 := by
 rw [tokC_eq] at h
 intro he
 subst he
 repeat' split at h
 all_goals first
  | cases h
  | (simp only [Except.error.injEq] at h; omega)
theorem tokL_pos {l : List Nat} {e : Nat} (h : tokL l = .error e) : e ≠ 0 := by
 cases l with
 | nil => cases h; decide
 | cons c r => exact tokC_pos (c := c) (r := r) (l := c :: r) h
theorem lexL_pos : ∀ (N : Nat) (l : List Nat) (e : Nat), l.length ≤ N → lexL l = .error e → e ≠ 0
 | 0, [], e, _, h => by rw [lexL_nil] at h; cases h
 | 0, c :: r, e, hl, h => by simp at hl
 | N + 1, [], e, _, h => by rw [lexL_nil] at h; cases h
 | N + 1, c :: r, e, hl, h => by
  rw [List.length_cons] at hl
  cases hb : blL c with
  | true => rw [lexL_blank c r hb] at h; exact lexL_pos N r e (by omega) h
  | false =>
   cases ht : tokL (c :: r) with
   | error e2 =>
    rw [lexL_err c r hb e2 ht] at h
    injection h with h
    subst h
    exact tokL_pos ht
   | ok p =>
    obtain ⟨t, k⟩ := p
    have hk := tokL_len _ t k ht
    rw [lexL_ok c r hb t k ht] at h
    unfold preT at h
    cases hd : lexL ((c :: r).drop k) with
    | ok ts => rw [hd] at h; cases h
    | error e2 =>
     rw [hd] at h
     injection h with h
     subst h
     exact lexL_pos N _ _ (by rw [List.length_drop, List.length_cons]; omega) hd
theorem toksE_pos {l : List Nat} {c : Nat} (h : toksE l = .error c) : c ≠ 0 := by
 unfold toksE at h
 split at h
 ·injection h with h; omega
 ·exact lexL_pos _ l c (Nat.le_refl _) h
set_option maxHeartbeats 8000000 in
theorem parse_p (s : ByteArray) (w : World) (hE : ErrR w) (n : Nat) {r : Except Nat Stm} (hr : parseS n s = some r) : Calls Tryz.prog 9 #[.string s] w (ParseE w r) := by
 generalize hP : ParseE w r = P
 have HP := Lib.hid hP
 have b1 : Below w.heap.size w (w.alloc (.cells #[.int .i64 0, .string ⟨#[]⟩, .string ⟨#[]⟩, .slice none 0 0, .slice none 0 0, .bool false, .slice none 0 0, .slice none 0 0, .slice none 0 0, .int .i64 0, .slice none 0 0, .int .i64 0, .int .i64 0, .int .i64 0, .string ⟨#[]⟩, .string ⟨#[]⟩, .slice none 0 0, .slice none 0 0] 34)) := (Below.refl _ _).alloc (Nat.le_refl _) _
 have n1 := Bx.new w #[.int .i64 0, .string ⟨#[]⟩, .string ⟨#[]⟩, .slice none 0 0, .slice none 0 0, .bool false, .slice none 0 0, .slice none 0 0, .slice none 0 0, .int .i64 0, .slice none 0 0, .int .i64 0, .int .i64 0, .int .i64 0, .string ⟨#[]⟩, .string ⟨#[]⟩, .slice none 0 0, .slice none 0 0] 34
 obtain ⟨w1, hw1⟩ : ∃ w1, w.alloc (.cells #[.int .i64 0, .string ⟨#[]⟩, .string ⟨#[]⟩, .slice none 0 0, .slice none 0 0, .bool false, .slice none 0 0, .slice none 0 0, .slice none 0 0, .int .i64 0, .slice none 0 0, .int .i64 0, .int .i64 0, .int .i64 0, .string ⟨#[]⟩, .string ⟨#[]⟩, .slice none 0 0, .slice none 0 0] 34) = w1 := ⟨_, rfl⟩
 have s1 : w1.heap.size = w.heap.size + 1 := by rw [← hw1]; simp
 rw [hw1] at b1 n1
 have b2 : Below w1.heap.size w1 (w1.alloc (.cells #[.int .i64 0] 35)) := (Below.refl _ _).alloc (Nat.le_refl _) _
 have n2 := Bx.new w1 #[.int .i64 0] 35
 obtain ⟨w2, hw2⟩ : ∃ w2, w1.alloc (.cells #[.int .i64 0] 35) = w2 := ⟨_, rfl⟩
 have s2 : w2.heap.size = w1.heap.size + 1 := by rw [← hw2]; simp
 rw [hw2] at b2 n2
 have b02 : Below w.heap.size w w2 := b1.trans (b2.mono (by omega))
 have HT := Lib.hid (tokens_any s w2 (hE.below b02))
 have HBX := Lib.hid (And.intro (n1.below b2) n2)
 have HB := Lib.hid b02
 have HS := Lib.hid (And.intro s1 s2)
 have HCP := Lib.hid @pcatch_panicking
 have HCI := Lib.hid pcatch_idle
 have HMO := Lib.hid pmust_ok
 have HMN := Lib.hid pmust_no
 unfold parseS at hr
 cases ht : toksE (sl s) with
 | error c =>
  rw [ht] at hr HT
  have hrc : r = .error c := by injection hr with hr; exact hr.symm
  subst hrc
  have hc0 : ((c : Int) != 0) = true := by have := toksE_pos ht; simp; omega
  clear hP hr ht b1 n1 s1 b2 n2 s2 b02 hE HCP HCI
  go_enter_defers Tryz.func9, Tryz.ntmps9
  go_wp2_with (first | (go_at_call 18; refine HT.out.mono ?_; rintro e w3 ⟨b3, rfl⟩; have hb3 := HBX.out.1.below b3; have hc3 := HBX.out.2.below b3; have cc := hc3.cell (o := 0) (v := .int .i64 0) rfl; have cf := hc3.frz 0; have hgh : ¬ w.heap.size = w1.heap.size := (by have := HS.out.1; omega); obtain ⟨w4, hw4⟩ : ∃ w4, w3.setCell ⟨w1.heap.size, 0, none⟩ (.int .i64 (c : Int)) = w4 := ⟨_, rfl⟩; have hb4 := hb3.setc hgh 0 (.int .i64 (c : Int)); have hc4 : Bx _ w1.heap.size #[.int .i64 (c : Int)] 35 := box_set hc3 0 (.int .i64 (c : Int)); rw [hw4] at hb4 hc4; have hf4 : Below w.heap.size w w4 := (by rw [← hw4]; exact (HB.out.trans (b3.mono HB.out.size)).setCell (p := ⟨w1.heap.size, 0, none⟩) (by show w.heap.size ≤ w1.heap.size; have := HS.out.1; omega) _); have c4 := hc4.cell (o := 0) (v := .int .i64 (c : Int)) rfl; have e4 := hc4.frz 0; have H4 := Lib.hid (And.intro hb4 (And.intro hc4 hf4)); clear b3 hb3 hc3 hb4 hc4 hf4))
  have hb5 : Bx w4.drew w.heap.size #[.int .i64 0, .string ⟨#[]⟩, .string ⟨#[]⟩, .slice none 0 0, .slice none 0 0, .bool false, .slice none 0 0, .slice none 0 0, .slice none 0 0, .int .i64 0, .slice none 0 0, .int .i64 0, .int .i64 0, .int .i64 0, .string ⟨#[]⟩, .string ⟨#[]⟩, .slice none 0 0, .slice none 0 0] 34 := H4.out.1.below (Below.refl _ _).drew
  have hc5 : Bx w4.drew w1.heap.size #[.int .i64 (c : Int)] 35 := H4.out.2.1.below (Below.refl _ _).drew
  have hf5 : Below w.heap.size w w4.drew := H4.out.2.2.drew
  obtain ⟨wz, hst, fz, bz⟩ := st_V hb5 rfl ({ kind := 0 } : XSt)
  have HST := Lib.hid (show (Instr.storeAt 34 (.pointer (some ⟨w.heap.size, 0, none⟩)) (.agg #[.int .i64 0, .string ⟨#[]⟩, .string ⟨#[]⟩, .slice none 0 0, .slice none 0 0, .bool false, .slice none 0 0, .slice none 0 0, .slice none 0 0, .int .i64 0, .slice none 0 0, .int .i64 0, .int .i64 0, .int .i64 0, .string ⟨#[]⟩, .string ⟨#[]⟩, .slice none 0 0, .slice none 0 0])).run Tryz.prog w4.drew = .ok () wz from hst)
  have bz2 : Bx wz w.heap.size #[.int .i64 0, .string ⟨#[]⟩, .string ⟨#[]⟩, .slice none 0 0, .slice none 0 0, .bool false, .slice none 0 0, .slice none 0 0, .slice none 0 0, .int .i64 0, .slice none 0 0, .int .i64 0, .int .i64 0, .int .i64 0, .string ⟨#[]⟩, .string ⟨#[]⟩, .slice none 0 0, .slice none 0 0] 34 := bz
  have hcz := hc5.frm fz (fun e => hgh e.symm)
  have k1 := hcz.cell (o := 0) (v := .int .i64 (c : Int)) rfl
  have k2 := hcz.frz 0
  have k3 := hc5.cell (o := 0) (v := .int .i64 (c : Int)) rfl
  have HEND := Lib.hid (show Bx (wz.setCell ⟨w1.heap.size, 0, none⟩ (.int .i64 (c : Int))) w.heap.size #[.int .i64 0, .string ⟨#[]⟩, .string ⟨#[]⟩, .slice none 0 0, .slice none 0 0, .bool false, .slice none 0 0, .slice none 0 0, .slice none 0 0, .int .i64 0, .slice none 0 0, .int .i64 0, .int .i64 0, .int .i64 0, .string ⟨#[]⟩, .string ⟨#[]⟩, .slice none 0 0, .slice none 0 0] 34 ∧ (wz.setCell ⟨w1.heap.size, 0, none⟩ (.int .i64 (c : Int))).cell? ⟨w1.heap.size, 0, none⟩ = some (.int .i64 (c : Int)) ∧ Below w.heap.size w (wz.setCell ⟨w1.heap.size, 0, none⟩ (.int .i64 (c : Int))) from by
   refine ⟨bz2.setc hgh 0 _, World.cell?_setCell_same _ _ _ k1, ?_⟩
   have f1 : Frm (fun k => w.heap.size ≤ k) w w4.drew := (Frm.of_below hf5)
   have f2 : Frm (fun k => w.heap.size ≤ k) w wz := f1.trans fz (fun k hk => .inl (Nat.le_of_eq hk.symm))
   exact (f2.setCell (.inl (by have := HS.out.1; omega)) 0 (.int .i64 (c : Int))).below (fun k hk => hk) (Nat.le_refl _))
  clear hst fz bz bz2 hcz hb5 hc5 hf5
  go_wp2_with fail
  refine wp_region_any (by kernel_rfl) ?_
  try (change wpAny _ _ _ _ _ _ _ (World.drew _))
  refine wpAny_ready (rs := [0, 1]) (by kernel_rfl) (by simp) ?_
  refine AllReady.cons rfl (fun K hK => ?_) (AllReady.cons rfl (fun K hK => ?_) AllReady.nil)
  ·go_simp
   refine hK _ _ ?_
   clear hK K
   refine wpAny_ready (rs := [1, 2]) (by kernel_rfl) (by simp) ?_
   refine AllReady.cons rfl (fun K hK => ?_) (AllReady.cons rfl (fun K hK => ?_) AllReady.nil)
   ·go_simp
    refine hK _ _ ?_
    clear hK K
    refine wpAny_ready (rs := [2]) (by kernel_rfl) (by simp) ?_
    refine AllReady.cons rfl (fun K hK => ?_) AllReady.nil
    refine step_st rfl _ _ rfl rfl rfl HST.out ?_
    try go_simp
    refine hK _ _ ?_
    clear hK K
    refine wpAny_ready (rs := [3]) (by kernel_rfl) (by simp) ?_
    refine AllReady.cons rfl (fun K hK => ?_) AllReady.nil
    go_simp
    refine hK _ _ ?_
    clear hK K
    refine wpAny_done (by kernel_rfl) ?_ _
    go_wp2_with fail
    change Leaves _ _ _ P _ _ _
    exact ⟨_, presults Tryz.results9 HEND.out.1 HEND.out.2.1 rfl rfl, by rw [← HP.out]; exact ⟨HEND.out.2.2, rfl⟩⟩
   ·refine step_st rfl _ _ rfl rfl rfl HST.out ?_
    try go_simp
    refine hK _ _ ?_
    clear hK K
    refine wpAny_ready (rs := [1]) (by kernel_rfl) (by simp) ?_
    refine AllReady.cons rfl (fun K hK => ?_) AllReady.nil
    go_simp
    refine hK _ _ ?_
    clear hK K
    refine wpAny_ready (rs := [3]) (by kernel_rfl) (by simp) ?_
    refine AllReady.cons rfl (fun K hK => ?_) AllReady.nil
    go_simp
    refine hK _ _ ?_
    clear hK K
    refine wpAny_done (by kernel_rfl) ?_ _
    go_wp2_with fail
    change Leaves _ _ _ P _ _ _
    exact ⟨_, presults Tryz.results9 HEND.out.1 HEND.out.2.1 rfl rfl, by rw [← HP.out]; exact ⟨HEND.out.2.2, rfl⟩⟩
  ·go_simp
   refine hK _ _ ?_
   clear hK K
   refine wpAny_ready (rs := [0]) (by kernel_rfl) (by simp) ?_
   refine AllReady.cons rfl (fun K hK => ?_) AllReady.nil
   go_simp
   refine hK _ _ ?_
   clear hK K
   refine wpAny_ready (rs := [2]) (by kernel_rfl) (by simp) ?_
   refine AllReady.cons rfl (fun K hK => ?_) AllReady.nil
   refine step_st rfl _ _ rfl rfl rfl HST.out ?_
   try go_simp
   refine hK _ _ ?_
   clear hK K
   refine wpAny_ready (rs := [3]) (by kernel_rfl) (by simp) ?_
   refine AllReady.cons rfl (fun K hK => ?_) AllReady.nil
   go_simp
   refine hK _ _ ?_
   clear hK K
   refine wpAny_done (by kernel_rfl) ?_ _
   go_wp2_with fail
   change Leaves _ _ _ P _ _ _
   exact ⟨_, presults Tryz.results9 HEND.out.1 HEND.out.2.1 rfl rfl, by rw [← HP.out]; exact ⟨HEND.out.2.2, rfl⟩⟩
 | ok ts =>
  rw [ht] at hr HT
  obtain ⟨tr1, tr2, -, -⟩ := toks_right (sl_lt s) ht
  unfold parseP at hr
  dsimp only at hr
  have HTR := Lib.hid (And.intro tr1 tr2)
  clear tr1 tr2
  cases h1 : stmtP isN n ⟨ts, 0, 0⟩ with
  | none => rw [h1] at hr; cases hr
  | some r1 =>
   rw [h1] at hr
   have HST0 := Lib.hid (fun (w5 : World) (pb : Nat) (hp : PsM w5 pb ⟨ts, 0, 0⟩) => statement_p n pb w5 ⟨ts, 0, 0⟩ r1 hp h1)
   clear hP ht h1 b1 n1 s1 b2 n2 s2 b02 hE
   match r1, hr, HST0 with
   | .error c, hr, HST0 =>
    have hrc : r = .error c := by injection hr with hr; exact hr.symm
    subst hrc
    clear hr
    go_enter_defers Tryz.func9, Tryz.ntmps9
    go_wp2_with (first | (go_at_call 18; refine HT.out.mono ?_; rintro e w3 ⟨b3, v3, rfl, o3⟩; obtain ⟨va, vc, rfl, -⟩ := o3.form; have hb3 := HBX.out.1.below b3; have hc3 := HBX.out.2.below b3; have cc := hc3.cell (o := 0) (v := .int .i64 0) rfl; have cf := hc3.frz 0; have hgh : ¬ w.heap.size = w1.heap.size := (by have := HS.out.1; omega); obtain ⟨w4, hw4⟩ : ∃ w4, w3.setCell ⟨w1.heap.size, 0, none⟩ (.int .i64 0) = w4 := ⟨_, rfl⟩; have hb4 := hb3.setc hgh 0 (.int .i64 0); have hc4 : Bx _ w1.heap.size #[.int .i64 0] 35 := box_set hc3 0 (.int .i64 0); have fr4 : Frm (fun k => k < w2.heap.size) w3 w4 := (by rw [← hw4]; exact Frm.set1 (F := fun k => k < w2.heap.size) w3 (show w1.heap.size < w2.heap.size by have := HS.out.2; omega) 0 _); have sz4 : w4.heap.size = w3.heap.size := (by rw [← hw4]; simp [World.setCell]); rw [hw4] at hb4 hc4; have hf4 : Below w.heap.size w w4 := (by rw [← hw4]; exact (HB.out.trans (b3.mono HB.out.size)).setCell (p := ⟨w1.heap.size, 0, none⟩) (by show w.heap.size ≤ w1.heap.size; have := HS.out.1; omega) _); have c4 := hc4.cell (o := 0) (v := .int .i64 0) rfl; have e4 := hc4.frz 0; have ps5 := PsM.made o3 HTR.out.1 HTR.out.2 fr4 sz4; have bb5 : Below w4.heap.size w4 (w4.alloc (.cells #[.slice va ts.length vc, .int .i64 0, .int .i64 0] 63)) := (Below.refl _ _).alloc (Nat.le_refl _) _; obtain ⟨w5, hw5⟩ : ∃ w5, w4.alloc (.cells #[.slice va ts.length vc, .int .i64 0, .int .i64 0] 63) = w5 := ⟨_, rfl⟩; rw [hw5] at ps5 bb5; have g6 : ¬ w.heap.size = w4.heap.size := (by have := hb4.lt; omega); have h6 : ¬ w1.heap.size = w4.heap.size := (by have := hc4.lt; omega); have SZ4 := Lib.hid sz4; have hlt5 : w.heap.size ≤ w4.heap.size := Nat.le_of_lt hb4.lt; have H5 := Lib.hid (And.intro ps5 (And.intro (hb4.below bb5) (And.intro (hc4.below bb5) (hf4.trans (bb5.mono hlt5))))); clear b3 o3 hb3 hc3 hb4 hc4 hf4 fr4 ps5 bb5 sz4) | (go_at_call 20; refine (HST0.out w5 w4.heap.size H5.out.1).mono ?_; rintro e w6 ⟨f6, rfl⟩; have F6 := Lib.hid f6; clear f6; have hb6 := H5.out.2.1.frm F6.out g6; have hc6 := H5.out.2.2.1.frm F6.out h6; change Leaves _ _ _ P _ _ _; refine leaves_cons (f := 19) (args := #[.pointer (some ⟨w.heap.size, 0, none⟩), .pointer (some ⟨w1.heap.size, 0, none⟩)]) (by simp) (by simp [go_sem]) ?_; refine (HCP.out w.heap.size w1.heap.size (c : Int) [] w6 _ hb6 (hc6.cell rfl) (hc6.frz 0) (by have := HS.out.1; omega) hc6.lt).mono ?_; rintro e u' w7 ⟨rfl, rfl, q1, q2, q3⟩; have hfin : P (.returned (.tuple #[.agg #[.int .i64 0, .string ⟨#[]⟩, .string ⟨#[]⟩, .slice none 0 0, .slice none 0 0, .bool false, .slice none 0 0, .slice none 0 0, .slice none 0 0, .int .i64 0, .slice none 0 0, .int .i64 0, .int .i64 0, .int .i64 0, .string ⟨#[]⟩, .string ⟨#[]⟩, .slice none 0 0, .slice none 0 0], .int .i64 (c : Int)])) w7 := (by rw [← HP.out]; exact ⟨(H5.out.2.2.2.trans (F6.out.below (fun k hk => by have : k = w4.heap.size := hk; omega) H5.out.2.2.2.size)).trans q3, rfl⟩); exact ⟨_, presults Tryz.results9 q1 q2 rfl rfl, hfin⟩))
   | .ok (st, s'), hr, HST0 =>
    obtain ⟨m, hm⟩ : ∃ m, s'.rest.length = m := ⟨_, rfl⟩
    obtain ⟨d, hd⟩ : ∃ d, s'.deep = d := ⟨_, rfl⟩
    have HM := Lib.hid (And.intro hm hd)
    have hr2 : (if m = 0 then if d ≤ 40 then some (Except.ok st) else some (Except.error 5) else some (Except.error 130)) = some r := by
     rw [← hr]
     dsimp only
     by_cases e : s'.rest = []
     ·rw [if_pos e, if_pos (by rw [← hm, e]; rfl), ← hd]
     ·rw [if_neg e, if_neg (fun h => e (List.eq_nil_of_length_eq_zero (hm.trans h)))]
    have HB7 := Lib.hid (fun (w5 w6 w7 : World) (p : Nat) (b5 : Below w.heap.size w w5) (hp : w.heap.size ≤ p) (f6 : Frm (PF p) w5 w6) (fz : Frm (fun k => k = w.heap.size) w6 w7) => show Below w.heap.size w w7 from
     ((((Frm.of_below (F := fun k => w.heap.size ≤ k) b5).trans f6 (fun k hk => .inl (by have : k = p := hk; omega))).trans fz (fun k hk => .inl (Nat.le_of_eq hk.symm))).below (fun k hk => hk) (Nat.le_refl _)))
    clear hm hd hr
    by_cases c0 : m = 0
    ·rw [if_pos c0] at hr2
     subst c0
     have HMO1 := Lib.hid (fun w => pmust_ok 130 w)
     by_cases c40 : d ≤ 40
     ·rw [if_pos c40] at hr2
      have hrc : r = .ok st := by injection hr2 with hr2; exact hr2.symm
      subst hrc
      have c41 : ((d : Int) ≤ 40) := by omega
      have HMO2 := Lib.hid (fun w => pmust_ok 5 w)
      clear hr2
      go_enter_defers Tryz.func9, Tryz.ntmps9
      go_wp2_with (first | (go_at_call 18; refine HT.out.mono ?_; rintro e w3 ⟨b3, v3, rfl, o3⟩; obtain ⟨va, vc, rfl, -⟩ := o3.form; have hb3 := HBX.out.1.below b3; have hc3 := HBX.out.2.below b3; have cc := hc3.cell (o := 0) (v := .int .i64 0) rfl; have cf := hc3.frz 0; have hgh : ¬ w.heap.size = w1.heap.size := (by have := HS.out.1; omega); obtain ⟨w4, hw4⟩ : ∃ w4, w3.setCell ⟨w1.heap.size, 0, none⟩ (.int .i64 0) = w4 := ⟨_, rfl⟩; have hb4 := hb3.setc hgh 0 (.int .i64 0); have hc4 : Bx _ w1.heap.size #[.int .i64 0] 35 := box_set hc3 0 (.int .i64 0); have fr4 : Frm (fun k => k < w2.heap.size) w3 w4 := (by rw [← hw4]; exact Frm.set1 (F := fun k => k < w2.heap.size) w3 (show w1.heap.size < w2.heap.size by have := HS.out.2; omega) 0 _); have sz4 : w4.heap.size = w3.heap.size := (by rw [← hw4]; simp [World.setCell]); rw [hw4] at hb4 hc4; have hf4 : Below w.heap.size w w4 := (by rw [← hw4]; exact (HB.out.trans (b3.mono HB.out.size)).setCell (p := ⟨w1.heap.size, 0, none⟩) (by show w.heap.size ≤ w1.heap.size; have := HS.out.1; omega) _); have c4 := hc4.cell (o := 0) (v := .int .i64 0) rfl; have e4 := hc4.frz 0; have ps5 := PsM.made o3 HTR.out.1 HTR.out.2 fr4 sz4; have bb5 : Below w4.heap.size w4 (w4.alloc (.cells #[.slice va ts.length vc, .int .i64 0, .int .i64 0] 63)) := (Below.refl _ _).alloc (Nat.le_refl _) _; obtain ⟨w5, hw5⟩ : ∃ w5, w4.alloc (.cells #[.slice va ts.length vc, .int .i64 0, .int .i64 0] 63) = w5 := ⟨_, rfl⟩; rw [hw5] at ps5 bb5; have g6 : ¬ w.heap.size = w4.heap.size := (by have := hb4.lt; omega); have h6 : ¬ w1.heap.size = w4.heap.size := (by have := hc4.lt; omega); have SZ4 := Lib.hid sz4; have hlt5 : w.heap.size ≤ w4.heap.size := Nat.le_of_lt hb4.lt; have H5 := Lib.hid (And.intro ps5 (And.intro (hb4.below bb5) (And.intro (hc4.below bb5) (hf4.trans (bb5.mono hlt5))))); clear b3 o3 hb3 hc3 hb4 hc4 hf4 fr4 ps5 bb5 sz4) | (go_at_call 20; refine (HST0.out w5 w4.heap.size H5.out.1).mono ?_; rintro e w6 ⟨f6, v6, rfl, ⟨x, rfl, hxe, mx⟩, p6⟩; have hb6 := H5.out.2.1.frm f6 g6; have hc6 := H5.out.2.2.1.frm f6 h6; obtain ⟨w7, hst7, fz7, bz7⟩ := st_V hb6 rfl x; have HST1 := Lib.hid hst7; obtain ⟨ra, rc, hh6, -⟩ := p6.hd; have hp7 := Bx.frm (w := w6) hh6 fz7 (fun e => g6 e.symm); have k0 := hp7.cell (o := 0) rfl; have k2 := hp7.cell (o := 2) rfl; rw [HM.out.1] at k0; rw [HM.out.2] at k2; have hc7 := hc6.frm fz7 (fun e => hgh e.symm); have H7 := Lib.hid (And.intro bz7 (And.intro hc7 (And.intro fz7 (And.intro f6 (And.intro mx hxe))))); have HLV := Lib.hid (ld_V bz7); obtain ⟨w8, hst8, fz8, bz8⟩ := st_V bz7 (by unfold XSt.enc; simp [XE.enc_len]) x; have hc8 := hc7.frm fz8 (fun e => hgh e.symm); have HST2 := Lib.hid hst8; have j0 := hc8.cell (o := 0) rfl; have j1 := hc8.frz 0; have H8 := Lib.hid (And.intro bz8 (And.intro hc8 fz8)); clear hst8 fz8 bz8 hc8; clear hb6 hc6 hst7 fz7 bz7 hh6 hp7 hc7 f6 mx hxe p6) | (refine wpSt rfl _ _ rfl rfl rfl HST1.out ?_; clear HST1) | (go_at_call 21; refine (HMO1.out _).mono ?_; rintro e wx ⟨rfl, rfl⟩; clear HMO1) | (go_at_call 21; refine (HMO2.out _).mono ?_; rintro e wx ⟨rfl, rfl⟩; clear HMO2) | (refine wpLd rfl _ rfl rfl HLV.out ?_; clear HLV) | (refine wpSt rfl _ _ rfl rfl rfl HST2.out ?_; clear HST2))
      have hbz := H8.out.1.setc hgh 0 (.int .i64 0)
      have hcz : (w8.setCell ⟨w1.heap.size, 0, none⟩ (.int .i64 0)).cell? ⟨w1.heap.size, 0, none⟩ = some (.int .i64 0) := World.cell?_setCell_same _ _ _ (H8.out.2.1.cell (o := 0) rfl)
      have hgw : w.heap.size ≤ w1.heap.size := by have := HS.out.1; omega
      have h15 : w1.heap.size < w5.heap.size := H5.out.2.2.1.lt
      have hbel : Below w.heap.size w (w8.setCell ⟨w1.heap.size, 0, none⟩ (.int .i64 0)) := by
       have f7 := HB7.out w5 w6 w7 w4.heap.size H5.out.2.2.2 hlt5 H7.out.2.2.2.1 H7.out.2.2.1
       exact (((Frm.of_below (F := fun k => w.heap.size ≤ k) f7).trans H8.out.2.2 (fun k hk => .inl (Nat.le_of_eq hk.symm))).setCell (.inl hgw) 0 (.int .i64 0)).below (fun k hk => hk) (Nat.le_refl _)
      have hmem : XSt.Mem (GE w.heap.size) (w8.setCell ⟨w1.heap.size, 0, none⟩ (.int .i64 0)) x := by
       have m6 : XSt.Mem (GE w5.heap.size) w6 x := H7.out.2.2.2.2.1
       have m7 := XSt.Mem.frm H7.out.2.2.1 (fun k hk e => by have : w5.heap.size ≤ k := hk; omega) m6
       have m8 := XSt.Mem.frm H8.out.2.2 (fun k hk e => by have : w5.heap.size ≤ k := hk; omega) m7
       have m9 := XSt.Mem.frm (Frm.set1 (F := fun k => k = w1.heap.size) w8 rfl 0 (.int .i64 0)) (fun k hk e => by have : w5.heap.size ≤ k := hk; omega) m8
       exact XSt.Mem.mono (fun k hk => by have : w5.heap.size ≤ k := hk; show _ ≤ _; omega) m9
      have hfin : P (.returned (.tuple #[x.val, .int .i64 0])) (w8.setCell ⟨w1.heap.size, 0, none⟩ (.int .i64 0)) := by
       rw [← HP.out]
       exact ⟨hbel, x, rfl, H7.out.2.2.2.2.2, hmem⟩
      change Leaves _ _ _ P _ _ _
      refine leaves_cons (f := 19) (args := #[.pointer (some ⟨w.heap.size, 0, none⟩), .pointer (some ⟨w1.heap.size, 0, none⟩)]) (by simp) (by simp [go_sem]) ?_
      refine (HCI.out _ _ _).mono ?_
      rintro e u' w'' ⟨rfl, rfl, rfl⟩
      exact ⟨_, pres_V Tryz.results9 hbz hcz rfl rfl, hfin⟩
     ·rw [if_neg c40] at hr2
      have hrc : r = .error 5 := by injection hr2 with hr2; exact hr2.symm
      subst hrc
      have c41 : decide ((d : Int) ≤ 40) = false := by simp; omega
      clear hr2
      go_enter_defers Tryz.func9, Tryz.ntmps9
      go_wp2_with (first | (go_at_call 18; refine HT.out.mono ?_; rintro e w3 ⟨b3, v3, rfl, o3⟩; obtain ⟨va, vc, rfl, -⟩ := o3.form; have hb3 := HBX.out.1.below b3; have hc3 := HBX.out.2.below b3; have cc := hc3.cell (o := 0) (v := .int .i64 0) rfl; have cf := hc3.frz 0; have hgh : ¬ w.heap.size = w1.heap.size := (by have := HS.out.1; omega); obtain ⟨w4, hw4⟩ : ∃ w4, w3.setCell ⟨w1.heap.size, 0, none⟩ (.int .i64 0) = w4 := ⟨_, rfl⟩; have hb4 := hb3.setc hgh 0 (.int .i64 0); have hc4 : Bx _ w1.heap.size #[.int .i64 0] 35 := box_set hc3 0 (.int .i64 0); have fr4 : Frm (fun k => k < w2.heap.size) w3 w4 := (by rw [← hw4]; exact Frm.set1 (F := fun k => k < w2.heap.size) w3 (show w1.heap.size < w2.heap.size by have := HS.out.2; omega) 0 _); have sz4 : w4.heap.size = w3.heap.size := (by rw [← hw4]; simp [World.setCell]); rw [hw4] at hb4 hc4; have hf4 : Below w.heap.size w w4 := (by rw [← hw4]; exact (HB.out.trans (b3.mono HB.out.size)).setCell (p := ⟨w1.heap.size, 0, none⟩) (by show w.heap.size ≤ w1.heap.size; have := HS.out.1; omega) _); have c4 := hc4.cell (o := 0) (v := .int .i64 0) rfl; have e4 := hc4.frz 0; have ps5 := PsM.made o3 HTR.out.1 HTR.out.2 fr4 sz4; have bb5 : Below w4.heap.size w4 (w4.alloc (.cells #[.slice va ts.length vc, .int .i64 0, .int .i64 0] 63)) := (Below.refl _ _).alloc (Nat.le_refl _) _; obtain ⟨w5, hw5⟩ : ∃ w5, w4.alloc (.cells #[.slice va ts.length vc, .int .i64 0, .int .i64 0] 63) = w5 := ⟨_, rfl⟩; rw [hw5] at ps5 bb5; have g6 : ¬ w.heap.size = w4.heap.size := (by have := hb4.lt; omega); have h6 : ¬ w1.heap.size = w4.heap.size := (by have := hc4.lt; omega); have SZ4 := Lib.hid sz4; have hlt5 : w.heap.size ≤ w4.heap.size := Nat.le_of_lt hb4.lt; have H5 := Lib.hid (And.intro ps5 (And.intro (hb4.below bb5) (And.intro (hc4.below bb5) (hf4.trans (bb5.mono hlt5))))); clear b3 o3 hb3 hc3 hb4 hc4 hf4 fr4 ps5 bb5 sz4) | (go_at_call 20; refine (HST0.out w5 w4.heap.size H5.out.1).mono ?_; rintro e w6 ⟨f6, v6, rfl, ⟨x, rfl, hxe, mx⟩, p6⟩; have hb6 := H5.out.2.1.frm f6 g6; have hc6 := H5.out.2.2.1.frm f6 h6; obtain ⟨w7, hst7, fz7, bz7⟩ := st_V hb6 rfl x; have HST1 := Lib.hid hst7; obtain ⟨ra, rc, hh6, -⟩ := p6.hd; have hp7 := Bx.frm (w := w6) hh6 fz7 (fun e => g6 e.symm); have k0 := hp7.cell (o := 0) rfl; have k2 := hp7.cell (o := 2) rfl; rw [HM.out.1] at k0; rw [HM.out.2] at k2; have hc7 := hc6.frm fz7 (fun e => hgh e.symm); have H7 := Lib.hid (And.intro bz7 (And.intro hc7 (And.intro fz7 (And.intro f6 (And.intro mx hxe))))); clear hb6 hc6 hst7 fz7 bz7 hh6 hp7 hc7 f6 mx hxe p6) | (refine wpSt rfl _ _ rfl rfl rfl HST1.out ?_; clear HST1) | (go_at_call 21; refine (HMO1.out _).mono ?_; rintro e wx ⟨rfl, rfl⟩; clear HMO1) | (go_at_call 21; refine (HMN.out _ _).mono ?_; rintro e wx ⟨rfl, rfl⟩; change Leaves _ _ _ P _ _ _; refine leaves_cons (f := 19) (args := #[.pointer (some ⟨w.heap.size, 0, none⟩), .pointer (some ⟨w1.heap.size, 0, none⟩)]) (by simp) (by simp [go_sem]) ?_; refine (pcatch_V w.heap.size w1.heap.size 5 [] w7 x _ H7.out.1 (H7.out.2.1.cell rfl) (H7.out.2.1.frz 0) (by have := HS.out.1; omega) H7.out.2.1.lt).mono ?_; rintro e u' w9 ⟨rfl, rfl, q1, q2, q3⟩; have hfin : P (.returned (.tuple #[.agg #[.int .i64 0, .string ⟨#[]⟩, .string ⟨#[]⟩, .slice none 0 0, .slice none 0 0, .bool false, .slice none 0 0, .slice none 0 0, .slice none 0 0, .int .i64 0, .slice none 0 0, .int .i64 0, .int .i64 0, .int .i64 0, .string ⟨#[]⟩, .string ⟨#[]⟩, .slice none 0 0, .slice none 0 0], .int .i64 5])) w9 := (by rw [← HP.out]; exact ⟨(HB7.out w5 w6 w7 w4.heap.size H5.out.2.2.2 hlt5 H7.out.2.2.2.1 H7.out.2.2.1).trans q3, rfl⟩); exact ⟨_, presults Tryz.results9 q1 q2 rfl rfl, hfin⟩))
    ·rw [if_neg c0] at hr2
     have hrc : r = .error 130 := by injection hr2 with hr2; exact hr2.symm
     subst hrc
     have c01 : ((m : Int) == 0) = false := by simp; omega
     clear hr2
     go_enter_defers Tryz.func9, Tryz.ntmps9
     go_wp2_with (first | (go_at_call 18; refine HT.out.mono ?_; rintro e w3 ⟨b3, v3, rfl, o3⟩; obtain ⟨va, vc, rfl, -⟩ := o3.form; have hb3 := HBX.out.1.below b3; have hc3 := HBX.out.2.below b3; have cc := hc3.cell (o := 0) (v := .int .i64 0) rfl; have cf := hc3.frz 0; have hgh : ¬ w.heap.size = w1.heap.size := (by have := HS.out.1; omega); obtain ⟨w4, hw4⟩ : ∃ w4, w3.setCell ⟨w1.heap.size, 0, none⟩ (.int .i64 0) = w4 := ⟨_, rfl⟩; have hb4 := hb3.setc hgh 0 (.int .i64 0); have hc4 : Bx _ w1.heap.size #[.int .i64 0] 35 := box_set hc3 0 (.int .i64 0); have fr4 : Frm (fun k => k < w2.heap.size) w3 w4 := (by rw [← hw4]; exact Frm.set1 (F := fun k => k < w2.heap.size) w3 (show w1.heap.size < w2.heap.size by have := HS.out.2; omega) 0 _); have sz4 : w4.heap.size = w3.heap.size := (by rw [← hw4]; simp [World.setCell]); rw [hw4] at hb4 hc4; have hf4 : Below w.heap.size w w4 := (by rw [← hw4]; exact (HB.out.trans (b3.mono HB.out.size)).setCell (p := ⟨w1.heap.size, 0, none⟩) (by show w.heap.size ≤ w1.heap.size; have := HS.out.1; omega) _); have c4 := hc4.cell (o := 0) (v := .int .i64 0) rfl; have e4 := hc4.frz 0; have ps5 := PsM.made o3 HTR.out.1 HTR.out.2 fr4 sz4; have bb5 : Below w4.heap.size w4 (w4.alloc (.cells #[.slice va ts.length vc, .int .i64 0, .int .i64 0] 63)) := (Below.refl _ _).alloc (Nat.le_refl _) _; obtain ⟨w5, hw5⟩ : ∃ w5, w4.alloc (.cells #[.slice va ts.length vc, .int .i64 0, .int .i64 0] 63) = w5 := ⟨_, rfl⟩; rw [hw5] at ps5 bb5; have g6 : ¬ w.heap.size = w4.heap.size := (by have := hb4.lt; omega); have h6 : ¬ w1.heap.size = w4.heap.size := (by have := hc4.lt; omega); have SZ4 := Lib.hid sz4; have hlt5 : w.heap.size ≤ w4.heap.size := Nat.le_of_lt hb4.lt; have H5 := Lib.hid (And.intro ps5 (And.intro (hb4.below bb5) (And.intro (hc4.below bb5) (hf4.trans (bb5.mono hlt5))))); clear b3 o3 hb3 hc3 hb4 hc4 hf4 fr4 ps5 bb5 sz4) | (go_at_call 20; refine (HST0.out w5 w4.heap.size H5.out.1).mono ?_; rintro e w6 ⟨f6, v6, rfl, ⟨x, rfl, hxe, mx⟩, p6⟩; have hb6 := H5.out.2.1.frm f6 g6; have hc6 := H5.out.2.2.1.frm f6 h6; obtain ⟨w7, hst7, fz7, bz7⟩ := st_V hb6 rfl x; have HST1 := Lib.hid hst7; obtain ⟨ra, rc, hh6, -⟩ := p6.hd; have hp7 := Bx.frm (w := w6) hh6 fz7 (fun e => g6 e.symm); have k0 := hp7.cell (o := 0) rfl; have k2 := hp7.cell (o := 2) rfl; rw [HM.out.1] at k0; rw [HM.out.2] at k2; have hc7 := hc6.frm fz7 (fun e => hgh e.symm); have H7 := Lib.hid (And.intro bz7 (And.intro hc7 (And.intro fz7 (And.intro f6 (And.intro mx hxe))))); clear hb6 hc6 hst7 fz7 bz7 hh6 hp7 hc7 f6 mx hxe p6) | (refine wpSt rfl _ _ rfl rfl rfl HST1.out ?_; clear HST1) | (go_at_call 21; refine (HMN.out _ _).mono ?_; rintro e wx ⟨rfl, rfl⟩; change Leaves _ _ _ P _ _ _; refine leaves_cons (f := 19) (args := #[.pointer (some ⟨w.heap.size, 0, none⟩), .pointer (some ⟨w1.heap.size, 0, none⟩)]) (by simp) (by simp [go_sem]) ?_; refine (pcatch_V w.heap.size w1.heap.size 130 [] w7 x _ H7.out.1 (H7.out.2.1.cell rfl) (H7.out.2.1.frz 0) (by have := HS.out.1; omega) H7.out.2.1.lt).mono ?_; rintro e u' w9 ⟨rfl, rfl, q1, q2, q3⟩; have hfin : P (.returned (.tuple #[.agg #[.int .i64 0, .string ⟨#[]⟩, .string ⟨#[]⟩, .slice none 0 0, .slice none 0 0, .bool false, .slice none 0 0, .slice none 0 0, .slice none 0 0, .int .i64 0, .slice none 0 0, .int .i64 0, .int .i64 0, .int .i64 0, .string ⟨#[]⟩, .string ⟨#[]⟩, .slice none 0 0, .slice none 0 0], .int .i64 130])) w9 := (by rw [← HP.out]; exact ⟨(HB7.out w5 w6 w7 w4.heap.size H5.out.2.2.2 hlt5 H7.out.2.2.2.1 H7.out.2.2.1).trans q3, rfl⟩); exact ⟨_, presults Tryz.results9 q1 q2 rfl rfl, hfin⟩))
end Go.Proofs.YtofnkfjhmjecjaaGreatDoor

namespace Go.Proofs.YtofnkfjhmjecjaaGreatDoor
set_option maxRecDepth 100000
open Go.RowKit Go.Joins Go.ChangeShapes Go.WideShapes
set_option linter.unusedVariables false
set_option linter.unusedSimpArgs false
def prA : ByteArray := ⟨#[68, 69, 76, 69, 84, 69, 32, 70, 82, 79, 77, 32, 116, 32, 87, 72, 69, 82, 69, 32, 78, 79, 84, 32, 97, 32, 61, 32, 45, 49, 32, 43, 32, 98, 32, 42, 32, 50]⟩
def prB : ByteArray := ⟨#[83, 69, 76, 69, 67, 84, 32, 97, 32, 70, 82, 79, 77]⟩
def prAt : List Tk := [⟨1, [100, 101, 108, 101, 116, 101], 0, 0⟩, ⟨1, [102, 114, 111, 109], 0, 0⟩, ⟨1, [116], 0, 0⟩, ⟨1, [119, 104, 101, 114, 101], 0, 0⟩, ⟨1, [110, 111, 116], 0, 0⟩, ⟨1, [97], 0, 0⟩, ⟨5, [61], 0, 0⟩, ⟨5, [45], 0, 0⟩, ⟨2, [], 1, 0⟩, ⟨5, [43], 0, 0⟩, ⟨1, [98], 0, 0⟩, ⟨5, [42], 0, 0⟩, ⟨2, [], 2, 0⟩]
def prBt : List Tk := [⟨1, [115, 101, 108, 101, 99, 116], 0, 0⟩, ⟨1, [97], 0, 0⟩, ⟨1, [102, 114, 111, 109], 0, 0⟩]
theorem prA_toks : toksE (sl prA) = .ok prAt := by rfl
theorem prB_toks : toksE (sl prB) = .ok prBt := by rfl
def prD : Ex := .mk 7 0 0 0 ⟨#[]⟩ ⟨#[]⟩ [.mk 13 0 0 0 ⟨#[]⟩ ⟨#[]⟩ [.mk 21 2 1 0 ⟨#[]⟩ ⟨#[]⟩ []], .mk 9 0 0 0 ⟨#[]⟩ ⟨#[]⟩ [.mk 22 0 0 0 (strB [98]) ⟨#[]⟩ [], .mk 21 2 2 0 ⟨#[]⟩ ⟨#[]⟩ []]]
def prC : Ex := .mk 1 0 0 0 ⟨#[]⟩ ⟨#[]⟩ [.mk 22 0 0 0 (strB [97]) ⟨#[]⟩ [], prD]
def prX : Ex := .mk 16 0 0 0 ⟨#[]⟩ ⟨#[]⟩ [prC]
theorem prA_p : parseP isN 40 prAt = some (.ok { kind := 8, table := [116], whr := prX }) := by kernel_rfl
theorem prX_dep : depR prX = 4 := by rfl
theorem prX_wf : Ex.Wf prX := by
 simp [prX, prC, prD, Ex.Wf, Ex.WfL]
theorem prB_p : parseP isN 40 prBt = some (.error 130) := by kernel_rfl
end Go.Proofs.YtofnkfjhmjecjaaGreatDoor

namespace Go.Proofs.YtofnkfjhmjecjaaGreatDoor
set_option maxRecDepth 100000
open Go.RowKit Go.Joins Go.ChangeShapes Go.WideShapes
set_option linter.unusedVariables false
set_option linter.unusedSimpArgs false
theorem XE.er_mk {y : XE} {op kind num scale : Int} {text qual : ByteArray} {l : List Ex} (h : y.er = .mk op kind num scale text qual l) : ∃ a cap args, y = .mk op kind num scale text qual a cap args ∧ XE.erL args = l := by
 obtain ⟨op', kind', num', scale', text', qual', a, cap, args⟩ := y
 simp only [XE.er, Ex.mk.injEq] at h
 obtain ⟨rfl, rfl, rfl, rfl, rfl, rfl, h⟩ := h
 exact ⟨a, cap, args, rfl, h⟩
theorem XE.erL_cons {l : List XE} {a : Ex} {r : List Ex} (h : XE.erL l = a :: r) : ∃ x t, l = x :: t ∧ x.er = a ∧ XE.erL t = r := by
 cases l with
 | nil => simp [XE.erL] at h
 | cons x t =>
  simp only [XE.erL, List.cons.injEq] at h
  exact ⟨x, t, rfl, h.1, h.2⟩
theorem XE.erL_nil {l : List XE} (h : XE.erL l = []) : l = [] := by
 cases l with
 | nil => rfl
 | cons x t => simp [XE.erL] at h
theorem prX_lies {K : Bl} {w : World} {y : XE} (h : y.er = prX) (m : XE.Mem K w y) : ∃ b0 o0 c0 b1 o1 c1 z,
  y = .mk 16 0 0 0 ⟨#[]⟩ ⟨#[]⟩ (some ⟨b0, o0, none⟩) c0 [z] ∧ 1 ≤ c0 ∧ 2 ≤ c1 ∧ b0 < w.heap.size ∧ b1 < w.heap.size ∧ w.cell? ⟨b0, o0, none⟩ = some (.int .i64 1) ∧ w.cell? ⟨b0, o0 + 1, none⟩ = some (.slice (some ⟨b1, o1, none⟩) 2 c1) ∧ w.cell? ⟨b1, o1 + 7, none⟩ = some (.int .i64 7) := by
 obtain ⟨a, cap, args, rfl, h1⟩ := XE.er_mk h
 obtain ⟨z, t, rfl, h2, h3⟩ := XE.erL_cons h1
 obtain rfl := XE.erL_nil h3
 obtain ⟨a1, cap1, args1, rfl, h4⟩ := XE.er_mk h2
 obtain ⟨z1, t1, rfl, h5, h6⟩ := XE.erL_cons h4
 obtain ⟨z2, t2, rfl, h7, h8⟩ := XE.erL_cons h6
 obtain rfl := XE.erL_nil h8
 obtain ⟨a3, cap3, args3, rfl, h9⟩ := XE.er_mk h7
 have q0 := m
 unfold XE.Mem at q0
 obtain ⟨b0, o0, rfl, _, hb0, hc0, m1⟩ := XE.Mem.at m (k := 0) rfl
 have q1 := m1
 unfold XE.Mem at q1
 obtain ⟨b1, o1, rfl, _, hb1, hc1, m2⟩ := XE.Mem.at m1 (k := 1) rfl
 have k0 := hc0 0 _ rfl
 have k1 := hc0 1 _ rfl
 have k2 := hc1 0 _ rfl
 simp only [Nat.zero_mul, Nat.one_mul, Nat.add_zero] at k0 k1 k2
 exact ⟨b0, o0, cap, b1, o1, cap1, _, rfl, q0.1, q1.1, hb0, hb1, k0, k1, k2⟩
set_option maxHeartbeats 4000000 in
theorem speaks13_any (w : World) (hE : ErrR w) : Calls Tryz.prog 8 #[] w fun e w' => e = .returned (.bool true) ∧ Below w.heap.size w w' := by
 have H1 := Lib.hid (parse_p prA w hE 40 (r := .ok { kind := 8, table := [116], whr := prX }) (by unfold parseS; rw [prA_toks]; exact prA_p))
 have H2 := Lib.hid (fun (wx : World) (hb : Below w.heap.size w wx) => parse_p prB wx (hE.below hb) 40 (r := .error 130) (by unfold parseS; rw [prB_toks]; exact prB_p))
 clear hE
 unfold prA at H1
 unfold prB at H2
 generalize hP : (fun (e : Ending) (w' : World) => e = .returned (.bool true) ∧ Below w.heap.size w w') = P
 have HP := Lib.hid hP
 clear hP
 go_enter Tryz.func8, Tryz.ntmps8
 go_wp2_with fail
 try go_at_call 9
 refine H1.out.mono ?_
 rintro e w1 ⟨b1, x, rfl, hx, mx⟩
 have hk : x.kind = 8 := congrArg Stm.kind hx
 have ht : x.table = [116] := congrArg Stm.table hx
 have hw : x.whr.er = prX := congrArg Stm.whr hx
 obtain ⟨b0, o0, c0, b2, o2, c2, z, hz, hc0, hc2, hb0, hb2, k0, k1, k2⟩ := prX_lies hw mx.whr
 have hn := Bx.new w1 #[.int .i64 0, .string ⟨#[]⟩, .string ⟨#[]⟩, .slice none 0 0, .slice none 0 0, .bool false, .slice none 0 0, .slice none 0 0, .slice none 0 0, .int .i64 0, .slice none 0 0, .int .i64 0, .int .i64 0, .int .i64 0, .string ⟨#[]⟩, .string ⟨#[]⟩, .slice none 0 0, .slice none 0 0] 34
 obtain ⟨wz, hst, fz, bz⟩ := st_V hn rfl x
 have HST := Lib.hid hst
 have hx1 := x.enc
 have f1 : Frm (fun k => w1.heap.size ≤ k) w1 wz := (Frm.of_below (F := fun k => w1.heap.size ≤ k) ((Below.refl _ _).alloc (Nat.le_refl _) _)).trans fz (fun k hk => .inl (Nat.le_of_eq hk.symm))
 have bl : Below w1.heap.size w1 wz := f1.below (fun k hk => hk) (Nat.le_refl _)
 have m1 := XSt.Mem.frm (Frm.of_below (F := fun _ => False) bl) (fun _ _ e => e) mx
 have hbz : Bx wz w1.heap.size #[.int .i64 8, .string ⟨#[116]⟩, .string (strB x.index), x.cols.val, x.names.val, .bool x.uniq, x.rows.val, x.items.val, x.src.val, .int .i64 16, .slice (some ⟨b0, o0, none⟩) 1 c0, .int .i64 0, .int .i64 0, .int .i64 0, .string ⟨#[]⟩, .string ⟨#[]⟩, x.order.val, x.sets.val] 34 := by
  have h := bz
  unfold XSt.enc at h
  rw [hk, ht, hz] at h
  exact h
 have HBZ := Lib.hid hbz
 have HBL := Lib.hid (b1.trans (bl.mono b1.size))
 have HK := Lib.hid (And.intro ((bl.cell (p := ⟨b0, o0, none⟩) hb0).trans k0) (And.intro ((bl.cell (p := ⟨b0, o0 + 1, none⟩) hb0).trans k1) ((bl.cell (p := ⟨b2, o2 + 7, none⟩) hb2).trans k2)))
 have HN := Lib.hid (And.intro (Nat.lt_of_lt_of_le hb0 bl.size) (Nat.lt_of_lt_of_le hb2 bl.size))
 have HM := Lib.hid (show XE.Mem (GE w.heap.size) wz x.whr from m1.whr)
 have HW := Lib.hid hw
 have HZ := Lib.hid hz
 clear hbz bl b1 k0 k1 k2 hb0 hb2 m1 f1 bz fz hst hn mx hk ht hw hx hx1 hz H1
 go_wp2_with (first | (refine wpSt rfl _ _ rfl rfl rfl HST.out ?_; clear HST))
 try go_at_call 9
 refine (H2.out wz HBL.out).mono ?_
 rintro e w2 ⟨bq, rfl⟩
 have hn := Bx.new w2 #[.int .i64 0, .string ⟨#[]⟩, .string ⟨#[]⟩, .slice none 0 0, .slice none 0 0, .bool false, .slice none 0 0, .slice none 0 0, .slice none 0 0, .int .i64 0, .slice none 0 0, .int .i64 0, .int .i64 0, .int .i64 0, .string ⟨#[]⟩, .string ⟨#[]⟩, .slice none 0 0, .slice none 0 0] 34
 obtain ⟨wy, hst, fz, bz⟩ := st_V hn rfl ({ kind := 0 } : XSt)
 have HST := Lib.hid (show (Instr.storeAt 34 (.pointer (some ⟨w2.heap.size, 0, none⟩)) (.agg #[.int .i64 0, .string ⟨#[]⟩, .string ⟨#[]⟩, .slice none 0 0, .slice none 0 0, .bool false, .slice none 0 0, .slice none 0 0, .slice none 0 0, .int .i64 0, .slice none 0 0, .int .i64 0, .int .i64 0, .int .i64 0, .string ⟨#[]⟩, .string ⟨#[]⟩, .slice none 0 0, .slice none 0 0])).run Tryz.prog (w2.alloc (.cells #[.int .i64 0, .string ⟨#[]⟩, .string ⟨#[]⟩, .slice none 0 0, .slice none 0 0, .bool false, .slice none 0 0, .slice none 0 0, .slice none 0 0, .int .i64 0, .slice none 0 0, .int .i64 0, .int .i64 0, .int .i64 0, .string ⟨#[]⟩, .string ⟨#[]⟩, .slice none 0 0, .slice none 0 0] 34)) = .ok () wy from hst)
 have f1 : Frm (fun k => w2.heap.size ≤ k) w2 wy := (Frm.of_below (F := fun k => w2.heap.size ≤ k) ((Below.refl _ _).alloc (Nat.le_refl _) _)).trans fz (fun k hk => .inl (Nat.le_of_eq hk.symm))
 have bl : Below w2.heap.size w2 wy := f1.below (fun k hk => hk) (Nat.le_refl _)
 have b3 : Below wz.heap.size wz wy := bq.trans (bl.mono bq.size)
 have HB3 := Lib.hid b3
 have HBY := Lib.hid (HBZ.out.below b3)
 have k0 := (b3.cell (p := ⟨b0, o0, none⟩) HN.out.1).trans HK.out.1
 have g9 := HBY.out.cell (o := 9) (v := .int .i64 16) rfl
 have g10 := HBY.out.cell (o := 10) (v := .slice (some ⟨b0, o0, none⟩) 1 c0) rfl
 have g11 := HBY.out.cell (o := 11) (v := .int .i64 0) rfl
 have g12 := HBY.out.cell (o := 12) (v := .int .i64 0) rfl
 have g13 := HBY.out.cell (o := 13) (v := .int .i64 0) rfl
 have g14 := HBY.out.cell (o := 14) (v := .string ⟨#[]⟩) rfl
 have g15 := HBY.out.cell (o := 15) (v := .string ⟨#[]⟩) rfl
 have gl := HBY.out.lt
 have b4 : Below wy.heap.size wy (wy.alloc (.cells #[.int .i64 16, .slice (some ⟨b0, o0, none⟩) 1 c0, .int .i64 0, .int .i64 0, .int .i64 0, .string ⟨#[]⟩, .string ⟨#[]⟩] 30)) := (Below.refl _ _).alloc (Nat.le_refl _) _
 have hv : Bx (wy.alloc (.cells #[.int .i64 16, .slice (some ⟨b0, o0, none⟩) 1 c0, .int .i64 0, .int .i64 0, .int .i64 0, .string ⟨#[]⟩, .string ⟨#[]⟩] 30)) wy.heap.size #[.int .i64 16, .slice (some ⟨b0, o0, none⟩) 1 c0, .int .i64 0, .int .i64 0, .int .i64 0, .string ⟨#[]⟩, .string ⟨#[]⟩] 30 := Bx.new wy _ _
 have b5 : Below wz.heap.size wz (wy.alloc (.cells #[.int .i64 16, .slice (some ⟨b0, o0, none⟩) 1 c0, .int .i64 0, .int .i64 0, .int .i64 0, .string ⟨#[]⟩, .string ⟨#[]⟩] 30)) := HB3.out.trans (b4.mono HB3.out.size)
 have HBV := Lib.hid b5
 have hs := HBZ.out.below b5
 have c0s := hs.cell (o := 0) (v := .int .i64 8) rfl
 have c1s := hs.cell (o := 1) (v := .string ⟨#[116]⟩) rfl
 have x0 := hv.cell (o := 0) (v := .int .i64 16) rfl
 have x1 := hv.cell (o := 1) (v := .slice (some ⟨b0, o0, none⟩) 1 c0) rfl
 have x2 := hv.cell (o := 2) (v := .int .i64 0) rfl
 have x3 := hv.cell (o := 3) (v := .int .i64 0) rfl
 have x4 := hv.cell (o := 4) (v := .int .i64 0) rfl
 have x5 := hv.cell (o := 5) (v := .string ⟨#[]⟩) rfl
 have x6 := hv.cell (o := 6) (v := .string ⟨#[]⟩) rfl
 have y0 := (b5.cell (p := ⟨b0, o0, none⟩) HN.out.1).trans HK.out.1
 have y1 := (b5.cell (p := ⟨b0, o0 + 1, none⟩) HN.out.1).trans HK.out.2.1
 have y2 := (b5.cell (p := ⟨b2, o2 + 7, none⟩) HN.out.2).trans HK.out.2.2
 have HD := Lib.hid (depth_p 5 (K := GE w.heap.size) (w := (wy.alloc (.cells #[.int .i64 16, .slice (some ⟨b0, o0, none⟩) 1 c0, .int .i64 0, .int .i64 0, .int .i64 0, .string ⟨#[]⟩, .string ⟨#[]⟩] 30))) x.whr (by rw [HW.out, prX_dep]; omega) (by rw [HW.out, prX_dep]; omega) (by rw [HW.out]; exact prX_wf) (HM.out.below b5))
 rw [HW.out, prX_dep, HZ.out] at HD
 have b6 : Below w.heap.size w (wy.alloc (.cells #[.int .i64 16, .slice (some ⟨b0, o0, none⟩) 1 c0, .int .i64 0, .int .i64 0, .int .i64 0, .string ⟨#[]⟩, .string ⟨#[]⟩] 30)) := HBL.out.trans (b5.mono HBL.out.size)
 have HB6 := Lib.hid b6
 clear hst fz bz f1 bl bq hn b3 k0 b4 hv b5 hs b6
 go_wp2_with (first | (refine wpSt rfl _ _ rfl rfl rfl HST.out ?_; clear HST))
 try go_at_call 17
 refine HD.out.mono ?_
 rintro e w' ⟨rfl, bd⟩
 have HF := Lib.hid (HB6.out.trans (bd.mono HB6.out.size))
 clear bd
 go_wp2_with fail
 rw [← HP.out]
 exact ⟨rfl, HF.out⟩
end Go.Proofs.YtofnkfjhmjecjaaGreatDoor

namespace Go.Proofs.YtofnkfjhmjecjaaGreatDoor
set_option maxRecDepth 100000
open Go.RowKit Go.Joins Go.ChangeShapes Go.WideShapes
set_option linter.unusedVariables false
set_option linter.unusedSimpArgs false
def SameQ (N : Nat) : Prop := ∀ (K K' : Bl) (w : World) (x y : XE), depR x.er < N → x.er = y.er → XE.Mem K w x → XE.Mem K' w y →
  Calls Tryz.prog 25 #[x.val, y.val] w fun e w' => e = .returned (.bool true) ∧ Below w.heap.size w w'
set_option maxHeartbeats 4000000 in
theorem sames_q {N : Nat} (HE : SameQ N) {K K' : Bl} {w : World} (l r : List XE) (a a' : Option Addr) (cap cap' : Nat) (h : XE.erL l = XE.erL r) (hd : ∀ x ∈ l, depR x.er < N)
  (hm : XE.Mem K w (.mk 0 0 0 0 ⟨#[]⟩ ⟨#[]⟩ a cap l)) (hm' : XE.Mem K' w (.mk 0 0 0 0 ⟨#[]⟩ ⟨#[]⟩ a' cap' r)) :
  Calls Tryz.prog 26 #[.slice a l.length cap, .slice a' r.length cap'] w fun e w' => e = .returned (.bool true) ∧ Below w.heap.size w w' := by
 generalize hP : (fun (e : Ending) (w' : World) => e = .returned (.bool true) ∧ Below w.heap.size w w') = P
 have HP := Lib.hid hP
 obtain ⟨n, hn⟩ : ∃ n, l.length = n := ⟨_, rfl⟩
 have hn' : r.length = n := by rw [← XE.erL_length, ← h, XE.erL_length]; exact hn
 have hnc : n ≤ cap := by rw [← hn]; unfold XE.Mem at hm; exact hm.1
 have hnc' : n ≤ cap' := by rw [← hn']; unfold XE.Mem at hm'; exact hm'.1
 have hcm : cap ≤ maxLen := by unfold XE.Mem at hm; exact hm.2.1
 have hcm' : cap' ≤ maxLen := by unfold XE.Mem at hm'; exact hm'.2.1
 have HM := Lib.hid (And.intro hm hm')
 have HD := Lib.hid (And.intro h hd)
 have HL := Lib.hid (And.intro hn hn')
 have HQ := Lib.hid HE
 rw [hn, hn']
 clear hP hm hm' h hd hn hn' HE
 go_enter Tryz.func26, Tryz.ntmps26
 go_wp2_with fail
 go_loopw [5] (fun i wr => ∃ (k : Nat), k ≤ n ∧ i = .int .i64 (k : Int) ∧ Hid (Below w.heap.size w wr)) (fun i _ => n - (intOf i).toNat)
 case atStart => exact ⟨0, Nat.zero_le _, rfl, Lib.hid (Below.refl _ _)⟩
 case round =>
  obtain ⟨k, hk, rfl, HW⟩ := hrel
  by_cases c : k < n
  ·have c1 : (k : Int) < (n : Int) := by omega
   have hx : l[k]? = some (l[k]'(by rw [HL.out.1]; exact c)) := List.getElem?_eq_getElem _
   generalize l[k]'(by rw [HL.out.1]; exact c) = x at *
   have hy : r[k]? = some (r[k]'(by rw [HL.out.2]; exact c)) := List.getElem?_eq_getElem _
   generalize r[k]'(by rw [HL.out.2]; exact c) = y at *
   obtain ⟨b, o, rfl, -, hb, hcell, hmx⟩ := XE.Mem.at (HM.out.1.below HW.out) hx
   obtain ⟨b', o', rfl, -, hb', hcell', hmy⟩ := XE.Mem.at (HM.out.2.below HW.out) hy
   have hxy : x.er = y.er := by
    have e1 : (XE.erL l)[k]? = some x.er := by rw [XE.erL_map, List.getElem?_map, hx]; rfl
    have e2 : (XE.erL r)[k]? = some y.er := by rw [XE.erL_map, List.getElem?_map, hy]; rfl
    rw [HD.out.1, e2] at e1
    injection e1 with e1
    exact e1.symm
   have hdx := HD.out.2 x (List.mem_of_getElem? hx)
   have HCA := Lib.hid (fun (wv : World) (hb : Below wr.heap.size wr wv) => HQ.out K K' wv x y hdx hxy (hmx.below hb) (hmy.below hb))
   obtain ⟨op1, kind1, num1, scale1, text1, qual1, a1, cap1, args1⟩ := x
   obtain ⟨op2, kind2, num2, scale2, text2, qual2, a2, cap2, args2⟩ := y
   have q0 := hcell 0 _ rfl
   have q1 := hcell 1 _ rfl
   have q2 := hcell 2 _ rfl
   have q3 := hcell 3 _ rfl
   have q4 := hcell 4 _ rfl
   have q5 := hcell 5 _ rfl
   have q6 := hcell 6 _ rfl
   have p0 := hcell' 0 _ rfl
   have p1 := hcell' 1 _ rfl
   have p2 := hcell' 2 _ rfl
   have p3 := hcell' 3 _ rfl
   have p4 := hcell' 4 _ rfl
   have p5 := hcell' 5 _ rfl
   have p6 := hcell' 6 _ rfl
   rw [Nat.add_zero] at q0 p0
   simp only [XE.val] at HCA
   have hwk : wrap64 ((k : Int) + 1) = ((k + 1 : Nat) : Int) := by unfold wrap64 maxLen at *; omega
   clear hx hy hcell hcell' hmx hmy hxy hdx
   go_wp2_with fail
   go_region_with (first | (go_at_call 25; refine (HCA.out _ (Below.refl _ _).drew).mono ?_; rintro e w2 ⟨rfl, b2⟩; have HB2 := Lib.hid (HW.out.trans ((Below.drew (Below.refl _ _)).trans b2 |>.mono HW.out.size)); clear b2))
   all_goals
    go_wp2_with fail
    refine ⟨⟨k + 1, by omega, by rw [hwk], HB2⟩, ?_⟩
    rw [hwk]
    simp [intOf]
    omega
  ·have c2 : decide ((k : Int) < (n : Int)) = false := by simp; omega
   obtain rfl : k = n := by omega
   have HF := Lib.hid (show P (.returned (.bool true)) wr by rw [← HP.out]; exact ⟨rfl, HW.out⟩)
   go_wp2_with fail
   exact HF.out
set_option maxHeartbeats 4000000 in
theorem same_q : ∀ N : Nat, SameQ N
 | 0 => fun K K' w x y h => absurd h (by omega)
 | N + 1 => fun K K' w x y h he hm hm' => by
  obtain ⟨op, kind, num, scale, text, qual, a, cap, args⟩ := x
  obtain ⟨op', kind', num', scale', text', qual', a', cap', args'⟩ := y
  simp only [XE.er, Ex.mk.injEq] at he
  obtain ⟨rfl, rfl, rfl, rfl, rfl, rfl, hl⟩ := he
  simp only [XE.er] at h
  rw [depR] at h
  have hd : ∀ x ∈ args, depR x.er < N := fun x hx => by
   have hne : XE.erL args ≠ [] := fun e => by rw [XE.erL_map] at e; rw [List.map_eq_nil_iff.1 e] at hx; cases hx
   have h1 := depL_mx _ hne
   have h2 := mxL_mem (l := XE.erL args) (e := x.er) (by rw [XE.erL_map]; exact List.mem_map_of_mem hx)
   omega
  have m1 : XE.Mem K w (.mk 0 0 0 0 ⟨#[]⟩ ⟨#[]⟩ a cap args) := by unfold XE.Mem at hm ⊢; exact hm
  have m2 : XE.Mem K' w (.mk 0 0 0 0 ⟨#[]⟩ ⟨#[]⟩ a' cap' args') := by unfold XE.Mem at hm' ⊢; exact hm'
  have HS := Lib.hid (fun (wv : World) (hb : Below w.heap.size w wv) => sames_q (same_q N) args args' a a' cap cap' hl hd (m1.below hb) (m2.below hb))
  have hn1 := Bx.new w #[.int .i64 op, .slice a args.length cap, .int .i64 kind, .int .i64 num, .int .i64 scale, .string text, .string qual] 30
  have b1 : Below w.heap.size w (w.alloc (.cells #[.int .i64 op, .slice a args.length cap, .int .i64 kind, .int .i64 num, .int .i64 scale, .string text, .string qual] 30)) := (Below.refl _ _).alloc (Nat.le_refl _) _
  have hs1 : (w.alloc (.cells #[.int .i64 op, .slice a args.length cap, .int .i64 kind, .int .i64 num, .int .i64 scale, .string text, .string qual] 30)).heap.size = w.heap.size + 1 := by simp
  obtain ⟨wa, hwa⟩ : ∃ wa, w.alloc (.cells #[.int .i64 op, .slice a args.length cap, .int .i64 kind, .int .i64 num, .int .i64 scale, .string text, .string qual] 30) = wa := ⟨_, rfl⟩
  rw [hwa] at hn1 b1 hs1
  have hn2 := Bx.new wa #[.int .i64 op, .slice a' args'.length cap', .int .i64 kind, .int .i64 num, .int .i64 scale, .string text, .string qual] 30
  have b2 : Below wa.heap.size wa (wa.alloc (.cells #[.int .i64 op, .slice a' args'.length cap', .int .i64 kind, .int .i64 num, .int .i64 scale, .string text, .string qual] 30)) := (Below.refl _ _).alloc (Nat.le_refl _) _
  have hn3 := hn1.below b2
  have b3 := b1.trans (b2.mono b1.size)
  have HC := Lib.hid (HS.out _ b3)
  have HB3 := Lib.hid b3
  obtain ⟨⟨x0, x1, x2, x3, x4, x5, x6⟩, -⟩ := hn3.seven
  obtain ⟨⟨y0, y1, y2, y3, y4, y5, y6⟩, -⟩ := hn2.seven
  obtain ⟨wb, hwb⟩ : ∃ wb, wa.alloc (.cells #[.int .i64 op, .slice a' args'.length cap', .int .i64 kind, .int .i64 num, .int .i64 scale, .string text, .string qual] 30) = wb := ⟨_, rfl⟩
  rw [hwb] at HC HB3 x0 x1 x2 x3 x4 x5 x6 y0 y1 y2 y3 y4 y5 y6
  clear hs1
  generalize hP : (fun (e : Ending) (w' : World) => e = .returned (.bool true) ∧ Below w.heap.size w w') = P
  have HP := Lib.hid hP
  simp only [XE.val]
  clear hP hn1 hn2 hn3 b1 b2 b3 HS hm hm' m1 m2 hd hl h
  go_enter Tryz.func25, Tryz.ntmps25
  go_wp2_with fail
  try go_at_call 26
  refine HC.out.mono ?_
  rintro e w2 ⟨rfl, bz⟩
  have HF := Lib.hid (show P (.returned (.bool true)) w2 by rw [← HP.out]; exact ⟨rfl, HB3.out.trans (bz.mono HB3.out.size)⟩)
  clear bz
  go_wp2_with fail
  exact HF.out
end Go.Proofs.YtofnkfjhmjecjaaGreatDoor
