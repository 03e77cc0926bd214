/-
  Texts of mine put together, in build order.
  Conditions: as each declaration says.
-/
import Derived.Deep.RegionLaw
import Derived.Test.YtcgpedinhiaegaaGreatDoorZp8
namespace Go.Proofs.YtcgpedinhiaegaaGreatDoor
set_option maxRecDepth 100000
open Go.RowKit Go.Joins Go.ChangeShapes Go.WideShapes
set_option linter.unusedVariables false
set_option linter.unusedSimpArgs false
theorem pcatch_V (g h : Nat) (c : Int) (older : List PanicEntry) (w : World) (x : XSt) (y : Value) (hx : Bx w g x.enc.toArray 34) (hy : w.cell? ⟨h, 0, none⟩ = some y) (fy : w.frozen? ⟨h, 0, none⟩ = false) (hgh : g < h) (hh : h < w.heap.size) :
    CallsD Tryz.prog 29 #[.pointer (some ⟨g, 0, none⟩), .pointer (some ⟨h, 0, none⟩)] (.panicking ({ v := PFlt c, recovered := false } :: older)) w fun e u' w' =>
      e = .returned (.tuple #[]) ∧ u' = .panicking ({ v := PFlt c, recovered := true } :: older) ∧ Bx w' g #[.int .i64 0, .string ⟨#[]⟩, .string ⟨#[]⟩, .slice none 0 0, .slice none 0 0, .bool false, .slice none 0 0, .slice none 0 0, .slice none 0 0, .int .i64 0, .slice none 0 0, .int .i64 0, .int .i64 0, .int .i64 0, .string ⟨#[]⟩, .string ⟨#[]⟩, .slice none 0 0, .slice none 0 0] 34 ∧ w'.cell? ⟨h, 0, none⟩ = some (.int .i64 c) ∧ Below g w w' := by
  obtain ⟨x0, x1, x2, x3, x4, x5, x6, x7, x8, x9, x10, x11⟩ := x
  obtain ⟨e0, e1, e2, e3, e4, e5, e6, e7, e8⟩ := x9
  exact pcatch_panicking g h c older w y hx hy fy hgh hh
theorem tokC_pos {c : Nat} {r l : List Nat} {e : Nat} (h : tokC c r l = .error e) : e ≠ 0 := by
  rw [tokC_eq] at h
  intro he
  subst he
  repeat' split at h
  all_goals first
    | cases h
    | (simp only [Except.error.injEq] at h; omega)
theorem tokL_pos {l : List Nat} {e : Nat} (h : tokL l = .error e) : e ≠ 0 := by
  cases l with
  | nil => cases h; decide
  | cons c r => exact tokC_pos (c := c) (r := r) (l := c :: r) h
theorem lexL_pos : ∀ (N : Nat) (l : List Nat) (e : Nat), l.length ≤ N → lexL l = .error e → e ≠ 0
  | 0, [], e, _, h => by rw [lexL_nil] at h; cases h
  | 0, c :: r, e, hl, h => by simp at hl
  | N + 1, [], e, _, h => by rw [lexL_nil] at h; cases h
  | N + 1, c :: r, e, hl, h => by
    rw [List.length_cons] at hl
    cases hb : blL c with
    | true => rw [lexL_blank c r hb] at h; exact lexL_pos N r e (by omega) h
    | false =>
      cases ht : tokL (c :: r) with
      | error e2 =>
        rw [lexL_err c r hb e2 ht] at h
        injection h with h
        subst h
        exact tokL_pos ht
      | ok p =>
        obtain ⟨t, k⟩ := p
        have hk := tokL_len _ t k ht
        rw [lexL_ok c r hb t k ht] at h
        unfold preT at h
        cases hd : lexL ((c :: r).drop k) with
        | ok ts => rw [hd] at h; cases h
        | error e2 =>
          rw [hd] at h
          injection h with h
          subst h
          exact lexL_pos N _ _ (by rw [List.length_drop, List.length_cons]; omega) hd
theorem toksE_pos {l : List Nat} {c : Nat} (h : toksE l = .error c) : c ≠ 0 := by
  unfold toksE at h
  split at h
  · injection h with h; omega
  · exact lexL_pos _ l c (Nat.le_refl _) h

set_option maxHeartbeats 8000000 in
theorem parse_p (s : ByteArray) (w : World) (hE : ErrR w) (n : Nat) {r : Except Nat Stm} (hr : parseS n s = some r) : Calls Tryz.prog 13 #[.string s] w (ParseE w r) := by
  generalize hP : ParseE w r = P
  have HP := Lib.hid hP
  have b1 : Below w.heap.size w (w.alloc (.cells #[.int .i64 0, .string ⟨#[]⟩, .string ⟨#[]⟩, .slice none 0 0, .slice none 0 0, .bool false, .slice none 0 0, .slice none 0 0, .slice none 0 0, .int .i64 0, .slice none 0 0, .int .i64 0, .int .i64 0, .int .i64 0, .string ⟨#[]⟩, .string ⟨#[]⟩, .slice none 0 0, .slice none 0 0] 34)) := (Below.refl _ _).alloc (Nat.le_refl _) _
  have n1 := Bx.new w #[.int .i64 0, .string ⟨#[]⟩, .string ⟨#[]⟩, .slice none 0 0, .slice none 0 0, .bool false, .slice none 0 0, .slice none 0 0, .slice none 0 0, .int .i64 0, .slice none 0 0, .int .i64 0, .int .i64 0, .int .i64 0, .string ⟨#[]⟩, .string ⟨#[]⟩, .slice none 0 0, .slice none 0 0] 34
  obtain ⟨w1, hw1⟩ : ∃ w1, w.alloc (.cells #[.int .i64 0, .string ⟨#[]⟩, .string ⟨#[]⟩, .slice none 0 0, .slice none 0 0, .bool false, .slice none 0 0, .slice none 0 0, .slice none 0 0, .int .i64 0, .slice none 0 0, .int .i64 0, .int .i64 0, .int .i64 0, .string ⟨#[]⟩, .string ⟨#[]⟩, .slice none 0 0, .slice none 0 0] 34) = w1 := ⟨_, rfl⟩
  have s1 : w1.heap.size = w.heap.size + 1 := by rw [← hw1]; simp
  rw [hw1] at b1 n1
  have b2 : Below w1.heap.size w1 (w1.alloc (.cells #[.int .i64 0] 35)) := (Below.refl _ _).alloc (Nat.le_refl _) _
  have n2 := Bx.new w1 #[.int .i64 0] 35
  obtain ⟨w2, hw2⟩ : ∃ w2, w1.alloc (.cells #[.int .i64 0] 35) = w2 := ⟨_, rfl⟩
  have s2 : w2.heap.size = w1.heap.size + 1 := by rw [← hw2]; simp
  rw [hw2] at b2 n2
  have b02 : Below w.heap.size w w2 := b1.trans (b2.mono (by omega))
  have HT := Lib.hid (tokens_any s w2 (hE.below b02))
  have HBX := Lib.hid (And.intro (n1.below b2) n2)
  have HB := Lib.hid b02
  have HS := Lib.hid (And.intro s1 s2)
  have HCP := Lib.hid @pcatch_panicking
  have HCI := Lib.hid pcatch_idle
  have HMO := Lib.hid pmust_ok
  have HMN := Lib.hid pmust_no
  unfold parseS at hr
  cases ht : toksE (sl s) with
  | error c =>
    rw [ht] at hr HT
    have hrc : r = .error c := by injection hr with hr; exact hr.symm
    subst hrc
    have hc0 : ((c : Int) != 0) = true := by have := toksE_pos ht; simp; omega
    clear hP hr ht b1 n1 s1 b2 n2 s2 b02 hE HCP HCI
    go_enter_defers Tryz.func13, Tryz.ntmps13
    go_wp2_with (first | (go_at_call 28; refine HT.out.mono ?_; rintro e w3 ⟨b3, rfl⟩; have hb3 := HBX.out.1.below b3; have hc3 := HBX.out.2.below b3; have cc := hc3.cell (o := 0) (v := .int .i64 0) rfl; have cf := hc3.frz 0; have hgh : ¬ w.heap.size = w1.heap.size := (by have := HS.out.1; omega); obtain ⟨w4, hw4⟩ : ∃ w4, w3.setCell ⟨w1.heap.size, 0, none⟩ (.int .i64 (c : Int)) = w4 := ⟨_, rfl⟩; have hb4 := hb3.setc hgh 0 (.int .i64 (c : Int)); have hc4 : Bx _ w1.heap.size #[.int .i64 (c : Int)] 35 := box_set hc3 0 (.int .i64 (c : Int)); rw [hw4] at hb4 hc4; have hf4 : Below w.heap.size w w4 := (by rw [← hw4]; exact (HB.out.trans (b3.mono HB.out.size)).setCell (p := ⟨w1.heap.size, 0, none⟩) (by show w.heap.size ≤ w1.heap.size; have := HS.out.1; omega) _); have c4 := hc4.cell (o := 0) (v := .int .i64 (c : Int)) rfl; have e4 := hc4.frz 0; have H4 := Lib.hid (And.intro hb4 (And.intro hc4 hf4)); clear b3 hb3 hc3 hb4 hc4 hf4))
    have hb5 : Bx w4.drew w.heap.size #[.int .i64 0, .string ⟨#[]⟩, .string ⟨#[]⟩, .slice none 0 0, .slice none 0 0, .bool false, .slice none 0 0, .slice none 0 0, .slice none 0 0, .int .i64 0, .slice none 0 0, .int .i64 0, .int .i64 0, .int .i64 0, .string ⟨#[]⟩, .string ⟨#[]⟩, .slice none 0 0, .slice none 0 0] 34 := H4.out.1.below (Below.refl _ _).drew
    have hc5 : Bx w4.drew w1.heap.size #[.int .i64 (c : Int)] 35 := H4.out.2.1.below (Below.refl _ _).drew
    have hf5 : Below w.heap.size w w4.drew := H4.out.2.2.drew
    obtain ⟨wz, hst, fz, bz⟩ := st_V hb5 rfl ({ kind := 0 } : XSt)
    have HST := Lib.hid (show (Instr.storeAt 34 (.pointer (some ⟨w.heap.size, 0, none⟩)) (.agg #[.int .i64 0, .string ⟨#[]⟩, .string ⟨#[]⟩, .slice none 0 0, .slice none 0 0, .bool false, .slice none 0 0, .slice none 0 0, .slice none 0 0, .int .i64 0, .slice none 0 0, .int .i64 0, .int .i64 0, .int .i64 0, .string ⟨#[]⟩, .string ⟨#[]⟩, .slice none 0 0, .slice none 0 0])).run Tryz.prog w4.drew = .ok () wz from hst)
    have bz2 : Bx wz w.heap.size #[.int .i64 0, .string ⟨#[]⟩, .string ⟨#[]⟩, .slice none 0 0, .slice none 0 0, .bool false, .slice none 0 0, .slice none 0 0, .slice none 0 0, .int .i64 0, .slice none 0 0, .int .i64 0, .int .i64 0, .int .i64 0, .string ⟨#[]⟩, .string ⟨#[]⟩, .slice none 0 0, .slice none 0 0] 34 := bz
    have hcz := hc5.frm fz (fun e => hgh e.symm)
    have k1 := hcz.cell (o := 0) (v := .int .i64 (c : Int)) rfl
    have k2 := hcz.frz 0
    have k3 := hc5.cell (o := 0) (v := .int .i64 (c : Int)) rfl
    have HEND := Lib.hid (show Bx (wz.setCell ⟨w1.heap.size, 0, none⟩ (.int .i64 (c : Int))) w.heap.size #[.int .i64 0, .string ⟨#[]⟩, .string ⟨#[]⟩, .slice none 0 0, .slice none 0 0, .bool false, .slice none 0 0, .slice none 0 0, .slice none 0 0, .int .i64 0, .slice none 0 0, .int .i64 0, .int .i64 0, .int .i64 0, .string ⟨#[]⟩, .string ⟨#[]⟩, .slice none 0 0, .slice none 0 0] 34 ∧ (wz.setCell ⟨w1.heap.size, 0, none⟩ (.int .i64 (c : Int))).cell? ⟨w1.heap.size, 0, none⟩ = some (.int .i64 (c : Int)) ∧ Below w.heap.size w (wz.setCell ⟨w1.heap.size, 0, none⟩ (.int .i64 (c : Int))) from by
      refine ⟨bz2.setc hgh 0 _, World.cell?_setCell_same _ _ _ k1, ?_⟩
      have f1 : Frm (fun k => w.heap.size ≤ k) w w4.drew := (Frm.of_below hf5)
      have f2 : Frm (fun k => w.heap.size ≤ k) w wz := f1.trans fz (fun k hk => .inl (Nat.le_of_eq hk.symm))
      exact (f2.setCell (.inl (by have := HS.out.1; omega)) 0 (.int .i64 (c : Int))).below (fun k hk => hk) (Nat.le_refl _))
    clear hst fz bz bz2 hcz hb5 hc5 hf5
    go_wp2_with fail
    refine wp_region_any (by kernel_rfl) ?_
    try (change wpAny _ _ _ _ _ _ _ (World.drew _))
    refine wpAny_ready (rs := [0, 1]) (by kernel_rfl) (by simp) ?_
    refine AllReady.cons rfl (fun K hK => ?_) (AllReady.cons rfl (fun K hK => ?_) AllReady.nil)
    · go_simp
      refine hK _ _ ?_
      clear hK K
      refine wpAny_ready (rs := [1, 2]) (by kernel_rfl) (by simp) ?_
      refine AllReady.cons rfl (fun K hK => ?_) (AllReady.cons rfl (fun K hK => ?_) AllReady.nil)
      · go_simp
        refine hK _ _ ?_
        clear hK K
        refine wpAny_ready (rs := [2]) (by kernel_rfl) (by simp) ?_
        refine AllReady.cons rfl (fun K hK => ?_) AllReady.nil
        refine step_st rfl _ _ rfl rfl rfl HST.out ?_
        try go_simp
        refine hK _ _ ?_
        clear hK K
        refine wpAny_ready (rs := [3]) (by kernel_rfl) (by simp) ?_
        refine AllReady.cons rfl (fun K hK => ?_) AllReady.nil
        go_simp
        refine hK _ _ ?_
        clear hK K
        refine wpAny_done (by kernel_rfl) ?_ _
        go_wp2_with fail
        change Leaves _ _ _ P _ _ _
        exact ⟨_, presults Tryz.results13 HEND.out.1 HEND.out.2.1 rfl rfl, by rw [← HP.out]; exact ⟨HEND.out.2.2, rfl⟩⟩
      · refine step_st rfl _ _ rfl rfl rfl HST.out ?_
        try go_simp
        refine hK _ _ ?_
        clear hK K
        refine wpAny_ready (rs := [1]) (by kernel_rfl) (by simp) ?_
        refine AllReady.cons rfl (fun K hK => ?_) AllReady.nil
        go_simp
        refine hK _ _ ?_
        clear hK K
        refine wpAny_ready (rs := [3]) (by kernel_rfl) (by simp) ?_
        refine AllReady.cons rfl (fun K hK => ?_) AllReady.nil
        go_simp
        refine hK _ _ ?_
        clear hK K
        refine wpAny_done (by kernel_rfl) ?_ _
        go_wp2_with fail
        change Leaves _ _ _ P _ _ _
        exact ⟨_, presults Tryz.results13 HEND.out.1 HEND.out.2.1 rfl rfl, by rw [← HP.out]; exact ⟨HEND.out.2.2, rfl⟩⟩
    · go_simp
      refine hK _ _ ?_
      clear hK K
      refine wpAny_ready (rs := [0]) (by kernel_rfl) (by simp) ?_
      refine AllReady.cons rfl (fun K hK => ?_) AllReady.nil
      go_simp
      refine hK _ _ ?_
      clear hK K
      refine wpAny_ready (rs := [2]) (by kernel_rfl) (by simp) ?_
      refine AllReady.cons rfl (fun K hK => ?_) AllReady.nil
      refine step_st rfl _ _ rfl rfl rfl HST.out ?_
      try go_simp
      refine hK _ _ ?_
      clear hK K
      refine wpAny_ready (rs := [3]) (by kernel_rfl) (by simp) ?_
      refine AllReady.cons rfl (fun K hK => ?_) AllReady.nil
      go_simp
      refine hK _ _ ?_
      clear hK K
      refine wpAny_done (by kernel_rfl) ?_ _
      go_wp2_with fail
      change Leaves _ _ _ P _ _ _
      exact ⟨_, presults Tryz.results13 HEND.out.1 HEND.out.2.1 rfl rfl, by rw [← HP.out]; exact ⟨HEND.out.2.2, rfl⟩⟩
  | ok ts =>
    rw [ht] at hr HT
    obtain ⟨tr1, tr2, -, -⟩ := toks_right (sl_lt s) ht
    unfold parseP at hr
    dsimp only at hr
    have HTR := Lib.hid (And.intro tr1 tr2)
    clear tr1 tr2
    cases h1 : stmtP isN n ⟨ts, 0, 0⟩ with
    | none => rw [h1] at hr; cases hr
    | some r1 =>
      rw [h1] at hr
      have HST0 := Lib.hid (fun (w5 : World) (pb : Nat) (hp : PsM w5 pb ⟨ts, 0, 0⟩) => statement_p n pb w5 ⟨ts, 0, 0⟩ r1 hp h1)
      clear hP ht h1 b1 n1 s1 b2 n2 s2 b02 hE
      match r1, hr, HST0 with
      | .error c, hr, HST0 =>
        have hrc : r = .error c := by injection hr with hr; exact hr.symm
        subst hrc
        clear hr
        go_enter_defers Tryz.func13, Tryz.ntmps13
        go_wp2_with (first | (go_at_call 28; refine HT.out.mono ?_; rintro e w3 ⟨b3, v3, rfl, o3⟩; obtain ⟨va, vc, rfl, -⟩ := o3.form; have hb3 := HBX.out.1.below b3; have hc3 := HBX.out.2.below b3; have cc := hc3.cell (o := 0) (v := .int .i64 0) rfl; have cf := hc3.frz 0; have hgh : ¬ w.heap.size = w1.heap.size := (by have := HS.out.1; omega); obtain ⟨w4, hw4⟩ : ∃ w4, w3.setCell ⟨w1.heap.size, 0, none⟩ (.int .i64 0) = w4 := ⟨_, rfl⟩; have hb4 := hb3.setc hgh 0 (.int .i64 0); have hc4 : Bx _ w1.heap.size #[.int .i64 0] 35 := box_set hc3 0 (.int .i64 0); have fr4 : Frm (fun k => k < w2.heap.size) w3 w4 := (by rw [← hw4]; exact Frm.set1 (F := fun k => k < w2.heap.size) w3 (show w1.heap.size < w2.heap.size by have := HS.out.2; omega) 0 _); have sz4 : w4.heap.size = w3.heap.size := (by rw [← hw4]; simp [World.setCell]); rw [hw4] at hb4 hc4; have hf4 : Below w.heap.size w w4 := (by rw [← hw4]; exact (HB.out.trans (b3.mono HB.out.size)).setCell (p := ⟨w1.heap.size, 0, none⟩) (by show w.heap.size ≤ w1.heap.size; have := HS.out.1; omega) _); have c4 := hc4.cell (o := 0) (v := .int .i64 0) rfl; have e4 := hc4.frz 0; have ps5 := PsM.made o3 HTR.out.1 HTR.out.2 fr4 sz4; have bb5 : Below w4.heap.size w4 (w4.alloc (.cells #[.slice va ts.length vc, .int .i64 0, .int .i64 0] 73)) := (Below.refl _ _).alloc (Nat.le_refl _) _; obtain ⟨w5, hw5⟩ : ∃ w5, w4.alloc (.cells #[.slice va ts.length vc, .int .i64 0, .int .i64 0] 73) = w5 := ⟨_, rfl⟩; rw [hw5] at ps5 bb5; have g6 : ¬ w.heap.size = w4.heap.size := (by have := hb4.lt; omega); have h6 : ¬ w1.heap.size = w4.heap.size := (by have := hc4.lt; omega); have SZ4 := Lib.hid sz4; have hlt5 : w.heap.size ≤ w4.heap.size := Nat.le_of_lt hb4.lt; have H5 := Lib.hid (And.intro ps5 (And.intro (hb4.below bb5) (And.intro (hc4.below bb5) (hf4.trans (bb5.mono hlt5))))); clear b3 o3 hb3 hc3 hb4 hc4 hf4 fr4 ps5 bb5 sz4) | (go_at_call 30; refine (HST0.out w5 w4.heap.size H5.out.1).mono ?_; rintro e w6 ⟨f6, rfl⟩; have F6 := Lib.hid f6; clear f6; have hb6 := H5.out.2.1.frm F6.out g6; have hc6 := H5.out.2.2.1.frm F6.out h6; change Leaves _ _ _ P _ _ _; refine leaves_cons (f := 29) (args := #[.pointer (some ⟨w.heap.size, 0, none⟩), .pointer (some ⟨w1.heap.size, 0, none⟩)]) (by simp) (by simp [go_sem]) ?_; refine (HCP.out w.heap.size w1.heap.size (c : Int) [] w6 _ hb6 (hc6.cell rfl) (hc6.frz 0) (by have := HS.out.1; omega) hc6.lt).mono ?_; rintro e u' w7 ⟨rfl, rfl, q1, q2, q3⟩; have hfin : P (.returned (.tuple #[.agg #[.int .i64 0, .string ⟨#[]⟩, .string ⟨#[]⟩, .slice none 0 0, .slice none 0 0, .bool false, .slice none 0 0, .slice none 0 0, .slice none 0 0, .int .i64 0, .slice none 0 0, .int .i64 0, .int .i64 0, .int .i64 0, .string ⟨#[]⟩, .string ⟨#[]⟩, .slice none 0 0, .slice none 0 0], .int .i64 (c : Int)])) w7 := (by rw [← HP.out]; exact ⟨(H5.out.2.2.2.trans (F6.out.below (fun k hk => by have : k = w4.heap.size := hk; omega) H5.out.2.2.2.size)).trans q3, rfl⟩); exact ⟨_, presults Tryz.results13 q1 q2 rfl rfl, hfin⟩))
      | .ok (st, s'), hr, HST0 =>
        obtain ⟨m, hm⟩ : ∃ m, s'.rest.length = m := ⟨_, rfl⟩
        obtain ⟨d, hd⟩ : ∃ d, s'.deep = d := ⟨_, rfl⟩
        have HM := Lib.hid (And.intro hm hd)
        have hr2 : (if m = 0 then if d ≤ 40 then some (Except.ok st) else some (Except.error 5) else some (Except.error 130)) = some r := by
          rw [← hr]
          dsimp only
          by_cases e : s'.rest = []
          · rw [if_pos e, if_pos (by rw [← hm, e]; rfl), ← hd]
          · rw [if_neg e, if_neg (fun h => e (List.eq_nil_of_length_eq_zero (hm.trans h)))]
        have HB7 := Lib.hid (fun (w5 w6 w7 : World) (p : Nat) (b5 : Below w.heap.size w w5) (hp : w.heap.size ≤ p) (f6 : Frm (PF p) w5 w6) (fz : Frm (fun k => k = w.heap.size) w6 w7) => show Below w.heap.size w w7 from
          ((((Frm.of_below (F := fun k => w.heap.size ≤ k) b5).trans f6 (fun k hk => .inl (by have : k = p := hk; omega))).trans fz (fun k hk => .inl (Nat.le_of_eq hk.symm))).below (fun k hk => hk) (Nat.le_refl _)))
        clear hm hd hr
        by_cases c0 : m = 0
        · rw [if_pos c0] at hr2
          subst c0
          have HMO1 := Lib.hid (fun w => pmust_ok 130 w)
          by_cases c40 : d ≤ 40
          · rw [if_pos c40] at hr2
            have hrc : r = .ok st := by injection hr2 with hr2; exact hr2.symm
            subst hrc
            have c41 : ((d : Int) ≤ 40) := by omega
            have HMO2 := Lib.hid (fun w => pmust_ok 5 w)
            clear hr2
            go_enter_defers Tryz.func13, Tryz.ntmps13
            go_wp2_with (first | (go_at_call 28; refine HT.out.mono ?_; rintro e w3 ⟨b3, v3, rfl, o3⟩; obtain ⟨va, vc, rfl, -⟩ := o3.form; have hb3 := HBX.out.1.below b3; have hc3 := HBX.out.2.below b3; have cc := hc3.cell (o := 0) (v := .int .i64 0) rfl; have cf := hc3.frz 0; have hgh : ¬ w.heap.size = w1.heap.size := (by have := HS.out.1; omega); obtain ⟨w4, hw4⟩ : ∃ w4, w3.setCell ⟨w1.heap.size, 0, none⟩ (.int .i64 0) = w4 := ⟨_, rfl⟩; have hb4 := hb3.setc hgh 0 (.int .i64 0); have hc4 : Bx _ w1.heap.size #[.int .i64 0] 35 := box_set hc3 0 (.int .i64 0); have fr4 : Frm (fun k => k < w2.heap.size) w3 w4 := (by rw [← hw4]; exact Frm.set1 (F := fun k => k < w2.heap.size) w3 (show w1.heap.size < w2.heap.size by have := HS.out.2; omega) 0 _); have sz4 : w4.heap.size = w3.heap.size := (by rw [← hw4]; simp [World.setCell]); rw [hw4] at hb4 hc4; have hf4 : Below w.heap.size w w4 := (by rw [← hw4]; exact (HB.out.trans (b3.mono HB.out.size)).setCell (p := ⟨w1.heap.size, 0, none⟩) (by show w.heap.size ≤ w1.heap.size; have := HS.out.1; omega) _); have c4 := hc4.cell (o := 0) (v := .int .i64 0) rfl; have e4 := hc4.frz 0; have ps5 := PsM.made o3 HTR.out.1 HTR.out.2 fr4 sz4; have bb5 : Below w4.heap.size w4 (w4.alloc (.cells #[.slice va ts.length vc, .int .i64 0, .int .i64 0] 73)) := (Below.refl _ _).alloc (Nat.le_refl _) _; obtain ⟨w5, hw5⟩ : ∃ w5, w4.alloc (.cells #[.slice va ts.length vc, .int .i64 0, .int .i64 0] 73) = w5 := ⟨_, rfl⟩; rw [hw5] at ps5 bb5; have g6 : ¬ w.heap.size = w4.heap.size := (by have := hb4.lt; omega); have h6 : ¬ w1.heap.size = w4.heap.size := (by have := hc4.lt; omega); have SZ4 := Lib.hid sz4; have hlt5 : w.heap.size ≤ w4.heap.size := Nat.le_of_lt hb4.lt; have H5 := Lib.hid (And.intro ps5 (And.intro (hb4.below bb5) (And.intro (hc4.below bb5) (hf4.trans (bb5.mono hlt5))))); clear b3 o3 hb3 hc3 hb4 hc4 hf4 fr4 ps5 bb5 sz4) | (go_at_call 30; refine (HST0.out w5 w4.heap.size H5.out.1).mono ?_; rintro e w6 ⟨f6, v6, rfl, ⟨x, rfl, hxe, mx⟩, p6⟩; have hb6 := H5.out.2.1.frm f6 g6; have hc6 := H5.out.2.2.1.frm f6 h6; obtain ⟨w7, hst7, fz7, bz7⟩ := st_V hb6 rfl x; have HST1 := Lib.hid hst7; obtain ⟨ra, rc, hh6, -⟩ := p6.hd; have hp7 := Bx.frm (w := w6) hh6 fz7 (fun e => g6 e.symm); have k0 := hp7.cell (o := 0) rfl; have k2 := hp7.cell (o := 2) rfl; rw [HM.out.1] at k0; rw [HM.out.2] at k2; have hc7 := hc6.frm fz7 (fun e => hgh e.symm); have H7 := Lib.hid (And.intro bz7 (And.intro hc7 (And.intro fz7 (And.intro f6 (And.intro mx hxe))))); have HLV := Lib.hid (ld_V bz7); obtain ⟨w8, hst8, fz8, bz8⟩ := st_V bz7 (by unfold XSt.enc; simp [XE.enc_len]) x; have hc8 := hc7.frm fz8 (fun e => hgh e.symm); have HST2 := Lib.hid hst8; have j0 := hc8.cell (o := 0) rfl; have j1 := hc8.frz 0; have H8 := Lib.hid (And.intro bz8 (And.intro hc8 fz8)); clear hst8 fz8 bz8 hc8; clear hb6 hc6 hst7 fz7 bz7 hh6 hp7 hc7 f6 mx hxe p6) | (refine wpSt rfl _ _ rfl rfl rfl HST1.out ?_; clear HST1) | (go_at_call 31; refine (HMO1.out _).mono ?_; rintro e wx ⟨rfl, rfl⟩; clear HMO1) | (go_at_call 31; refine (HMO2.out _).mono ?_; rintro e wx ⟨rfl, rfl⟩; clear HMO2) | (refine wpLd rfl _ rfl rfl HLV.out ?_; clear HLV) | (refine wpSt rfl _ _ rfl rfl rfl HST2.out ?_; clear HST2))
            have hbz := H8.out.1.setc hgh 0 (.int .i64 0)
            have hcz : (w8.setCell ⟨w1.heap.size, 0, none⟩ (.int .i64 0)).cell? ⟨w1.heap.size, 0, none⟩ = some (.int .i64 0) := World.cell?_setCell_same _ _ _ (H8.out.2.1.cell (o := 0) rfl)
            have hgw : w.heap.size ≤ w1.heap.size := by have := HS.out.1; omega
            have h15 : w1.heap.size < w5.heap.size := H5.out.2.2.1.lt
            have hbel : Below w.heap.size w (w8.setCell ⟨w1.heap.size, 0, none⟩ (.int .i64 0)) := by
              have f7 := HB7.out w5 w6 w7 w4.heap.size H5.out.2.2.2 hlt5 H7.out.2.2.2.1 H7.out.2.2.1
              exact (((Frm.of_below (F := fun k => w.heap.size ≤ k) f7).trans H8.out.2.2 (fun k hk => .inl (Nat.le_of_eq hk.symm))).setCell (.inl hgw) 0 (.int .i64 0)).below (fun k hk => hk) (Nat.le_refl _)
            have hmem : XSt.Mem (GE w.heap.size) (w8.setCell ⟨w1.heap.size, 0, none⟩ (.int .i64 0)) x := by
              have m6 : XSt.Mem (GE w5.heap.size) w6 x := H7.out.2.2.2.2.1
              have m7 := XSt.Mem.frm H7.out.2.2.1 (fun k hk e => by have : w5.heap.size ≤ k := hk; omega) m6
              have m8 := XSt.Mem.frm H8.out.2.2 (fun k hk e => by have : w5.heap.size ≤ k := hk; omega) m7
              have m9 := XSt.Mem.frm (Frm.set1 (F := fun k => k = w1.heap.size) w8 rfl 0 (.int .i64 0)) (fun k hk e => by have : w5.heap.size ≤ k := hk; omega) m8
              exact XSt.Mem.mono (fun k hk => by have : w5.heap.size ≤ k := hk; show _ ≤ _; omega) m9
            have hfin : P (.returned (.tuple #[x.val, .int .i64 0])) (w8.setCell ⟨w1.heap.size, 0, none⟩ (.int .i64 0)) := by
              rw [← HP.out]
              exact ⟨hbel, x, rfl, H7.out.2.2.2.2.2, hmem⟩
            change Leaves _ _ _ P _ _ _
            refine leaves_cons (f := 29) (args := #[.pointer (some ⟨w.heap.size, 0, none⟩), .pointer (some ⟨w1.heap.size, 0, none⟩)]) (by simp) (by simp [go_sem]) ?_
            refine (HCI.out _ _ _).mono ?_
            rintro e u' w'' ⟨rfl, rfl, rfl⟩
            exact ⟨_, pres_V Tryz.results13 hbz hcz rfl rfl, hfin⟩
          · rw [if_neg c40] at hr2
            have hrc : r = .error 5 := by injection hr2 with hr2; exact hr2.symm
            subst hrc
            have c41 : decide ((d : Int) ≤ 40) = false := by simp; omega
            clear hr2
            go_enter_defers Tryz.func13, Tryz.ntmps13
            go_wp2_with (first | (go_at_call 28; refine HT.out.mono ?_; rintro e w3 ⟨b3, v3, rfl, o3⟩; obtain ⟨va, vc, rfl, -⟩ := o3.form; have hb3 := HBX.out.1.below b3; have hc3 := HBX.out.2.below b3; have cc := hc3.cell (o := 0) (v := .int .i64 0) rfl; have cf := hc3.frz 0; have hgh : ¬ w.heap.size = w1.heap.size := (by have := HS.out.1; omega); obtain ⟨w4, hw4⟩ : ∃ w4, w3.setCell ⟨w1.heap.size, 0, none⟩ (.int .i64 0) = w4 := ⟨_, rfl⟩; have hb4 := hb3.setc hgh 0 (.int .i64 0); have hc4 : Bx _ w1.heap.size #[.int .i64 0] 35 := box_set hc3 0 (.int .i64 0); have fr4 : Frm (fun k => k < w2.heap.size) w3 w4 := (by rw [← hw4]; exact Frm.set1 (F := fun k => k < w2.heap.size) w3 (show w1.heap.size < w2.heap.size by have := HS.out.2; omega) 0 _); have sz4 : w4.heap.size = w3.heap.size := (by rw [← hw4]; simp [World.setCell]); rw [hw4] at hb4 hc4; have hf4 : Below w.heap.size w w4 := (by rw [← hw4]; exact (HB.out.trans (b3.mono HB.out.size)).setCell (p := ⟨w1.heap.size, 0, none⟩) (by show w.heap.size ≤ w1.heap.size; have := HS.out.1; omega) _); have c4 := hc4.cell (o := 0) (v := .int .i64 0) rfl; have e4 := hc4.frz 0; have ps5 := PsM.made o3 HTR.out.1 HTR.out.2 fr4 sz4; have bb5 : Below w4.heap.size w4 (w4.alloc (.cells #[.slice va ts.length vc, .int .i64 0, .int .i64 0] 73)) := (Below.refl _ _).alloc (Nat.le_refl _) _; obtain ⟨w5, hw5⟩ : ∃ w5, w4.alloc (.cells #[.slice va ts.length vc, .int .i64 0, .int .i64 0] 73) = w5 := ⟨_, rfl⟩; rw [hw5] at ps5 bb5; have g6 : ¬ w.heap.size = w4.heap.size := (by have := hb4.lt; omega); have h6 : ¬ w1.heap.size = w4.heap.size := (by have := hc4.lt; omega); have SZ4 := Lib.hid sz4; have hlt5 : w.heap.size ≤ w4.heap.size := Nat.le_of_lt hb4.lt; have H5 := Lib.hid (And.intro ps5 (And.intro (hb4.below bb5) (And.intro (hc4.below bb5) (hf4.trans (bb5.mono hlt5))))); clear b3 o3 hb3 hc3 hb4 hc4 hf4 fr4 ps5 bb5 sz4) | (go_at_call 30; refine (HST0.out w5 w4.heap.size H5.out.1).mono ?_; rintro e w6 ⟨f6, v6, rfl, ⟨x, rfl, hxe, mx⟩, p6⟩; have hb6 := H5.out.2.1.frm f6 g6; have hc6 := H5.out.2.2.1.frm f6 h6; obtain ⟨w7, hst7, fz7, bz7⟩ := st_V hb6 rfl x; have HST1 := Lib.hid hst7; obtain ⟨ra, rc, hh6, -⟩ := p6.hd; have hp7 := Bx.frm (w := w6) hh6 fz7 (fun e => g6 e.symm); have k0 := hp7.cell (o := 0) rfl; have k2 := hp7.cell (o := 2) rfl; rw [HM.out.1] at k0; rw [HM.out.2] at k2; have hc7 := hc6.frm fz7 (fun e => hgh e.symm); have H7 := Lib.hid (And.intro bz7 (And.intro hc7 (And.intro fz7 (And.intro f6 (And.intro mx hxe))))); clear hb6 hc6 hst7 fz7 bz7 hh6 hp7 hc7 f6 mx hxe p6) | (refine wpSt rfl _ _ rfl rfl rfl HST1.out ?_; clear HST1) | (go_at_call 31; refine (HMO1.out _).mono ?_; rintro e wx ⟨rfl, rfl⟩; clear HMO1) | (go_at_call 31; refine (HMN.out _ _).mono ?_; rintro e wx ⟨rfl, rfl⟩; change Leaves _ _ _ P _ _ _; refine leaves_cons (f := 29) (args := #[.pointer (some ⟨w.heap.size, 0, none⟩), .pointer (some ⟨w1.heap.size, 0, none⟩)]) (by simp) (by simp [go_sem]) ?_; refine (pcatch_V w.heap.size w1.heap.size 5 [] w7 x _ H7.out.1 (H7.out.2.1.cell rfl) (H7.out.2.1.frz 0) (by have := HS.out.1; omega) H7.out.2.1.lt).mono ?_; rintro e u' w9 ⟨rfl, rfl, q1, q2, q3⟩; have hfin : P (.returned (.tuple #[.agg #[.int .i64 0, .string ⟨#[]⟩, .string ⟨#[]⟩, .slice none 0 0, .slice none 0 0, .bool false, .slice none 0 0, .slice none 0 0, .slice none 0 0, .int .i64 0, .slice none 0 0, .int .i64 0, .int .i64 0, .int .i64 0, .string ⟨#[]⟩, .string ⟨#[]⟩, .slice none 0 0, .slice none 0 0], .int .i64 5])) w9 := (by rw [← HP.out]; exact ⟨(HB7.out w5 w6 w7 w4.heap.size H5.out.2.2.2 hlt5 H7.out.2.2.2.1 H7.out.2.2.1).trans q3, rfl⟩); exact ⟨_, presults Tryz.results13 q1 q2 rfl rfl, hfin⟩))
        · rw [if_neg c0] at hr2
          have hrc : r = .error 130 := by injection hr2 with hr2; exact hr2.symm
          subst hrc
          have c01 : ((m : Int) == 0) = false := by simp; omega
          clear hr2
          go_enter_defers Tryz.func13, Tryz.ntmps13
          go_wp2_with (first | (go_at_call 28; refine HT.out.mono ?_; rintro e w3 ⟨b3, v3, rfl, o3⟩; obtain ⟨va, vc, rfl, -⟩ := o3.form; have hb3 := HBX.out.1.below b3; have hc3 := HBX.out.2.below b3; have cc := hc3.cell (o := 0) (v := .int .i64 0) rfl; have cf := hc3.frz 0; have hgh : ¬ w.heap.size = w1.heap.size := (by have := HS.out.1; omega); obtain ⟨w4, hw4⟩ : ∃ w4, w3.setCell ⟨w1.heap.size, 0, none⟩ (.int .i64 0) = w4 := ⟨_, rfl⟩; have hb4 := hb3.setc hgh 0 (.int .i64 0); have hc4 : Bx _ w1.heap.size #[.int .i64 0] 35 := box_set hc3 0 (.int .i64 0); have fr4 : Frm (fun k => k < w2.heap.size) w3 w4 := (by rw [← hw4]; exact Frm.set1 (F := fun k => k < w2.heap.size) w3 (show w1.heap.size < w2.heap.size by have := HS.out.2; omega) 0 _); have sz4 : w4.heap.size = w3.heap.size := (by rw [← hw4]; simp [World.setCell]); rw [hw4] at hb4 hc4; have hf4 : Below w.heap.size w w4 := (by rw [← hw4]; exact (HB.out.trans (b3.mono HB.out.size)).setCell (p := ⟨w1.heap.size, 0, none⟩) (by show w.heap.size ≤ w1.heap.size; have := HS.out.1; omega) _); have c4 := hc4.cell (o := 0) (v := .int .i64 0) rfl; have e4 := hc4.frz 0; have ps5 := PsM.made o3 HTR.out.1 HTR.out.2 fr4 sz4; have bb5 : Below w4.heap.size w4 (w4.alloc (.cells #[.slice va ts.length vc, .int .i64 0, .int .i64 0] 73)) := (Below.refl _ _).alloc (Nat.le_refl _) _; obtain ⟨w5, hw5⟩ : ∃ w5, w4.alloc (.cells #[.slice va ts.length vc, .int .i64 0, .int .i64 0] 73) = w5 := ⟨_, rfl⟩; rw [hw5] at ps5 bb5; have g6 : ¬ w.heap.size = w4.heap.size := (by have := hb4.lt; omega); have h6 : ¬ w1.heap.size = w4.heap.size := (by have := hc4.lt; omega); have SZ4 := Lib.hid sz4; have hlt5 : w.heap.size ≤ w4.heap.size := Nat.le_of_lt hb4.lt; have H5 := Lib.hid (And.intro ps5 (And.intro (hb4.below bb5) (And.intro (hc4.below bb5) (hf4.trans (bb5.mono hlt5))))); clear b3 o3 hb3 hc3 hb4 hc4 hf4 fr4 ps5 bb5 sz4) | (go_at_call 30; refine (HST0.out w5 w4.heap.size H5.out.1).mono ?_; rintro e w6 ⟨f6, v6, rfl, ⟨x, rfl, hxe, mx⟩, p6⟩; have hb6 := H5.out.2.1.frm f6 g6; have hc6 := H5.out.2.2.1.frm f6 h6; obtain ⟨w7, hst7, fz7, bz7⟩ := st_V hb6 rfl x; have HST1 := Lib.hid hst7; obtain ⟨ra, rc, hh6, -⟩ := p6.hd; have hp7 := Bx.frm (w := w6) hh6 fz7 (fun e => g6 e.symm); have k0 := hp7.cell (o := 0) rfl; have k2 := hp7.cell (o := 2) rfl; rw [HM.out.1] at k0; rw [HM.out.2] at k2; have hc7 := hc6.frm fz7 (fun e => hgh e.symm); have H7 := Lib.hid (And.intro bz7 (And.intro hc7 (And.intro fz7 (And.intro f6 (And.intro mx hxe))))); clear hb6 hc6 hst7 fz7 bz7 hh6 hp7 hc7 f6 mx hxe p6) | (refine wpSt rfl _ _ rfl rfl rfl HST1.out ?_; clear HST1) | (go_at_call 31; refine (HMN.out _ _).mono ?_; rintro e wx ⟨rfl, rfl⟩; change Leaves _ _ _ P _ _ _; refine leaves_cons (f := 29) (args := #[.pointer (some ⟨w.heap.size, 0, none⟩), .pointer (some ⟨w1.heap.size, 0, none⟩)]) (by simp) (by simp [go_sem]) ?_; refine (pcatch_V w.heap.size w1.heap.size 130 [] w7 x _ H7.out.1 (H7.out.2.1.cell rfl) (H7.out.2.1.frz 0) (by have := HS.out.1; omega) H7.out.2.1.lt).mono ?_; rintro e u' w9 ⟨rfl, rfl, q1, q2, q3⟩; have hfin : P (.returned (.tuple #[.agg #[.int .i64 0, .string ⟨#[]⟩, .string ⟨#[]⟩, .slice none 0 0, .slice none 0 0, .bool false, .slice none 0 0, .slice none 0 0, .slice none 0 0, .int .i64 0, .slice none 0 0, .int .i64 0, .int .i64 0, .int .i64 0, .string ⟨#[]⟩, .string ⟨#[]⟩, .slice none 0 0, .slice none 0 0], .int .i64 130])) w9 := (by rw [← HP.out]; exact ⟨(HB7.out w5 w6 w7 w4.heap.size H5.out.2.2.2 hlt5 H7.out.2.2.2.1 H7.out.2.2.1).trans q3, rfl⟩); exact ⟨_, presults Tryz.results13 q1 q2 rfl rfl, hfin⟩))

end Go.Proofs.YtcgpedinhiaegaaGreatDoor
