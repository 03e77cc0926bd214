/-
  Texts of mine put together, in build order.
  Conditions: as each declaration says.
-/
import Derived.Deep.RegionLaw
import Derived.Deep.QuietTactic
import Derived.Deep.RegionHeld3
import Derived.Test.YtkffomfbnbcgaaaGreatDoorZp8
namespace Go.Proofs.YtkffomfbnbcgaaaGreatDoor
set_option maxRecDepth 100000
open Go.RowKit Go.Joins Go.ChangeShapes Go.WideShapes
set_option linter.unusedVariables false
set_option linter.unusedSimpArgs false
theorem pcatch_V (g h : Nat) (c : Int) (older : List PanicEntry) (w : World) (x : XSt) (y : Value) (hx : Bx w g x.enc.toArray 34) (hy : w.cell? ⟨h, 0, none⟩ = some y) (fy : w.frozen? ⟨h, 0, none⟩ = false) (hgh : g < h) (hh : h < w.heap.size) :
    CallsD Tryz.prog 29 #[.pointer (some ⟨g, 0, none⟩), .pointer (some ⟨h, 0, none⟩)] (.panicking ({ v := PFlt c, recovered := false } :: older)) w fun e u' w' =>
      e = .returned (.tuple #[]) ∧ u' = .panicking ({ v := PFlt c, recovered := true } :: older) ∧ Bx w' g #[.int .i64 0, .string ⟨#[]⟩, .string ⟨#[]⟩, .slice none 0 0, .slice none 0 0, .bool false, .slice none 0 0, .slice none 0 0, .slice none 0 0, .int .i64 0, .slice none 0 0, .int .i64 0, .int .i64 0, .int .i64 0, .string ⟨#[]⟩, .string ⟨#[]⟩, .slice none 0 0, .slice none 0 0] 34 ∧ w'.cell? ⟨h, 0, none⟩ = some (.int .i64 c) ∧ Below g w w' := by
  obtain ⟨x0, x1, x2, x3, x4, x5, x6, x7, x8, x9, x10, x11⟩ := x
  obtain ⟨e0, e1, e2, e3, e4, e5, e6, e7, e8⟩ := x9
  exact pcatch_panicking g h c older w y hx hy fy hgh hh
theorem tokC_pos {c : Nat} {r l : List Nat} {e : Nat} (h : tokC c r l = .error e) : e ≠ 0 := by
  rw [tokC_eq] at h
  intro he
  subst he
  repeat' split at h
  all_goals first
    | cases h
    | (simp only [Except.error.injEq] at h; omega)
theorem tokL_pos {l : List Nat} {e : Nat} (h : tokL l = .error e) : e ≠ 0 := by
  cases l with
  | nil => cases h; decide
  | cons c r => exact tokC_pos (c := c) (r := r) (l := c :: r) h
theorem lexL_pos : ∀ (N : Nat) (l : List Nat) (e : Nat), l.length ≤ N → lexL l = .error e → e ≠ 0
  | 0, [], e, _, h => by rw [lexL_nil] at h; cases h
  | 0, c :: r, e, hl, h => by simp at hl
  | N + 1, [], e, _, h => by rw [lexL_nil] at h; cases h
  | N + 1, c :: r, e, hl, h => by
    rw [List.length_cons] at hl
    cases hb : blL c with
    | true => rw [lexL_blank c r hb] at h; exact lexL_pos N r e (by omega) h
    | false =>
      cases ht : tokL (c :: r) with
      | error e2 =>
        rw [lexL_err c r hb e2 ht] at h
        injection h with h
        subst h
        exact tokL_pos ht
      | ok p =>
        obtain ⟨t, k⟩ := p
        have hk := tokL_len _ t k ht
        rw [lexL_ok c r hb t k ht] at h
        unfold preT at h
        cases hd : lexL ((c :: r).drop k) with
        | ok ts => rw [hd] at h; cases h
        | error e2 =>
          rw [hd] at h
          injection h with h
          subst h
          exact lexL_pos N _ _ (by rw [List.length_drop, List.length_cons]; omega) hd
theorem toksE_pos {l : List Nat} {c : Nat} (h : toksE l = .error c) : c ≠ 0 := by
  unfold toksE at h
  split at h
  · injection h with h; omega
  · exact lexL_pos _ l c (Nat.le_refl _) h

set_option maxHeartbeats 8000000 in
theorem parse_p (s : ByteArray) (w : World) (hE : ErrR w) (n : Nat) {r : Except Nat Stm} (hr : parseS n s = some r) : Calls Tryz.prog 13 #[.string s] w (ParseE w r) := by
  generalize hP : ParseE w r = P
  have HP := Lib.hid hP
  have b1 : Below w.heap.size w (w.alloc (.cells #[.int .i64 0, .string ⟨#[]⟩, .string ⟨#[]⟩, .slice none 0 0, .slice none 0 0, .bool false, .slice none 0 0, .slice none 0 0, .slice none 0 0, .int .i64 0, .slice none 0 0, .int .i64 0, .int .i64 0, .int .i64 0, .string ⟨#[]⟩, .string ⟨#[]⟩, .slice none 0 0, .slice none 0 0] 34)) := (Below.refl _ _).alloc (Nat.le_refl _) _
  have n1 := Bx.new w #[.int .i64 0, .string ⟨#[]⟩, .string ⟨#[]⟩, .slice none 0 0, .slice none 0 0, .bool false, .slice none 0 0, .slice none 0 0, .slice none 0 0, .int .i64 0, .slice none 0 0, .int .i64 0, .int .i64 0, .int .i64 0, .string ⟨#[]⟩, .string ⟨#[]⟩, .slice none 0 0, .slice none 0 0] 34
  obtain ⟨w1, hw1⟩ : ∃ w1, w.alloc (.cells #[.int .i64 0, .string ⟨#[]⟩, .string ⟨#[]⟩, .slice none 0 0, .slice none 0 0, .bool false, .slice none 0 0, .slice none 0 0, .slice none 0 0, .int .i64 0, .slice none 0 0, .int .i64 0, .int .i64 0, .int .i64 0, .string ⟨#[]⟩, .string ⟨#[]⟩, .slice none 0 0, .slice none 0 0] 34) = w1 := ⟨_, rfl⟩
  have s1 : w1.heap.size = w.heap.size + 1 := by rw [← hw1]; simp
  rw [hw1] at b1 n1
  have b2 : Below w1.heap.size w1 (w1.alloc (.cells #[.int .i64 0] 35)) := (Below.refl _ _).alloc (Nat.le_refl _) _
  have n2 := Bx.new w1 #[.int .i64 0] 35
  obtain ⟨w2, hw2⟩ : ∃ w2, w1.alloc (.cells #[.int .i64 0] 35) = w2 := ⟨_, rfl⟩
  have s2 : w2.heap.size = w1.heap.size + 1 := by rw [← hw2]; simp
  rw [hw2] at b2 n2
  have b02 : Below w.heap.size w w2 := b1.trans (b2.mono (by omega))
  have HT := Lib.hid (tokens_any s w2 (hE.below b02))
  have HBX := Lib.hid (And.intro (n1.below b2) n2)
  have HB := Lib.hid b02
  have HS := Lib.hid (And.intro s1 s2)
  have HCP := Lib.hid @pcatch_panicking
  have HCI := Lib.hid pcatch_idle
  have HMO := Lib.hid pmust_ok
  have HMN := Lib.hid pmust_no
  unfold parseS at hr
  cases ht : toksE (sl s) with
  | error c =>
    rw [ht] at hr HT
    have hrc : r = .error c := by injection hr with hr; exact hr.symm
    subst hrc
    have hc0 : ((c : Int) != 0) = true := by have := toksE_pos ht; simp; omega
    clear hP hr ht b1 n1 s1 b2 n2 s2 b02 hE HCP HCI
    go_enter_defers Tryz.func13, Tryz.ntmps13
    go_wp2_with (first | (go_at_call 28; refine HT.out.mono ?_; rintro e w3 ⟨b3, rfl⟩; have hb3 := HBX.out.1.below b3; have hc3 := HBX.out.2.below b3; have cc := hc3.cell (o := 0) (v := .int .i64 0) rfl; have cf := hc3.frz 0; have hgh : ¬ w.heap.size = w1.heap.size := (by have := HS.out.1; omega); obtain ⟨w4, hw4⟩ : ∃ w4, w3.setCell ⟨w1.heap.size, 0, none⟩ (.int .i64 (c : Int)) = w4 := ⟨_, rfl⟩; have hb4 := hb3.setc hgh 0 (.int .i64 (c : Int)); have hc4 : Bx _ w1.heap.size #[.int .i64 (c : Int)] 35 := box_set hc3 0 (.int .i64 (c : Int)); rw [hw4] at hb4 hc4; have hf4 : Below w.heap.size w w4 := (by rw [← hw4]; exact (HB.out.trans (b3.mono HB.out.size)).setCell (p := ⟨w1.heap.size, 0, none⟩) (by show w.heap.size ≤ w1.heap.size; have := HS.out.1; omega) _); have c4 := hc4.cell (o := 0) (v := .int .i64 (c : Int)) rfl; have e4 := hc4.frz 0; have H4 := Lib.hid (And.intro hb4 (And.intro hc4 hf4)); clear b3 hb3 hc3 hb4 hc4 hf4))
    have hb5 : Bx w4.drew w.heap.size #[.int .i64 0, .string ⟨#[]⟩, .string ⟨#[]⟩, .slice none 0 0, .slice none 0 0, .bool false, .slice none 0 0, .slice none 0 0, .slice none 0 0, .int .i64 0, .slice none 0 0, .int .i64 0, .int .i64 0, .int .i64 0, .string ⟨#[]⟩, .string ⟨#[]⟩, .slice none 0 0, .slice none 0 0] 34 := H4.out.1.below (Below.refl _ _).drew
    have hc5 : Bx w4.drew w1.heap.size #[.int .i64 (c : Int)] 35 := H4.out.2.1.below (Below.refl _ _).drew
    have hf5 : Below w.heap.size w w4.drew := H4.out.2.2.drew
    obtain ⟨wz, hst, fz, bz⟩ := st_V hb5 rfl ({ kind := 0 } : XSt)
    have HST := Lib.hid (show (Instr.storeAt 34 (.pointer (some ⟨w.heap.size, 0, none⟩)) (.agg #[.int .i64 0, .string ⟨#[]⟩, .string ⟨#[]⟩, .slice none 0 0, .slice none 0 0, .bool false, .slice none 0 0, .slice none 0 0, .slice none 0 0, .int .i64 0, .slice none 0 0, .int .i64 0, .int .i64 0, .int .i64 0, .string ⟨#[]⟩, .string ⟨#[]⟩, .slice none 0 0, .slice none 0 0])).run Tryz.prog w4.drew = .ok () wz from hst)
    have bz2 : Bx wz w.heap.size #[.int .i64 0, .string ⟨#[]⟩, .string ⟨#[]⟩, .slice none 0 0, .slice none 0 0, .bool false, .slice none 0 0, .slice none 0 0, .slice none 0 0, .int .i64 0, .slice none 0 0, .int .i64 0, .int .i64 0, .int .i64 0, .string ⟨#[]⟩, .string ⟨#[]⟩, .slice none 0 0, .slice none 0 0] 34 := bz
    have hcz := hc5.frm fz (fun e => hgh e.symm)
    have k1 := hcz.cell (o := 0) (v := .int .i64 (c : Int)) rfl
    have k2 := hcz.frz 0
    have k3 := hc5.cell (o := 0) (v := .int .i64 (c : Int)) rfl
    have HEND := Lib.hid (show Bx (wz.setCell ⟨w1.heap.size, 0, none⟩ (.int .i64 (c : Int))) w.heap.size #[.int .i64 0, .string ⟨#[]⟩, .string ⟨#[]⟩, .slice none 0 0, .slice none 0 0, .bool false, .slice none 0 0, .slice none 0 0, .slice none 0 0, .int .i64 0, .slice none 0 0, .int .i64 0, .int .i64 0, .int .i64 0, .string ⟨#[]⟩, .string ⟨#[]⟩, .slice none 0 0, .slice none 0 0] 34 ∧ (wz.setCell ⟨w1.heap.size, 0, none⟩ (.int .i64 (c : Int))).cell? ⟨w1.heap.size, 0, none⟩ = some (.int .i64 (c : Int)) ∧ Below w.heap.size w (wz.setCell ⟨w1.heap.size, 0, none⟩ (.int .i64 (c : Int))) from by
      refine ⟨bz2.setc hgh 0 _, World.cell?_setCell_same _ _ _ k1, ?_⟩
      have f1 : Frm (fun k => w.heap.size ≤ k) w w4.drew := (Frm.of_below hf5)
      have f2 : Frm (fun k => w.heap.size ≤ k) w wz := f1.trans fz (fun k hk => .inl (Nat.le_of_eq hk.symm))
      exact (f2.setCell (.inl (by have := HS.out.1; omega)) 0 (.int .i64 (c : Int))).below (fun k hk => hk) (Nat.le_refl _))
    clear hst fz bz bz2 hcz hb5 hc5 hf5
    go_wp2_with fail
    refine wp_region_any (by kernel_rfl) ?_
    try (change wpAny _ _ _ _ _ _ _ (World.drew _))
    refine wpAny_ready (rs := [0, 1]) (by kernel_rfl) (by simp) ?_
    refine AllReady.cons rfl (fun K hK => ?_) (AllReady.cons rfl (fun K hK => ?_) AllReady.nil)
    · go_simp
      refine hK _ _ ?_
      clear hK K
      refine wpAny_ready (rs := [1, 2]) (by kernel_rfl) (by simp) ?_
      refine AllReady.cons rfl (fun K hK => ?_) (AllReady.cons rfl (fun K hK => ?_) AllReady.nil)
      · go_simp
        refine hK _ _ ?_
        clear hK K
        refine wpAny_ready (rs := [2]) (by kernel_rfl) (by simp) ?_
        refine AllReady.cons rfl (fun K hK => ?_) AllReady.nil
        refine step_st rfl _ _ rfl rfl rfl HST.out ?_
        try go_simp
        refine hK _ _ ?_
        clear hK K
        refine wpAny_ready (rs := [3]) (by kernel_rfl) (by simp) ?_
        refine AllReady.cons rfl (fun K hK => ?_) AllReady.nil
        go_simp
        refine hK _ _ ?_
        clear hK K
        refine wpAny_done (by kernel_rfl) ?_ _
        go_wp2_with fail
        change Leaves _ _ _ P _ _ _
        exact ⟨_, presults Tryz.results13 HEND.out.1 HEND.out.2.1 rfl rfl, by rw [← HP.out]; exact ⟨HEND.out.2.2, rfl⟩⟩
      · refine step_st rfl _ _ rfl rfl rfl HST.out ?_
        try go_simp
        refine hK _ _ ?_
        clear hK K
        refine wpAny_ready (rs := [1]) (by kernel_rfl) (by simp) ?_
        refine AllReady.cons rfl (fun K hK => ?_) AllReady.nil
        go_simp
        refine hK _ _ ?_
        clear hK K
        refine wpAny_ready (rs := [3]) (by kernel_rfl) (by simp) ?_
        refine AllReady.cons rfl (fun K hK => ?_) AllReady.nil
        go_simp
        refine hK _ _ ?_
        clear hK K
        refine wpAny_done (by kernel_rfl) ?_ _
        go_wp2_with fail
        change Leaves _ _ _ P _ _ _
        exact ⟨_, presults Tryz.results13 HEND.out.1 HEND.out.2.1 rfl rfl, by rw [← HP.out]; exact ⟨HEND.out.2.2, rfl⟩⟩
    · go_simp
      refine hK _ _ ?_
      clear hK K
      refine wpAny_ready (rs := [0]) (by kernel_rfl) (by simp) ?_
      refine AllReady.cons rfl (fun K hK => ?_) AllReady.nil
      go_simp
      refine hK _ _ ?_
      clear hK K
      refine wpAny_ready (rs := [2]) (by kernel_rfl) (by simp) ?_
      refine AllReady.cons rfl (fun K hK => ?_) AllReady.nil
      refine step_st rfl _ _ rfl rfl rfl HST.out ?_
      try go_simp
      refine hK _ _ ?_
      clear hK K
      refine wpAny_ready (rs := [3]) (by kernel_rfl) (by simp) ?_
      refine AllReady.cons rfl (fun K hK => ?_) AllReady.nil
      go_simp
      refine hK _ _ ?_
      clear hK K
      refine wpAny_done (by kernel_rfl) ?_ _
      go_wp2_with fail
      change Leaves _ _ _ P _ _ _
      exact ⟨_, presults Tryz.results13 HEND.out.1 HEND.out.2.1 rfl rfl, by rw [← HP.out]; exact ⟨HEND.out.2.2, rfl⟩⟩
  | ok ts =>
    rw [ht] at hr HT
    obtain ⟨tr1, tr2, -, -⟩ := toks_right (sl_lt s) ht
    unfold parseP at hr
    dsimp only at hr
    have HTR := Lib.hid (And.intro tr1 tr2)
    clear tr1 tr2
    cases h1 : stmtP isN n ⟨ts, 0, 0⟩ with
    | none => rw [h1] at hr; cases hr
    | some r1 =>
      rw [h1] at hr
      have HST0 := Lib.hid (fun (w5 : World) (pb : Nat) (hp : PsM w5 pb ⟨ts, 0, 0⟩) => statement_p n pb w5 ⟨ts, 0, 0⟩ r1 hp h1)
      clear hP ht h1 b1 n1 s1 b2 n2 s2 b02 hE
      match r1, hr, HST0 with
      | .error c, hr, HST0 =>
        have hrc : r = .error c := by injection hr with hr; exact hr.symm
        subst hrc
        clear hr
        go_enter_defers Tryz.func13, Tryz.ntmps13
        go_wp2_with (first | (go_at_call 28; refine HT.out.mono ?_; rintro e w3 ⟨b3, v3, rfl, o3⟩; obtain ⟨va, vc, rfl, -⟩ := o3.form; have hb3 := HBX.out.1.below b3; have hc3 := HBX.out.2.below b3; have cc := hc3.cell (o := 0) (v := .int .i64 0) rfl; have cf := hc3.frz 0; have hgh : ¬ w.heap.size = w1.heap.size := (by have := HS.out.1; omega); obtain ⟨w4, hw4⟩ : ∃ w4, w3.setCell ⟨w1.heap.size, 0, none⟩ (.int .i64 0) = w4 := ⟨_, rfl⟩; have hb4 := hb3.setc hgh 0 (.int .i64 0); have hc4 : Bx _ w1.heap.size #[.int .i64 0] 35 := box_set hc3 0 (.int .i64 0); have fr4 : Frm (fun k => k < w2.heap.size) w3 w4 := (by rw [← hw4]; exact Frm.set1 (F := fun k => k < w2.heap.size) w3 (show w1.heap.size < w2.heap.size by have := HS.out.2; omega) 0 _); have sz4 : w4.heap.size = w3.heap.size := (by rw [← hw4]; simp [World.setCell]); rw [hw4] at hb4 hc4; have hf4 : Below w.heap.size w w4 := (by rw [← hw4]; exact (HB.out.trans (b3.mono HB.out.size)).setCell (p := ⟨w1.heap.size, 0, none⟩) (by show w.heap.size ≤ w1.heap.size; have := HS.out.1; omega) _); have c4 := hc4.cell (o := 0) (v := .int .i64 0) rfl; have e4 := hc4.frz 0; have ps5 := PsM.made o3 HTR.out.1 HTR.out.2 fr4 sz4; have bb5 : Below w4.heap.size w4 (w4.alloc (.cells #[.slice va ts.length vc, .int .i64 0, .int .i64 0] 73)) := (Below.refl _ _).alloc (Nat.le_refl _) _; obtain ⟨w5, hw5⟩ : ∃ w5, w4.alloc (.cells #[.slice va ts.length vc, .int .i64 0, .int .i64 0] 73) = w5 := ⟨_, rfl⟩; rw [hw5] at ps5 bb5; have g6 : ¬ w.heap.size = w4.heap.size := (by have := hb4.lt; omega); have h6 : ¬ w1.heap.size = w4.heap.size := (by have := hc4.lt; omega); have SZ4 := Lib.hid sz4; have hlt5 : w.heap.size ≤ w4.heap.size := Nat.le_of_lt hb4.lt; have H5 := Lib.hid (And.intro ps5 (And.intro (hb4.below bb5) (And.intro (hc4.below bb5) (hf4.trans (bb5.mono hlt5))))); clear b3 o3 hb3 hc3 hb4 hc4 hf4 fr4 ps5 bb5 sz4) | (go_at_call 30; refine (HST0.out w5 w4.heap.size H5.out.1).mono ?_; rintro e w6 ⟨f6, rfl⟩; have F6 := Lib.hid f6; clear f6; have hb6 := H5.out.2.1.frm F6.out g6; have hc6 := H5.out.2.2.1.frm F6.out h6; change Leaves _ _ _ P _ _ _; refine leaves_cons (f := 29) (args := #[.pointer (some ⟨w.heap.size, 0, none⟩), .pointer (some ⟨w1.heap.size, 0, none⟩)]) (by simp) (by simp [go_sem]) ?_; refine (HCP.out w.heap.size w1.heap.size (c : Int) [] w6 _ hb6 (hc6.cell rfl) (hc6.frz 0) (by have := HS.out.1; omega) hc6.lt).mono ?_; rintro e u' w7 ⟨rfl, rfl, q1, q2, q3⟩; have hfin : P (.returned (.tuple #[.agg #[.int .i64 0, .string ⟨#[]⟩, .string ⟨#[]⟩, .slice none 0 0, .slice none 0 0, .bool false, .slice none 0 0, .slice none 0 0, .slice none 0 0, .int .i64 0, .slice none 0 0, .int .i64 0, .int .i64 0, .int .i64 0, .string ⟨#[]⟩, .string ⟨#[]⟩, .slice none 0 0, .slice none 0 0], .int .i64 (c : Int)])) w7 := (by rw [← HP.out]; exact ⟨(H5.out.2.2.2.trans (F6.out.below (fun k hk => by have : k = w4.heap.size := hk; omega) H5.out.2.2.2.size)).trans q3, rfl⟩); exact ⟨_, presults Tryz.results13 q1 q2 rfl rfl, hfin⟩))
      | .ok (st, s'), hr, HST0 =>
        obtain ⟨m, hm⟩ : ∃ m, s'.rest.length = m := ⟨_, rfl⟩
        obtain ⟨d, hd⟩ : ∃ d, s'.deep = d := ⟨_, rfl⟩
        have HM := Lib.hid (And.intro hm hd)
        have hr2 : (if m = 0 then if d ≤ 40 then some (Except.ok st) else some (Except.error 5) else some (Except.error 130)) = some r := by
          rw [← hr]
          dsimp only
          by_cases e : s'.rest = []
          · rw [if_pos e, if_pos (by rw [← hm, e]; rfl), ← hd]
          · rw [if_neg e, if_neg (fun h => e (List.eq_nil_of_length_eq_zero (hm.trans h)))]
        have HB7 := Lib.hid (fun (w5 w6 w7 : World) (p : Nat) (b5 : Below w.heap.size w w5) (hp : w.heap.size ≤ p) (f6 : Frm (PF p) w5 w6) (fz : Frm (fun k => k = w.heap.size) w6 w7) => show Below w.heap.size w w7 from
          ((((Frm.of_below (F := fun k => w.heap.size ≤ k) b5).trans f6 (fun k hk => .inl (by have : k = p := hk; omega))).trans fz (fun k hk => .inl (Nat.le_of_eq hk.symm))).below (fun k hk => hk) (Nat.le_refl _)))
        clear hm hd hr
        by_cases c0 : m = 0
        · rw [if_pos c0] at hr2
          subst c0
          have HMO1 := Lib.hid (fun w => pmust_ok 130 w)
          by_cases c40 : d ≤ 40
          · rw [if_pos c40] at hr2
            have hrc : r = .ok st := by injection hr2 with hr2; exact hr2.symm
            subst hrc
            have c41 : ((d : Int) ≤ 40) := by omega
            have HMO2 := Lib.hid (fun w => pmust_ok 5 w)
            clear hr2
            go_enter_defers Tryz.func13, Tryz.ntmps13
            go_wp2_with (first | (go_at_call 28; refine HT.out.mono ?_; rintro e w3 ⟨b3, v3, rfl, o3⟩; obtain ⟨va, vc, rfl, -⟩ := o3.form; have hb3 := HBX.out.1.below b3; have hc3 := HBX.out.2.below b3; have cc := hc3.cell (o := 0) (v := .int .i64 0) rfl; have cf := hc3.frz 0; have hgh : ¬ w.heap.size = w1.heap.size := (by have := HS.out.1; omega); obtain ⟨w4, hw4⟩ : ∃ w4, w3.setCell ⟨w1.heap.size, 0, none⟩ (.int .i64 0) = w4 := ⟨_, rfl⟩; have hb4 := hb3.setc hgh 0 (.int .i64 0); have hc4 : Bx _ w1.heap.size #[.int .i64 0] 35 := box_set hc3 0 (.int .i64 0); have fr4 : Frm (fun k => k < w2.heap.size) w3 w4 := (by rw [← hw4]; exact Frm.set1 (F := fun k => k < w2.heap.size) w3 (show w1.heap.size < w2.heap.size by have := HS.out.2; omega) 0 _); have sz4 : w4.heap.size = w3.heap.size := (by rw [← hw4]; simp [World.setCell]); rw [hw4] at hb4 hc4; have hf4 : Below w.heap.size w w4 := (by rw [← hw4]; exact (HB.out.trans (b3.mono HB.out.size)).setCell (p := ⟨w1.heap.size, 0, none⟩) (by show w.heap.size ≤ w1.heap.size; have := HS.out.1; omega) _); have c4 := hc4.cell (o := 0) (v := .int .i64 0) rfl; have e4 := hc4.frz 0; have ps5 := PsM.made o3 HTR.out.1 HTR.out.2 fr4 sz4; have bb5 : Below w4.heap.size w4 (w4.alloc (.cells #[.slice va ts.length vc, .int .i64 0, .int .i64 0] 73)) := (Below.refl _ _).alloc (Nat.le_refl _) _; obtain ⟨w5, hw5⟩ : ∃ w5, w4.alloc (.cells #[.slice va ts.length vc, .int .i64 0, .int .i64 0] 73) = w5 := ⟨_, rfl⟩; rw [hw5] at ps5 bb5; have g6 : ¬ w.heap.size = w4.heap.size := (by have := hb4.lt; omega); have h6 : ¬ w1.heap.size = w4.heap.size := (by have := hc4.lt; omega); have SZ4 := Lib.hid sz4; have hlt5 : w.heap.size ≤ w4.heap.size := Nat.le_of_lt hb4.lt; have H5 := Lib.hid (And.intro ps5 (And.intro (hb4.below bb5) (And.intro (hc4.below bb5) (hf4.trans (bb5.mono hlt5))))); clear b3 o3 hb3 hc3 hb4 hc4 hf4 fr4 ps5 bb5 sz4) | (go_at_call 30; refine (HST0.out w5 w4.heap.size H5.out.1).mono ?_; rintro e w6 ⟨f6, v6, rfl, ⟨x, rfl, hxe, mx⟩, p6⟩; have hb6 := H5.out.2.1.frm f6 g6; have hc6 := H5.out.2.2.1.frm f6 h6; obtain ⟨w7, hst7, fz7, bz7⟩ := st_V hb6 rfl x; have HST1 := Lib.hid hst7; obtain ⟨ra, rc, hh6, -⟩ := p6.hd; have hp7 := Bx.frm (w := w6) hh6 fz7 (fun e => g6 e.symm); have k0 := hp7.cell (o := 0) rfl; have k2 := hp7.cell (o := 2) rfl; rw [HM.out.1] at k0; rw [HM.out.2] at k2; have hc7 := hc6.frm fz7 (fun e => hgh e.symm); have H7 := Lib.hid (And.intro bz7 (And.intro hc7 (And.intro fz7 (And.intro f6 (And.intro mx hxe))))); have HLV := Lib.hid (ld_V bz7); obtain ⟨w8, hst8, fz8, bz8⟩ := st_V bz7 (by unfold XSt.enc; simp [XE.enc_len]) x; have hc8 := hc7.frm fz8 (fun e => hgh e.symm); have HST2 := Lib.hid hst8; have j0 := hc8.cell (o := 0) rfl; have j1 := hc8.frz 0; have H8 := Lib.hid (And.intro bz8 (And.intro hc8 fz8)); clear hst8 fz8 bz8 hc8; clear hb6 hc6 hst7 fz7 bz7 hh6 hp7 hc7 f6 mx hxe p6) | (refine wpSt rfl _ _ rfl rfl rfl HST1.out ?_; clear HST1) | (go_at_call 31; refine (HMO1.out _).mono ?_; rintro e wx ⟨rfl, rfl⟩; clear HMO1) | (go_at_call 31; refine (HMO2.out _).mono ?_; rintro e wx ⟨rfl, rfl⟩; clear HMO2) | (refine wpLd rfl _ rfl rfl HLV.out ?_; clear HLV) | (refine wpSt rfl _ _ rfl rfl rfl HST2.out ?_; clear HST2))
            have hbz := H8.out.1.setc hgh 0 (.int .i64 0)
            have hcz : (w8.setCell ⟨w1.heap.size, 0, none⟩ (.int .i64 0)).cell? ⟨w1.heap.size, 0, none⟩ = some (.int .i64 0) := World.cell?_setCell_same _ _ _ (H8.out.2.1.cell (o := 0) rfl)
            have hgw : w.heap.size ≤ w1.heap.size := by have := HS.out.1; omega
            have h15 : w1.heap.size < w5.heap.size := H5.out.2.2.1.lt
            have hbel : Below w.heap.size w (w8.setCell ⟨w1.heap.size, 0, none⟩ (.int .i64 0)) := by
              have f7 := HB7.out w5 w6 w7 w4.heap.size H5.out.2.2.2 hlt5 H7.out.2.2.2.1 H7.out.2.2.1
              exact (((Frm.of_below (F := fun k => w.heap.size ≤ k) f7).trans H8.out.2.2 (fun k hk => .inl (Nat.le_of_eq hk.symm))).setCell (.inl hgw) 0 (.int .i64 0)).below (fun k hk => hk) (Nat.le_refl _)
            have hmem : XSt.Mem (GE w.heap.size) (w8.setCell ⟨w1.heap.size, 0, none⟩ (.int .i64 0)) x := by
              have m6 : XSt.Mem (GE w5.heap.size) w6 x := H7.out.2.2.2.2.1
              have m7 := XSt.Mem.frm H7.out.2.2.1 (fun k hk e => by have : w5.heap.size ≤ k := hk; omega) m6
              have m8 := XSt.Mem.frm H8.out.2.2 (fun k hk e => by have : w5.heap.size ≤ k := hk; omega) m7
              have m9 := XSt.Mem.frm (Frm.set1 (F := fun k => k = w1.heap.size) w8 rfl 0 (.int .i64 0)) (fun k hk e => by have : w5.heap.size ≤ k := hk; omega) m8
              exact XSt.Mem.mono (fun k hk => by have : w5.heap.size ≤ k := hk; show _ ≤ _; omega) m9
            have hfin : P (.returned (.tuple #[x.val, .int .i64 0])) (w8.setCell ⟨w1.heap.size, 0, none⟩ (.int .i64 0)) := by
              rw [← HP.out]
              exact ⟨hbel, x, rfl, H7.out.2.2.2.2.2, hmem⟩
            change Leaves _ _ _ P _ _ _
            refine leaves_cons (f := 29) (args := #[.pointer (some ⟨w.heap.size, 0, none⟩), .pointer (some ⟨w1.heap.size, 0, none⟩)]) (by simp) (by simp [go_sem]) ?_
            refine (HCI.out _ _ _).mono ?_
            rintro e u' w'' ⟨rfl, rfl, rfl⟩
            exact ⟨_, pres_V Tryz.results13 hbz hcz rfl rfl, hfin⟩
          · rw [if_neg c40] at hr2
            have hrc : r = .error 5 := by injection hr2 with hr2; exact hr2.symm
            subst hrc
            have c41 : decide ((d : Int) ≤ 40) = false := by simp; omega
            clear hr2
            go_enter_defers Tryz.func13, Tryz.ntmps13
            go_wp2_with (first | (go_at_call 28; refine HT.out.mono ?_; rintro e w3 ⟨b3, v3, rfl, o3⟩; obtain ⟨va, vc, rfl, -⟩ := o3.form; have hb3 := HBX.out.1.below b3; have hc3 := HBX.out.2.below b3; have cc := hc3.cell (o := 0) (v := .int .i64 0) rfl; have cf := hc3.frz 0; have hgh : ¬ w.heap.size = w1.heap.size := (by have := HS.out.1; omega); obtain ⟨w4, hw4⟩ : ∃ w4, w3.setCell ⟨w1.heap.size, 0, none⟩ (.int .i64 0) = w4 := ⟨_, rfl⟩; have hb4 := hb3.setc hgh 0 (.int .i64 0); have hc4 : Bx _ w1.heap.size #[.int .i64 0] 35 := box_set hc3 0 (.int .i64 0); have fr4 : Frm (fun k => k < w2.heap.size) w3 w4 := (by rw [← hw4]; exact Frm.set1 (F := fun k => k < w2.heap.size) w3 (show w1.heap.size < w2.heap.size by have := HS.out.2; omega) 0 _); have sz4 : w4.heap.size = w3.heap.size := (by rw [← hw4]; simp [World.setCell]); rw [hw4] at hb4 hc4; have hf4 : Below w.heap.size w w4 := (by rw [← hw4]; exact (HB.out.trans (b3.mono HB.out.size)).setCell (p := ⟨w1.heap.size, 0, none⟩) (by show w.heap.size ≤ w1.heap.size; have := HS.out.1; omega) _); have c4 := hc4.cell (o := 0) (v := .int .i64 0) rfl; have e4 := hc4.frz 0; have ps5 := PsM.made o3 HTR.out.1 HTR.out.2 fr4 sz4; have bb5 : Below w4.heap.size w4 (w4.alloc (.cells #[.slice va ts.length vc, .int .i64 0, .int .i64 0] 73)) := (Below.refl _ _).alloc (Nat.le_refl _) _; obtain ⟨w5, hw5⟩ : ∃ w5, w4.alloc (.cells #[.slice va ts.length vc, .int .i64 0, .int .i64 0] 73) = w5 := ⟨_, rfl⟩; rw [hw5] at ps5 bb5; have g6 : ¬ w.heap.size = w4.heap.size := (by have := hb4.lt; omega); have h6 : ¬ w1.heap.size = w4.heap.size := (by have := hc4.lt; omega); have SZ4 := Lib.hid sz4; have hlt5 : w.heap.size ≤ w4.heap.size := Nat.le_of_lt hb4.lt; have H5 := Lib.hid (And.intro ps5 (And.intro (hb4.below bb5) (And.intro (hc4.below bb5) (hf4.trans (bb5.mono hlt5))))); clear b3 o3 hb3 hc3 hb4 hc4 hf4 fr4 ps5 bb5 sz4) | (go_at_call 30; refine (HST0.out w5 w4.heap.size H5.out.1).mono ?_; rintro e w6 ⟨f6, v6, rfl, ⟨x, rfl, hxe, mx⟩, p6⟩; have hb6 := H5.out.2.1.frm f6 g6; have hc6 := H5.out.2.2.1.frm f6 h6; obtain ⟨w7, hst7, fz7, bz7⟩ := st_V hb6 rfl x; have HST1 := Lib.hid hst7; obtain ⟨ra, rc, hh6, -⟩ := p6.hd; have hp7 := Bx.frm (w := w6) hh6 fz7 (fun e => g6 e.symm); have k0 := hp7.cell (o := 0) rfl; have k2 := hp7.cell (o := 2) rfl; rw [HM.out.1] at k0; rw [HM.out.2] at k2; have hc7 := hc6.frm fz7 (fun e => hgh e.symm); have H7 := Lib.hid (And.intro bz7 (And.intro hc7 (And.intro fz7 (And.intro f6 (And.intro mx hxe))))); clear hb6 hc6 hst7 fz7 bz7 hh6 hp7 hc7 f6 mx hxe p6) | (refine wpSt rfl _ _ rfl rfl rfl HST1.out ?_; clear HST1) | (go_at_call 31; refine (HMO1.out _).mono ?_; rintro e wx ⟨rfl, rfl⟩; clear HMO1) | (go_at_call 31; refine (HMN.out _ _).mono ?_; rintro e wx ⟨rfl, rfl⟩; change Leaves _ _ _ P _ _ _; refine leaves_cons (f := 29) (args := #[.pointer (some ⟨w.heap.size, 0, none⟩), .pointer (some ⟨w1.heap.size, 0, none⟩)]) (by simp) (by simp [go_sem]) ?_; refine (pcatch_V w.heap.size w1.heap.size 5 [] w7 x _ H7.out.1 (H7.out.2.1.cell rfl) (H7.out.2.1.frz 0) (by have := HS.out.1; omega) H7.out.2.1.lt).mono ?_; rintro e u' w9 ⟨rfl, rfl, q1, q2, q3⟩; have hfin : P (.returned (.tuple #[.agg #[.int .i64 0, .string ⟨#[]⟩, .string ⟨#[]⟩, .slice none 0 0, .slice none 0 0, .bool false, .slice none 0 0, .slice none 0 0, .slice none 0 0, .int .i64 0, .slice none 0 0, .int .i64 0, .int .i64 0, .int .i64 0, .string ⟨#[]⟩, .string ⟨#[]⟩, .slice none 0 0, .slice none 0 0], .int .i64 5])) w9 := (by rw [← HP.out]; exact ⟨(HB7.out w5 w6 w7 w4.heap.size H5.out.2.2.2 hlt5 H7.out.2.2.2.1 H7.out.2.2.1).trans q3, rfl⟩); exact ⟨_, presults Tryz.results13 q1 q2 rfl rfl, hfin⟩))
        · rw [if_neg c0] at hr2
          have hrc : r = .error 130 := by injection hr2 with hr2; exact hr2.symm
          subst hrc
          have c01 : ((m : Int) == 0) = false := by simp; omega
          clear hr2
          go_enter_defers Tryz.func13, Tryz.ntmps13
          go_wp2_with (first | (go_at_call 28; refine HT.out.mono ?_; rintro e w3 ⟨b3, v3, rfl, o3⟩; obtain ⟨va, vc, rfl, -⟩ := o3.form; have hb3 := HBX.out.1.below b3; have hc3 := HBX.out.2.below b3; have cc := hc3.cell (o := 0) (v := .int .i64 0) rfl; have cf := hc3.frz 0; have hgh : ¬ w.heap.size = w1.heap.size := (by have := HS.out.1; omega); obtain ⟨w4, hw4⟩ : ∃ w4, w3.setCell ⟨w1.heap.size, 0, none⟩ (.int .i64 0) = w4 := ⟨_, rfl⟩; have hb4 := hb3.setc hgh 0 (.int .i64 0); have hc4 : Bx _ w1.heap.size #[.int .i64 0] 35 := box_set hc3 0 (.int .i64 0); have fr4 : Frm (fun k => k < w2.heap.size) w3 w4 := (by rw [← hw4]; exact Frm.set1 (F := fun k => k < w2.heap.size) w3 (show w1.heap.size < w2.heap.size by have := HS.out.2; omega) 0 _); have sz4 : w4.heap.size = w3.heap.size := (by rw [← hw4]; simp [World.setCell]); rw [hw4] at hb4 hc4; have hf4 : Below w.heap.size w w4 := (by rw [← hw4]; exact (HB.out.trans (b3.mono HB.out.size)).setCell (p := ⟨w1.heap.size, 0, none⟩) (by show w.heap.size ≤ w1.heap.size; have := HS.out.1; omega) _); have c4 := hc4.cell (o := 0) (v := .int .i64 0) rfl; have e4 := hc4.frz 0; have ps5 := PsM.made o3 HTR.out.1 HTR.out.2 fr4 sz4; have bb5 : Below w4.heap.size w4 (w4.alloc (.cells #[.slice va ts.length vc, .int .i64 0, .int .i64 0] 73)) := (Below.refl _ _).alloc (Nat.le_refl _) _; obtain ⟨w5, hw5⟩ : ∃ w5, w4.alloc (.cells #[.slice va ts.length vc, .int .i64 0, .int .i64 0] 73) = w5 := ⟨_, rfl⟩; rw [hw5] at ps5 bb5; have g6 : ¬ w.heap.size = w4.heap.size := (by have := hb4.lt; omega); have h6 : ¬ w1.heap.size = w4.heap.size := (by have := hc4.lt; omega); have SZ4 := Lib.hid sz4; have hlt5 : w.heap.size ≤ w4.heap.size := Nat.le_of_lt hb4.lt; have H5 := Lib.hid (And.intro ps5 (And.intro (hb4.below bb5) (And.intro (hc4.below bb5) (hf4.trans (bb5.mono hlt5))))); clear b3 o3 hb3 hc3 hb4 hc4 hf4 fr4 ps5 bb5 sz4) | (go_at_call 30; refine (HST0.out w5 w4.heap.size H5.out.1).mono ?_; rintro e w6 ⟨f6, v6, rfl, ⟨x, rfl, hxe, mx⟩, p6⟩; have hb6 := H5.out.2.1.frm f6 g6; have hc6 := H5.out.2.2.1.frm f6 h6; obtain ⟨w7, hst7, fz7, bz7⟩ := st_V hb6 rfl x; have HST1 := Lib.hid hst7; obtain ⟨ra, rc, hh6, -⟩ := p6.hd; have hp7 := Bx.frm (w := w6) hh6 fz7 (fun e => g6 e.symm); have k0 := hp7.cell (o := 0) rfl; have k2 := hp7.cell (o := 2) rfl; rw [HM.out.1] at k0; rw [HM.out.2] at k2; have hc7 := hc6.frm fz7 (fun e => hgh e.symm); have H7 := Lib.hid (And.intro bz7 (And.intro hc7 (And.intro fz7 (And.intro f6 (And.intro mx hxe))))); clear hb6 hc6 hst7 fz7 bz7 hh6 hp7 hc7 f6 mx hxe p6) | (refine wpSt rfl _ _ rfl rfl rfl HST1.out ?_; clear HST1) | (go_at_call 31; refine (HMN.out _ _).mono ?_; rintro e wx ⟨rfl, rfl⟩; change Leaves _ _ _ P _ _ _; refine leaves_cons (f := 29) (args := #[.pointer (some ⟨w.heap.size, 0, none⟩), .pointer (some ⟨w1.heap.size, 0, none⟩)]) (by simp) (by simp [go_sem]) ?_; refine (pcatch_V w.heap.size w1.heap.size 130 [] w7 x _ H7.out.1 (H7.out.2.1.cell rfl) (H7.out.2.1.frz 0) (by have := HS.out.1; omega) H7.out.2.1.lt).mono ?_; rintro e u' w9 ⟨rfl, rfl, q1, q2, q3⟩; have hfin : P (.returned (.tuple #[.agg #[.int .i64 0, .string ⟨#[]⟩, .string ⟨#[]⟩, .slice none 0 0, .slice none 0 0, .bool false, .slice none 0 0, .slice none 0 0, .slice none 0 0, .int .i64 0, .slice none 0 0, .int .i64 0, .int .i64 0, .int .i64 0, .string ⟨#[]⟩, .string ⟨#[]⟩, .slice none 0 0, .slice none 0 0], .int .i64 130])) w9 := (by rw [← HP.out]; exact ⟨(HB7.out w5 w6 w7 w4.heap.size H5.out.2.2.2 hlt5 H7.out.2.2.2.1 H7.out.2.2.1).trans q3, rfl⟩); exact ⟨_, presults Tryz.results13 q1 q2 rfl rfl, hfin⟩))

end Go.Proofs.YtkffomfbnbcgaaaGreatDoor

namespace Go.Proofs.YtkffomfbnbcgaaaGreatDoor
set_option maxRecDepth 100000
open Go.RowKit Go.Joins Go.ChangeShapes Go.WideShapes
set_option linter.unusedVariables false
set_option linter.unusedSimpArgs false

def prA : ByteArray := ⟨#[68, 69, 76, 69, 84, 69, 32, 70, 82, 79, 77, 32, 116, 32, 87, 72, 69, 82, 69, 32, 78, 79, 84, 32, 97, 32, 61, 32, 45, 49, 32, 43, 32, 98, 32, 42, 32, 50]⟩
def prB : ByteArray := ⟨#[83, 69, 76, 69, 67, 84, 32, 97, 32, 70, 82, 79, 77]⟩
def prAt : List Tk := [⟨1, [100, 101, 108, 101, 116, 101], 0, 0⟩, ⟨1, [102, 114, 111, 109], 0, 0⟩, ⟨1, [116], 0, 0⟩, ⟨1, [119, 104, 101, 114, 101], 0, 0⟩, ⟨1, [110, 111, 116], 0, 0⟩, ⟨1, [97], 0, 0⟩, ⟨5, [61], 0, 0⟩, ⟨5, [45], 0, 0⟩, ⟨2, [], 1, 0⟩, ⟨5, [43], 0, 0⟩, ⟨1, [98], 0, 0⟩, ⟨5, [42], 0, 0⟩, ⟨2, [], 2, 0⟩]
def prBt : List Tk := [⟨1, [115, 101, 108, 101, 99, 116], 0, 0⟩, ⟨1, [97], 0, 0⟩, ⟨1, [102, 114, 111, 109], 0, 0⟩]
theorem prA_toks : toksE (sl prA) = .ok prAt := by rfl
theorem prB_toks : toksE (sl prB) = .ok prBt := by rfl
theorem isN_t : isN [116] = true := by
  simp only [isN, nameB, resB, ByteArray.toList_eq]
  rfl
theorem isN_a : isN [97] = true := by
  simp only [isN, nameB, resB, ByteArray.toList_eq]
  rfl
theorem isN_b : isN [98] = true := by
  simp only [isN, nameB, resB, ByteArray.toList_eq]
  rfl
def prD : Ex := .mk 7 0 0 0 ⟨#[]⟩ ⟨#[]⟩ [.mk 13 0 0 0 ⟨#[]⟩ ⟨#[]⟩ [.mk 21 2 1 0 ⟨#[]⟩ ⟨#[]⟩ []], .mk 9 0 0 0 ⟨#[]⟩ ⟨#[]⟩ [.mk 22 0 0 0 (strB [98]) ⟨#[]⟩ [], .mk 21 2 2 0 ⟨#[]⟩ ⟨#[]⟩ []]]
def prC : Ex := .mk 1 0 0 0 ⟨#[]⟩ ⟨#[]⟩ [.mk 22 0 0 0 (strB [97]) ⟨#[]⟩ [], prD]
def prX : Ex := .mk 16 0 0 0 ⟨#[]⟩ ⟨#[]⟩ [prC]
theorem prA_p : parseP isN 40 prAt = some (.ok { kind := 8, table := [116], whr := prX }) := by kernel_rfl
theorem prX_dep : depR prX = 4 := by rfl
theorem prX_wf : Ex.Wf prX := by
  simp [prX, prC, prD, Ex.Wf, Ex.WfL]
theorem prB_p : parseP isN 40 prBt = some (.error 130) := by kernel_rfl
end Go.Proofs.YtkffomfbnbcgaaaGreatDoor

namespace Go.Proofs.YtkffomfbnbcgaaaGreatDoor
set_option maxRecDepth 100000
open Go.RowKit Go.Joins Go.ChangeShapes Go.WideShapes
set_option linter.unusedVariables false
set_option linter.unusedSimpArgs false

theorem XE.er_mk {y : XE} {op kind num scale : Int} {text qual : ByteArray} {l : List Ex} (h : y.er = .mk op kind num scale text qual l) : ∃ a cap args, y = .mk op kind num scale text qual a cap args ∧ XE.erL args = l := by
  obtain ⟨op', kind', num', scale', text', qual', a, cap, args⟩ := y
  simp only [XE.er, Ex.mk.injEq] at h
  obtain ⟨rfl, rfl, rfl, rfl, rfl, rfl, h⟩ := h
  exact ⟨a, cap, args, rfl, h⟩
theorem XE.erL_cons {l : List XE} {a : Ex} {r : List Ex} (h : XE.erL l = a :: r) : ∃ x t, l = x :: t ∧ x.er = a ∧ XE.erL t = r := by
  cases l with
  | nil => simp [XE.erL] at h
  | cons x t =>
    simp only [XE.erL, List.cons.injEq] at h
    exact ⟨x, t, rfl, h.1, h.2⟩
theorem XE.erL_nil {l : List XE} (h : XE.erL l = []) : l = [] := by
  cases l with
  | nil => rfl
  | cons x t => simp [XE.erL] at h
theorem prX_lies {K : Bl} {w : World} {y : XE} (h : y.er = prX) (m : XE.Mem K w y) : ∃ b0 o0 c0 b1 o1 c1 z,
    y = .mk 16 0 0 0 ⟨#[]⟩ ⟨#[]⟩ (some ⟨b0, o0, none⟩) c0 [z] ∧ 1 ≤ c0 ∧ 2 ≤ c1 ∧ b0 < w.heap.size ∧ b1 < w.heap.size ∧ w.cell? ⟨b0, o0, none⟩ = some (.int .i64 1) ∧ w.cell? ⟨b0, o0 + 1, none⟩ = some (.slice (some ⟨b1, o1, none⟩) 2 c1) ∧ w.cell? ⟨b1, o1 + 7, none⟩ = some (.int .i64 7) := by
  obtain ⟨a, cap, args, rfl, h1⟩ := XE.er_mk h
  obtain ⟨z, t, rfl, h2, h3⟩ := XE.erL_cons h1
  obtain rfl := XE.erL_nil h3
  obtain ⟨a1, cap1, args1, rfl, h4⟩ := XE.er_mk h2
  obtain ⟨z1, t1, rfl, h5, h6⟩ := XE.erL_cons h4
  obtain ⟨z2, t2, rfl, h7, h8⟩ := XE.erL_cons h6
  obtain rfl := XE.erL_nil h8
  obtain ⟨a3, cap3, args3, rfl, h9⟩ := XE.er_mk h7
  have q0 := m
  unfold XE.Mem at q0
  obtain ⟨b0, o0, rfl, _, hb0, hc0, m1⟩ := XE.Mem.at m (k := 0) rfl
  have q1 := m1
  unfold XE.Mem at q1
  obtain ⟨b1, o1, rfl, _, hb1, hc1, m2⟩ := XE.Mem.at m1 (k := 1) rfl
  have k0 := hc0 0 _ rfl
  have k1 := hc0 1 _ rfl
  have k2 := hc1 0 _ rfl
  simp only [Nat.zero_mul, Nat.one_mul, Nat.add_zero] at k0 k1 k2
  exact ⟨b0, o0, cap, b1, o1, cap1, _, rfl, q0.1, q1.1, hb0, hb1, k0, k1, k2⟩
set_option maxHeartbeats 4000000 in
theorem speaks13_any (w : World) (hE : ErrR w) : Calls Tryz.prog 12 #[] w fun e w' => e = .returned (.bool true) ∧ Below w.heap.size w w' := by
  have H1 := Lib.hid (parse_p prA w hE 40 (r := .ok { kind := 8, table := [116], whr := prX }) (by unfold parseS; rw [prA_toks]; exact prA_p))
  have H2 := Lib.hid (fun (wx : World) (hb : Below w.heap.size w wx) => parse_p prB wx (hE.below hb) 40 (r := .error 130) (by unfold parseS; rw [prB_toks]; exact prB_p))
  clear hE
  unfold prA at H1
  unfold prB at H2
  generalize hP : (fun (e : Ending) (w' : World) => e = .returned (.bool true) ∧ Below w.heap.size w w') = P
  have HP := Lib.hid hP
  clear hP
  go_enter Tryz.func12, Tryz.ntmps12
  go_wp2_with fail
  try go_at_call 13
  refine H1.out.mono ?_
  rintro e w1 ⟨b1, x, rfl, hx, mx⟩
  have hk : x.kind = 8 := congrArg Stm.kind hx
  have ht : x.table = [116] := congrArg Stm.table hx
  have hw : x.whr.er = prX := congrArg Stm.whr hx
  obtain ⟨b0, o0, c0, b2, o2, c2, z, hz, hc0, hc2, hb0, hb2, k0, k1, k2⟩ := prX_lies hw mx.whr
  have hn := Bx.new w1 #[.int .i64 0, .string ⟨#[]⟩, .string ⟨#[]⟩, .slice none 0 0, .slice none 0 0, .bool false, .slice none 0 0, .slice none 0 0, .slice none 0 0, .int .i64 0, .slice none 0 0, .int .i64 0, .int .i64 0, .int .i64 0, .string ⟨#[]⟩, .string ⟨#[]⟩, .slice none 0 0, .slice none 0 0] 34
  obtain ⟨wz, hst, fz, bz⟩ := st_V hn rfl x
  have HST := Lib.hid hst
  have hx1 := x.enc
  have f1 : Frm (fun k => w1.heap.size ≤ k) w1 wz := (Frm.of_below (F := fun k => w1.heap.size ≤ k) ((Below.refl _ _).alloc (Nat.le_refl _) _)).trans fz (fun k hk => .inl (Nat.le_of_eq hk.symm))
  have bl : Below w1.heap.size w1 wz := f1.below (fun k hk => hk) (Nat.le_refl _)
  have m1 := XSt.Mem.frm (Frm.of_below (F := fun _ => False) bl) (fun _ _ e => e) mx
  have hbz : Bx wz w1.heap.size #[.int .i64 8, .string ⟨#[116]⟩, .string (strB x.index), x.cols.val, x.names.val, .bool x.uniq, x.rows.val, x.items.val, x.src.val, .int .i64 16, .slice (some ⟨b0, o0, none⟩) 1 c0, .int .i64 0, .int .i64 0, .int .i64 0, .string ⟨#[]⟩, .string ⟨#[]⟩, x.order.val, x.sets.val] 34 := by
    have h := bz
    unfold XSt.enc at h
    rw [hk, ht, hz] at h
    exact h
  have HBZ := Lib.hid hbz
  have HBL := Lib.hid (b1.trans (bl.mono b1.size))
  have HK := Lib.hid (And.intro ((bl.cell (p := ⟨b0, o0, none⟩) hb0).trans k0) (And.intro ((bl.cell (p := ⟨b0, o0 + 1, none⟩) hb0).trans k1) ((bl.cell (p := ⟨b2, o2 + 7, none⟩) hb2).trans k2)))
  have HN := Lib.hid (And.intro (Nat.lt_of_lt_of_le hb0 bl.size) (Nat.lt_of_lt_of_le hb2 bl.size))
  have HM := Lib.hid (show XE.Mem (GE w.heap.size) wz x.whr from m1.whr)
  have HW := Lib.hid hw
  have HZ := Lib.hid hz
  clear hbz bl b1 k0 k1 k2 hb0 hb2 m1 f1 bz fz hst hn mx hk ht hw hx hx1 hz H1
  go_wp2_with (first | (refine wpSt rfl _ _ rfl rfl rfl HST.out ?_; clear HST))
  try go_at_call 13
  refine (H2.out wz HBL.out).mono ?_
  rintro e w2 ⟨bq, rfl⟩
  have hn := Bx.new w2 #[.int .i64 0, .string ⟨#[]⟩, .string ⟨#[]⟩, .slice none 0 0, .slice none 0 0, .bool false, .slice none 0 0, .slice none 0 0, .slice none 0 0, .int .i64 0, .slice none 0 0, .int .i64 0, .int .i64 0, .int .i64 0, .string ⟨#[]⟩, .string ⟨#[]⟩, .slice none 0 0, .slice none 0 0] 34
  obtain ⟨wy, hst, fz, bz⟩ := st_V hn rfl ({ kind := 0 } : XSt)
  have HST := Lib.hid (show (Instr.storeAt 34 (.pointer (some ⟨w2.heap.size, 0, none⟩)) (.agg #[.int .i64 0, .string ⟨#[]⟩, .string ⟨#[]⟩, .slice none 0 0, .slice none 0 0, .bool false, .slice none 0 0, .slice none 0 0, .slice none 0 0, .int .i64 0, .slice none 0 0, .int .i64 0, .int .i64 0, .int .i64 0, .string ⟨#[]⟩, .string ⟨#[]⟩, .slice none 0 0, .slice none 0 0])).run Tryz.prog (w2.alloc (.cells #[.int .i64 0, .string ⟨#[]⟩, .string ⟨#[]⟩, .slice none 0 0, .slice none 0 0, .bool false, .slice none 0 0, .slice none 0 0, .slice none 0 0, .int .i64 0, .slice none 0 0, .int .i64 0, .int .i64 0, .int .i64 0, .string ⟨#[]⟩, .string ⟨#[]⟩, .slice none 0 0, .slice none 0 0] 34)) = .ok () wy from hst)
  have f1 : Frm (fun k => w2.heap.size ≤ k) w2 wy := (Frm.of_below (F := fun k => w2.heap.size ≤ k) ((Below.refl _ _).alloc (Nat.le_refl _) _)).trans fz (fun k hk => .inl (Nat.le_of_eq hk.symm))
  have bl : Below w2.heap.size w2 wy := f1.below (fun k hk => hk) (Nat.le_refl _)
  have b3 : Below wz.heap.size wz wy := bq.trans (bl.mono bq.size)
  have HB3 := Lib.hid b3
  have HBY := Lib.hid (HBZ.out.below b3)
  have k0 := (b3.cell (p := ⟨b0, o0, none⟩) HN.out.1).trans HK.out.1
  have g9 := HBY.out.cell (o := 9) (v := .int .i64 16) rfl
  have g10 := HBY.out.cell (o := 10) (v := .slice (some ⟨b0, o0, none⟩) 1 c0) rfl
  have g11 := HBY.out.cell (o := 11) (v := .int .i64 0) rfl
  have g12 := HBY.out.cell (o := 12) (v := .int .i64 0) rfl
  have g13 := HBY.out.cell (o := 13) (v := .int .i64 0) rfl
  have g14 := HBY.out.cell (o := 14) (v := .string ⟨#[]⟩) rfl
  have g15 := HBY.out.cell (o := 15) (v := .string ⟨#[]⟩) rfl
  have gl := HBY.out.lt
  have b4 : Below wy.heap.size wy (wy.alloc (.cells #[.int .i64 16, .slice (some ⟨b0, o0, none⟩) 1 c0, .int .i64 0, .int .i64 0, .int .i64 0, .string ⟨#[]⟩, .string ⟨#[]⟩] 30)) := (Below.refl _ _).alloc (Nat.le_refl _) _
  have hv : Bx (wy.alloc (.cells #[.int .i64 16, .slice (some ⟨b0, o0, none⟩) 1 c0, .int .i64 0, .int .i64 0, .int .i64 0, .string ⟨#[]⟩, .string ⟨#[]⟩] 30)) wy.heap.size #[.int .i64 16, .slice (some ⟨b0, o0, none⟩) 1 c0, .int .i64 0, .int .i64 0, .int .i64 0, .string ⟨#[]⟩, .string ⟨#[]⟩] 30 := Bx.new wy _ _
  have b5 : Below wz.heap.size wz (wy.alloc (.cells #[.int .i64 16, .slice (some ⟨b0, o0, none⟩) 1 c0, .int .i64 0, .int .i64 0, .int .i64 0, .string ⟨#[]⟩, .string ⟨#[]⟩] 30)) := HB3.out.trans (b4.mono HB3.out.size)
  have HBV := Lib.hid b5
  have hs := HBZ.out.below b5
  have c0s := hs.cell (o := 0) (v := .int .i64 8) rfl
  have c1s := hs.cell (o := 1) (v := .string ⟨#[116]⟩) rfl
  have x0 := hv.cell (o := 0) (v := .int .i64 16) rfl
  have x1 := hv.cell (o := 1) (v := .slice (some ⟨b0, o0, none⟩) 1 c0) rfl
  have x2 := hv.cell (o := 2) (v := .int .i64 0) rfl
  have x3 := hv.cell (o := 3) (v := .int .i64 0) rfl
  have x4 := hv.cell (o := 4) (v := .int .i64 0) rfl
  have x5 := hv.cell (o := 5) (v := .string ⟨#[]⟩) rfl
  have x6 := hv.cell (o := 6) (v := .string ⟨#[]⟩) rfl
  have y0 := (b5.cell (p := ⟨b0, o0, none⟩) HN.out.1).trans HK.out.1
  have y1 := (b5.cell (p := ⟨b0, o0 + 1, none⟩) HN.out.1).trans HK.out.2.1
  have y2 := (b5.cell (p := ⟨b2, o2 + 7, none⟩) HN.out.2).trans HK.out.2.2
  have HD := Lib.hid (depth_p 5 (K := GE w.heap.size) (w := (wy.alloc (.cells #[.int .i64 16, .slice (some ⟨b0, o0, none⟩) 1 c0, .int .i64 0, .int .i64 0, .int .i64 0, .string ⟨#[]⟩, .string ⟨#[]⟩] 30))) x.whr (by rw [HW.out, prX_dep]; omega) (by rw [HW.out, prX_dep]; omega) (by rw [HW.out]; exact prX_wf) (HM.out.below b5))
  rw [HW.out, prX_dep, HZ.out] at HD
  have b6 : Below w.heap.size w (wy.alloc (.cells #[.int .i64 16, .slice (some ⟨b0, o0, none⟩) 1 c0, .int .i64 0, .int .i64 0, .int .i64 0, .string ⟨#[]⟩, .string ⟨#[]⟩] 30)) := HBL.out.trans (b5.mono HBL.out.size)
  have HB6 := Lib.hid b6
  clear hst fz bz f1 bl bq hn b3 k0 b4 hv b5 hs b6
  go_wp2_with (first | (refine wpSt rfl _ _ rfl rfl rfl HST.out ?_; clear HST))
  try go_at_call 27
  refine HD.out.mono ?_
  rintro e w' ⟨rfl, bd⟩
  have HF := Lib.hid (HB6.out.trans (bd.mono HB6.out.size))
  clear bd
  go_wp2_with fail
  rw [← HP.out]
  exact ⟨rfl, HF.out⟩

end Go.Proofs.YtkffomfbnbcgaaaGreatDoor

namespace Go.Proofs.YtkffomfbnbcgaaaGreatDoor
set_option maxRecDepth 100000
open Go.RowKit Go.Joins Go.ChangeShapes Go.WideShapes
set_option linter.unusedVariables false
set_option linter.unusedSimpArgs false

/-- SameExpr says yes of two that mean one, as long as they are less deep than N -/
def SameQ (N : Nat) : Prop := ∀ (K K' : Bl) (w : World) (x y : XE), depR x.er < N → x.er = y.er → XE.Mem K w x → XE.Mem K' w y →
    Calls Tryz.prog 21 #[x.val, y.val] w fun e w' => e = .returned (.bool true) ∧ Below w.heap.size w w'
set_option maxHeartbeats 4000000 in
theorem sames_q {N : Nat} (HE : SameQ N) {K K' : Bl} {w : World} (l r : List XE) (a a' : Option Addr) (cap cap' : Nat) (h : XE.erL l = XE.erL r) (hd : ∀ x ∈ l, depR x.er < N)
    (hm : XE.Mem K w (.mk 0 0 0 0 ⟨#[]⟩ ⟨#[]⟩ a cap l)) (hm' : XE.Mem K' w (.mk 0 0 0 0 ⟨#[]⟩ ⟨#[]⟩ a' cap' r)) :
    Calls Tryz.prog 34 #[.slice a l.length cap, .slice a' r.length cap'] w fun e w' => e = .returned (.bool true) ∧ Below w.heap.size w w' := by
  generalize hP : (fun (e : Ending) (w' : World) => e = .returned (.bool true) ∧ Below w.heap.size w w') = P
  have HP := Lib.hid hP
  obtain ⟨n, hn⟩ : ∃ n, l.length = n := ⟨_, rfl⟩
  have hn' : r.length = n := by rw [← XE.erL_length, ← h, XE.erL_length]; exact hn
  have hnc : n ≤ cap := by rw [← hn]; unfold XE.Mem at hm; exact hm.1
  have hnc' : n ≤ cap' := by rw [← hn']; unfold XE.Mem at hm'; exact hm'.1
  have hcm : cap ≤ maxLen := by unfold XE.Mem at hm; exact hm.2.1
  have hcm' : cap' ≤ maxLen := by unfold XE.Mem at hm'; exact hm'.2.1
  have HM := Lib.hid (And.intro hm hm')
  have HD := Lib.hid (And.intro h hd)
  have HL := Lib.hid (And.intro hn hn')
  have HQ := Lib.hid HE
  rw [hn, hn']
  clear hP hm hm' h hd hn hn' HE
  go_enter Tryz.func34, Tryz.ntmps34
  go_wp2_with fail
  go_loopw [5] (fun i wr => ∃ (k : Nat), k ≤ n ∧ i = .int .i64 (k : Int) ∧ Hid (Below w.heap.size w wr)) (fun i _ => n - (intOf i).toNat)
  case atStart => exact ⟨0, Nat.zero_le _, rfl, Lib.hid (Below.refl _ _)⟩
  case round =>
    obtain ⟨k, hk, rfl, HW⟩ := hrel
    by_cases c : k < n
    · have c1 : (k : Int) < (n : Int) := by omega
      have hx : l[k]? = some (l[k]'(by rw [HL.out.1]; exact c)) := List.getElem?_eq_getElem _
      generalize l[k]'(by rw [HL.out.1]; exact c) = x at *
      have hy : r[k]? = some (r[k]'(by rw [HL.out.2]; exact c)) := List.getElem?_eq_getElem _
      generalize r[k]'(by rw [HL.out.2]; exact c) = y at *
      obtain ⟨b, o, rfl, -, hb, hcell, hmx⟩ := XE.Mem.at (HM.out.1.below HW.out) hx
      obtain ⟨b', o', rfl, -, hb', hcell', hmy⟩ := XE.Mem.at (HM.out.2.below HW.out) hy
      have hxy : x.er = y.er := by
        have e1 : (XE.erL l)[k]? = some x.er := by rw [XE.erL_map, List.getElem?_map, hx]; rfl
        have e2 : (XE.erL r)[k]? = some y.er := by rw [XE.erL_map, List.getElem?_map, hy]; rfl
        rw [HD.out.1, e2] at e1
        injection e1 with e1
        exact e1.symm
      have hdx := HD.out.2 x (List.mem_of_getElem? hx)
      have HCA := Lib.hid (fun (wv : World) (hb : Below wr.heap.size wr wv) => HQ.out K K' wv x y hdx hxy (hmx.below hb) (hmy.below hb))
      obtain ⟨op1, kind1, num1, scale1, text1, qual1, a1, cap1, args1⟩ := x
      obtain ⟨op2, kind2, num2, scale2, text2, qual2, a2, cap2, args2⟩ := y
      have q0 := hcell 0 _ rfl
      have q1 := hcell 1 _ rfl
      have q2 := hcell 2 _ rfl
      have q3 := hcell 3 _ rfl
      have q4 := hcell 4 _ rfl
      have q5 := hcell 5 _ rfl
      have q6 := hcell 6 _ rfl
      have p0 := hcell' 0 _ rfl
      have p1 := hcell' 1 _ rfl
      have p2 := hcell' 2 _ rfl
      have p3 := hcell' 3 _ rfl
      have p4 := hcell' 4 _ rfl
      have p5 := hcell' 5 _ rfl
      have p6 := hcell' 6 _ rfl
      rw [Nat.add_zero] at q0 p0
      simp only [XE.val] at HCA
      have hwk : wrap64 ((k : Int) + 1) = ((k + 1 : Nat) : Int) := by unfold wrap64 maxLen at *; omega
      clear hx hy hcell hcell' hmx hmy hxy hdx
      go_wp2_with fail
      go_region_with (first | (go_at_call 21; refine (HCA.out _ (Below.refl _ _).drew).mono ?_; rintro e w2 ⟨rfl, b2⟩; have HB2 := Lib.hid (HW.out.trans ((Below.drew (Below.refl _ _)).trans b2 |>.mono HW.out.size)); clear b2))
      all_goals
        go_wp2_with fail
        refine ⟨⟨k + 1, by omega, by rw [hwk], HB2⟩, ?_⟩
        rw [hwk]
        simp [intOf]
        omega
    · have c2 : decide ((k : Int) < (n : Int)) = false := by simp; omega
      obtain rfl : k = n := by omega
      have HF := Lib.hid (show P (.returned (.bool true)) wr by rw [← HP.out]; exact ⟨rfl, HW.out⟩)
      go_wp2_with fail
      exact HF.out
set_option maxHeartbeats 4000000 in
theorem same_q : ∀ N : Nat, SameQ N
  | 0 => fun K K' w x y h => absurd h (by omega)
  | N + 1 => fun K K' w x y h he hm hm' => by
    obtain ⟨op, kind, num, scale, text, qual, a, cap, args⟩ := x
    obtain ⟨op', kind', num', scale', text', qual', a', cap', args'⟩ := y
    simp only [XE.er, Ex.mk.injEq] at he
    obtain ⟨rfl, rfl, rfl, rfl, rfl, rfl, hl⟩ := he
    simp only [XE.er] at h
    rw [depR] at h
    have hd : ∀ x ∈ args, depR x.er < N := fun x hx => by
      have hne : XE.erL args ≠ [] := fun e => by rw [XE.erL_map] at e; rw [List.map_eq_nil_iff.1 e] at hx; cases hx
      have h1 := depL_mx _ hne
      have h2 := mxL_mem (l := XE.erL args) (e := x.er) (by rw [XE.erL_map]; exact List.mem_map_of_mem hx)
      omega
    have m1 : XE.Mem K w (.mk 0 0 0 0 ⟨#[]⟩ ⟨#[]⟩ a cap args) := by unfold XE.Mem at hm ⊢; exact hm
    have m2 : XE.Mem K' w (.mk 0 0 0 0 ⟨#[]⟩ ⟨#[]⟩ a' cap' args') := by unfold XE.Mem at hm' ⊢; exact hm'
    have HS := Lib.hid (fun (wv : World) (hb : Below w.heap.size w wv) => sames_q (same_q N) args args' a a' cap cap' hl hd (m1.below hb) (m2.below hb))
    have hn1 := Bx.new w #[.int .i64 op, .slice a args.length cap, .int .i64 kind, .int .i64 num, .int .i64 scale, .string text, .string qual] 30
    have b1 : Below w.heap.size w (w.alloc (.cells #[.int .i64 op, .slice a args.length cap, .int .i64 kind, .int .i64 num, .int .i64 scale, .string text, .string qual] 30)) := (Below.refl _ _).alloc (Nat.le_refl _) _
    have hs1 : (w.alloc (.cells #[.int .i64 op, .slice a args.length cap, .int .i64 kind, .int .i64 num, .int .i64 scale, .string text, .string qual] 30)).heap.size = w.heap.size + 1 := by simp
    obtain ⟨wa, hwa⟩ : ∃ wa, w.alloc (.cells #[.int .i64 op, .slice a args.length cap, .int .i64 kind, .int .i64 num, .int .i64 scale, .string text, .string qual] 30) = wa := ⟨_, rfl⟩
    rw [hwa] at hn1 b1 hs1
    have hn2 := Bx.new wa #[.int .i64 op, .slice a' args'.length cap', .int .i64 kind, .int .i64 num, .int .i64 scale, .string text, .string qual] 30
    have b2 : Below wa.heap.size wa (wa.alloc (.cells #[.int .i64 op, .slice a' args'.length cap', .int .i64 kind, .int .i64 num, .int .i64 scale, .string text, .string qual] 30)) := (Below.refl _ _).alloc (Nat.le_refl _) _
    have hn3 := hn1.below b2
    have b3 := b1.trans (b2.mono b1.size)
    have HC := Lib.hid (HS.out _ b3)
    have HB3 := Lib.hid b3
    obtain ⟨⟨x0, x1, x2, x3, x4, x5, x6⟩, -⟩ := hn3.seven
    obtain ⟨⟨y0, y1, y2, y3, y4, y5, y6⟩, -⟩ := hn2.seven
    obtain ⟨wb, hwb⟩ : ∃ wb, wa.alloc (.cells #[.int .i64 op, .slice a' args'.length cap', .int .i64 kind, .int .i64 num, .int .i64 scale, .string text, .string qual] 30) = wb := ⟨_, rfl⟩
    rw [hwb] at HC HB3 x0 x1 x2 x3 x4 x5 x6 y0 y1 y2 y3 y4 y5 y6
    clear hs1
    generalize hP : (fun (e : Ending) (w' : World) => e = .returned (.bool true) ∧ Below w.heap.size w w') = P
    have HP := Lib.hid hP
    simp only [XE.val]
    clear hP hn1 hn2 hn3 b1 b2 b3 HS hm hm' m1 m2 hd hl h
    go_enter Tryz.func21, Tryz.ntmps21
    go_wp2_with fail
    try go_at_call 34
    refine HC.out.mono ?_
    rintro e w2 ⟨rfl, bz⟩
    have HF := Lib.hid (show P (.returned (.bool true)) w2 by rw [← HP.out]; exact ⟨rfl, HB3.out.trans (bz.mono HB3.out.size)⟩)
    clear bz
    go_wp2_with fail
    exact HF.out

end Go.Proofs.YtkffomfbnbcgaaaGreatDoor

namespace Go.Proofs.YtkffomfbnbcgaaaGreatDoor
set_option maxRecDepth 100000
open Go.RowKit Go.Joins Go.ChangeShapes Go.WideShapes
set_option linter.unusedVariables false
set_option linter.unusedSimpArgs false

theorem same_any {K K' : Bl} {w : World} (x y : XE) (h : x.er = y.er) (hm : XE.Mem K w x) (hm' : XE.Mem K' w y) :
    Calls Tryz.prog 21 #[x.val, y.val] w fun e w' => e = .returned (.bool true) ∧ Below w.heap.size w w' :=
  same_q (depR x.er + 1) K K' w x y (Nat.lt_succ_self _) h hm hm'
/-- a part of a list that lies -/
theorem XL.Mem.at {α β : Type} {P : Program} {E : EK P α β} {K : Bl} {w : World} {y : XL α} (h : XL.Mem E K w y) {k : Nat} {x : α} (hx : y.xs[k]? = some x) :
    ∃ b o, y.a = some ⟨b, o, none⟩ ∧ K b ∧ b < w.heap.size ∧ (∀ j u, (E.enc x)[j]? = some u → w.cell? ⟨b, o + k * E.n + j, none⟩ = some u) ∧ E.Mem K w x := by
  obtain ⟨h1, h2, h3, h4⟩ := h
  rcases h3 with h3 | ⟨b, o, e1, e2, e3, e4⟩
  · rw [h3] at hx; simp at hx
  · refine ⟨b, o, e1, e2, e3, fun j u hj => ?_, h4 x (List.mem_of_getElem? hx)⟩
    have hjn : j < E.n := by rw [← E.len x]; exact (List.getElem?_eq_some_iff.1 hj).1
    rw [Nat.add_assoc]
    exact e4 _ u ((RK.cells_at E.toRK y.xs k j x hx hjn).trans hj)
/-- two lists that mean one, part by part -/
theorem two_at {α β : Type} {P : Program} {E : EK P α β} {x y : XL α} (h : x.xs.map E.er = y.xs.map E.er) {k : Nat} (hk : k < x.xs.length) :
    ∃ p q, x.xs[k]? = some p ∧ y.xs[k]? = some q ∧ E.er p = E.er q := by
  have hl : y.xs.length = x.xs.length := by have := congrArg List.length h; simpa using this.symm
  have hx : x.xs[k]? = some (x.xs[k]'hk) := List.getElem?_eq_getElem _
  have hy : y.xs[k]? = some (y.xs[k]'(by omega)) := List.getElem?_eq_getElem _
  refine ⟨_, _, hx, hy, ?_⟩
  have e1 : (x.xs.map E.er)[k]? = some (E.er (x.xs[k]'hk)) := by rw [List.getElem?_map, hx]; rfl
  have e2 : (y.xs.map E.er)[k]? = some (E.er (y.xs[k]'(by omega))) := by rw [List.getElem?_map, hy]; rfl
  rw [h, e2] at e1
  injection e1 with e1
  exact e1.symm

theorem XSt.enc_16 (x : XSt) : x.enc.toArray[16]? = some x.order.val := by
  obtain ⟨x0, x1, x2, x3, x4, x5, x6, x7, x8, x9, x10, x11⟩ := x
  obtain ⟨e0, e1, e2, e3, e4, e5, e6, e7, e8⟩ := x9
  rfl
theorem XSt.enc_17 (x : XSt) : x.enc.toArray[17]? = some x.sets.val := by
  obtain ⟨x0, x1, x2, x3, x4, x5, x6, x7, x8, x9, x10, x11⟩ := x
  obtain ⟨e0, e1, e2, e3, e4, e5, e6, e7, e8⟩ := x9
  rfl
theorem clq {w w0 w1 : World} {Q : Prop} (h : Below w.heap.size w w0 ∧ Q) (hb : Below w0.heap.size w0 w1) : Below w.heap.size w w1 := h.1.trans (hb.mono h.1.size)
set_option maxHeartbeats 8000000 in
theorem last_q {K K' : Bl} {w : World} (x y : XSt) (h : x.er = y.er) (hm : XSt.Mem K w x) (hm' : XSt.Mem K' w y) :
    Calls Tryz.prog 35 #[x.val, y.val] w fun e w' => e = .returned (.bool true) ∧ Below w.heap.size w w' := by
  have h1 : x.order.xs.map srk.er = y.order.xs.map srk.er := congrArg Stm.order h
  have h2 : x.sets.xs.map sek.er = y.sets.xs.map sek.er := congrArg Stm.sets h
  have hn1 := Bx.new w x.enc.toArray 34
  have b1 : Below w.heap.size w (w.alloc (.cells x.enc.toArray 34)) := (Below.refl _ _).alloc (Nat.le_refl _) _
  obtain ⟨wa, hwa⟩ : ∃ wa, w.alloc (.cells x.enc.toArray 34) = wa := ⟨_, rfl⟩
  rw [hwa] at hn1 b1
  have hn2 := Bx.new wa y.enc.toArray 34
  have b2 : Below wa.heap.size wa (wa.alloc (.cells y.enc.toArray 34)) := (Below.refl _ _).alloc (Nat.le_refl _) _
  have hn3 := hn1.below b2
  have b3 := b1.trans (b2.mono b1.size)
  obtain ⟨wb, hwb⟩ : ∃ wb, wa.alloc (.cells y.enc.toArray 34) = wb := ⟨_, rfl⟩
  rw [hwb] at b2 hn2 hn3 b3
  obtain ⟨n, hn⟩ : ∃ n, x.order.xs.length = n := ⟨_, rfl⟩
  have hn' : y.order.xs.length = n := by have := congrArg List.length h1; simp at this; omega
  obtain ⟨m, hsm⟩ : ∃ m, x.sets.xs.length = m := ⟨_, rfl⟩
  have hsm' : y.sets.xs.length = m := by have := congrArg List.length h2; simp at this; omega
  have x16 : Hid (wb.cell? ⟨w.heap.size, 16, none⟩ = some (.slice x.order.a n x.order.cap)) := Lib.hid (by rw [← hn]; exact hn3.cell (XSt.enc_16 x))
  have y16 : Hid (wb.cell? ⟨wa.heap.size, 16, none⟩ = some (.slice y.order.a n y.order.cap)) := Lib.hid (by rw [← hn']; exact hn2.cell (XSt.enc_16 y))
  have x17 : Hid (wb.cell? ⟨w.heap.size, 17, none⟩ = some (.slice x.sets.a m x.sets.cap)) := Lib.hid (by rw [← hsm]; exact hn3.cell (XSt.enc_17 x))
  have y17 : Hid (wb.cell? ⟨wa.heap.size, 17, none⟩ = some (.slice y.sets.a m y.sets.cap)) := Lib.hid (by rw [← hsm']; exact hn2.cell (XSt.enc_17 y))
  have HS := Lib.hid (And.intro hn3.lt hn2.lt)
  have HO := Lib.hid (And.intro (hm.order.below b3) (hm'.order.below b3))
  have HT := Lib.hid (And.intro (hm.sets.below b3) (hm'.sets.below b3))
  have HE := Lib.hid (And.intro h1 (And.intro h2 (And.intro hn hsm)))
  have hnm : n ≤ maxLen := by rw [← hn]; exact Nat.le_trans hm.order.1 hm.order.2.1
  have hmm : m ≤ maxLen := by rw [← hsm]; exact Nat.le_trans hm.sets.1 hm.sets.2.1
  have HB := Lib.hid b3
  generalize hP : (fun (e : Ending) (w' : World) => e = .returned (.bool true) ∧ Below w.heap.size w w') = P
  have HP := Lib.hid hP
  simp only [XSt.val]
  obtain ⟨oa, hoa⟩ : ∃ oa, x.order.a = oa := ⟨_, rfl⟩
  obtain ⟨oc, hoc⟩ : ∃ oc, x.order.cap = oc := ⟨_, rfl⟩
  obtain ⟨ya, hya⟩ : ∃ ya, y.order.a = ya := ⟨_, rfl⟩
  obtain ⟨yc, hyc⟩ : ∃ yc, y.order.cap = yc := ⟨_, rfl⟩
  have HA := Lib.hid (And.intro hoa hya)
  rw [hoa, hoc] at x16
  rw [hya, hyc] at y16
  clear hP hn1 hn2 hn3 b1 b2 b3 hm hm' h h1 h2 hn hn' hsm hsm' hoa hoc hya hyc
  go_enter Tryz.func35, Tryz.ntmps35
  go_wp2_with fail
  go_loopw [5] (fun i wr => ∃ (k : Nat), k ≤ n ∧ i = .int .i64 (k : Int) ∧ Hid (Below wb.heap.size wb wr)) (fun i _ => n - (intOf i).toNat)
  case atStart => exact ⟨0, Nat.zero_le _, rfl, Lib.hid (Below.refl _ _)⟩
  case round =>
    obtain ⟨k, hk, rfl, HW⟩ := hrel
    have z1 := (HW.out.cell (p := ⟨w.heap.size, 16, none⟩) HS.out.1).trans x16.out
    have z2 := (HW.out.cell (p := ⟨wa.heap.size, 16, none⟩) HS.out.2).trans y16.out
    by_cases c : k < n
    · have c1 : (k : Int) < (n : Int) := by omega
      obtain ⟨⟨xe, d⟩, ⟨ye, d'⟩, hx, hy, hxy⟩ := two_at HE.out.1 (k := k) (by rw [HE.out.2.2.1]; exact c)
      have hdd : d = d' := congrArg Srt.desc hxy
      have hee : xe.er = ye.er := congrArg Srt.e hxy
      subst hdd
      obtain ⟨b, o, eb, -, hb, hcell, hmx⟩ := XL.Mem.at (HO.out.1.below HW.out) hx
      obtain ⟨b', o', eb', -, hb', hcell', hmy⟩ := XL.Mem.at (HO.out.2.below HW.out) hy
      obtain rfl := HA.out.1.symm.trans eb
      obtain rfl := HA.out.2.symm.trans eb'
      have HCA := Lib.hid (fun (wv : World) (hbv : Below wr.heap.size wr wv) => same_any (w := wv) xe ye hee (hmx.below hbv) (hmy.below hbv))
      obtain ⟨op1, kind1, num1, scale1, text1, qual1, a1, cap1, args1⟩ := xe
      obtain ⟨op2, kind2, num2, scale2, text2, qual2, a2, cap2, args2⟩ := ye
      have hcl : ∀ j u, (srk.enc (XE.mk op1 kind1 num1 scale1 text1 qual1 a1 cap1 args1, d))[j]? = some u → wr.cell? ⟨b, o + k * 8 + j, none⟩ = some u := hcell
      have hcl' : ∀ j u, (srk.enc (XE.mk op2 kind2 num2 scale2 text2 qual2 a2 cap2 args2, d))[j]? = some u → wr.cell? ⟨b', o' + k * 8 + j, none⟩ = some u := hcell'
      have q0 := hcl 0 _ rfl
      have q1 := hcl 1 _ rfl
      have q2 := hcl 2 _ rfl
      have q3 := hcl 3 _ rfl
      have q4 := hcl 4 _ rfl
      have q5 := hcl 5 _ rfl
      have q6 := hcl 6 _ rfl
      have q7 := hcl 7 _ rfl
      have p0 := hcl' 0 _ rfl
      have p1 := hcl' 1 _ rfl
      have p2 := hcl' 2 _ rfl
      have p3 := hcl' 3 _ rfl
      have p4 := hcl' 4 _ rfl
      have p5 := hcl' 5 _ rfl
      have p6 := hcl' 6 _ rfl
      have p7 := hcl' 7 _ rfl
      rw [Nat.add_zero] at q0 p0
      have HK := Lib.hid (fun (w0 : World) (hb0 : Below wr.heap.size wr w0) => show Below wr.heap.size wr w0 ∧ w0.cell? ⟨w.heap.size, 16, none⟩ = some (.slice (some ⟨b, o, none⟩) n oc) ∧ w0.cell? ⟨wa.heap.size, 16, none⟩ = some (.slice (some ⟨b', o', none⟩) n yc) ∧ w0.cell? ⟨b, o + k * 8, none⟩ = some (.int .i64 op1) ∧ w0.cell? ⟨b, o + k * 8 + 1, none⟩ = some (.slice a1 args1.length cap1) ∧ w0.cell? ⟨b, o + k * 8 + 2, none⟩ = some (.int .i64 kind1) ∧ w0.cell? ⟨b, o + k * 8 + 3, none⟩ = some (.int .i64 num1) ∧ w0.cell? ⟨b, o + k * 8 + 4, none⟩ = some (.int .i64 scale1) ∧ w0.cell? ⟨b, o + k * 8 + 5, none⟩ = some (.string text1) ∧ w0.cell? ⟨b, o + k * 8 + 6, none⟩ = some (.string qual1) ∧ w0.cell? ⟨b, o + k * 8 + 7, none⟩ = some (.bool d) ∧ w0.cell? ⟨b', o' + k * 8, none⟩ = some (.int .i64 op2) ∧ w0.cell? ⟨b', o' + k * 8 + 1, none⟩ = some (.slice a2 args2.length cap2) ∧ w0.cell? ⟨b', o' + k * 8 + 2, none⟩ = some (.int .i64 kind2) ∧ w0.cell? ⟨b', o' + k * 8 + 3, none⟩ = some (.int .i64 num2) ∧ w0.cell? ⟨b', o' + k * 8 + 4, none⟩ = some (.int .i64 scale2) ∧ w0.cell? ⟨b', o' + k * 8 + 5, none⟩ = some (.string text2) ∧ w0.cell? ⟨b', o' + k * 8 + 6, none⟩ = some (.string qual2) ∧ w0.cell? ⟨b', o' + k * 8 + 7, none⟩ = some (.bool d) from
        ⟨hb0, (hb0.cell (p := ⟨w.heap.size, 16, none⟩) (Nat.lt_of_lt_of_le HS.out.1 HW.out.size)).trans z1, (hb0.cell (p := ⟨wa.heap.size, 16, none⟩) (Nat.lt_of_lt_of_le HS.out.2 HW.out.size)).trans z2, (hb0.cell (by exact hb)).trans q0, (hb0.cell (by exact hb)).trans q1, (hb0.cell (by exact hb)).trans q2, (hb0.cell (by exact hb)).trans q3, (hb0.cell (by exact hb)).trans q4, (hb0.cell (by exact hb)).trans q5, (hb0.cell (by exact hb)).trans q6, (hb0.cell (by exact hb)).trans q7, (hb0.cell (by exact hb')).trans p0, (hb0.cell (by exact hb')).trans p1, (hb0.cell (by exact hb')).trans p2, (hb0.cell (by exact hb')).trans p3, (hb0.cell (by exact hb')).trans p4, (hb0.cell (by exact hb')).trans p5, (hb0.cell (by exact hb')).trans p6, (hb0.cell (by exact hb')).trans p7⟩)
      simp only [XE.val] at HCA
      have hwk : wrap64 ((k : Int) + 1) = ((k + 1 : Nat) : Int) := by unfold wrap64 maxLen at *; omega
      clear hx hy hcell hcell' hcl hcl' hmx hmy hee hxy eb eb'
      go_wp2_with fail
      go_region_held3 (fun w0 => Below wr.heap.size wr w0 ∧ w0.cell? ⟨w.heap.size, 16, none⟩ = some (.slice (some ⟨b, o, none⟩) n oc) ∧ w0.cell? ⟨wa.heap.size, 16, none⟩ = some (.slice (some ⟨b', o', none⟩) n yc) ∧ w0.cell? ⟨b, o + k * 8, none⟩ = some (.int .i64 op1) ∧ w0.cell? ⟨b, o + k * 8 + 1, none⟩ = some (.slice a1 args1.length cap1) ∧ w0.cell? ⟨b, o + k * 8 + 2, none⟩ = some (.int .i64 kind1) ∧ w0.cell? ⟨b, o + k * 8 + 3, none⟩ = some (.int .i64 num1) ∧ w0.cell? ⟨b, o + k * 8 + 4, none⟩ = some (.int .i64 scale1) ∧ w0.cell? ⟨b, o + k * 8 + 5, none⟩ = some (.string text1) ∧ w0.cell? ⟨b, o + k * 8 + 6, none⟩ = some (.string qual1) ∧ w0.cell? ⟨b, o + k * 8 + 7, none⟩ = some (.bool d) ∧ w0.cell? ⟨b', o' + k * 8, none⟩ = some (.int .i64 op2) ∧ w0.cell? ⟨b', o' + k * 8 + 1, none⟩ = some (.slice a2 args2.length cap2) ∧ w0.cell? ⟨b', o' + k * 8 + 2, none⟩ = some (.int .i64 kind2) ∧ w0.cell? ⟨b', o' + k * 8 + 3, none⟩ = some (.int .i64 num2) ∧ w0.cell? ⟨b', o' + k * 8 + 4, none⟩ = some (.int .i64 scale2) ∧ w0.cell? ⟨b', o' + k * 8 + 5, none⟩ = some (.string text2) ∧ w0.cell? ⟨b', o' + k * 8 + 6, none⟩ = some (.string qual2) ∧ w0.cell? ⟨b', o' + k * 8 + 7, none⟩ = some (.bool d))
        (first | exact HK.out _ (Below.refl _ _) | exact HK.out _ (Below.refl _ _).drew | exact HK.out _ hbx)
        (first | (go_at_call 21; refine (HCA.out _ (And.left (by assumption))).mono ?_; rintro e w1 ⟨rfl, hbx0⟩; have hbx : Below wr.heap.size wr w1 := clq (by assumption) hbx0))
      all_goals
        go_wp2_with fail
        refine ⟨⟨k + 1, by omega, by rw [hwk], Lib.hid (HW.out.trans (hbx.mono HW.out.size))⟩, ?_⟩
        rw [hwk]
        simp [intOf]
        omega
    · have c2 : decide ((k : Int) < (n : Int)) = false := by simp; omega
      obtain rfl : k = n := by omega
      have HWQ := HW
      clear HW HO
      obtain ⟨oa2, hoa⟩ : ∃ oa2, x.sets.a = oa2 := ⟨_, rfl⟩
      obtain ⟨oc2, hoc⟩ : ∃ oc2, x.sets.cap = oc2 := ⟨_, rfl⟩
      obtain ⟨ya2, hya⟩ : ∃ ya2, y.sets.a = ya2 := ⟨_, rfl⟩
      obtain ⟨yc2, hyc⟩ : ∃ yc2, y.sets.cap = yc2 := ⟨_, rfl⟩
      clear HA
      have HA := Lib.hid (And.intro hoa hya)
      rw [hoa, hoc] at x17
      rw [hya, hyc] at y17
      clear hoa hya hoc hyc x16 y16
      go_wp2_with fail
      go_loopw [6] (fun i wr => ∃ (j : Nat), j ≤ m ∧ i = .int .i64 (j : Int) ∧ Hid (Below wb.heap.size wb wr)) (fun i _ => m - (intOf i).toNat)
      case atStart => exact ⟨0, Nat.zero_le _, rfl, HWQ⟩
      case round =>
       clear z1 z2
       obtain ⟨j, hj, rfl, HW⟩ := hrel
       have z1 := (HW.out.cell (p := ⟨w.heap.size, 17, none⟩) HS.out.1).trans x17.out
       have z2 := (HW.out.cell (p := ⟨wa.heap.size, 17, none⟩) HS.out.2).trans y17.out
       by_cases c : j < m
       · skip
         have c1 : (j : Int) < (m : Int) := by omega
         obtain ⟨⟨d, xe⟩, ⟨d', ye⟩, hx, hy, hxy⟩ := two_at HE.out.2.1 (k := j) (by rw [HE.out.2.2.2]; exact c)
         have hdd : d = d' := congrArg Se.col hxy
         have hee : xe.er = ye.er := congrArg Se.e hxy
         subst hdd
         obtain ⟨b, o, eb, -, hb, hcell, hmx⟩ := XL.Mem.at (HT.out.1.below HW.out) hx
         obtain ⟨b', o', eb', -, hb', hcell', hmy⟩ := XL.Mem.at (HT.out.2.below HW.out) hy
         obtain rfl := HA.out.1.symm.trans eb
         obtain rfl := HA.out.2.symm.trans eb'
         have HCA := Lib.hid (fun (wv : World) (hbv : Below wr.heap.size wr wv) => same_any (w := wv) xe ye hee (hmx.below hbv) (hmy.below hbv))
         obtain ⟨op1, kind1, num1, scale1, text1, qual1, a1, cap1, args1⟩ := xe
         obtain ⟨op2, kind2, num2, scale2, text2, qual2, a2, cap2, args2⟩ := ye
         have hcl : ∀ i u, (sek.enc (d, XE.mk op1 kind1 num1 scale1 text1 qual1 a1 cap1 args1))[i]? = some u → wr.cell? ⟨b, o + j * 8 + i, none⟩ = some u := hcell
         have hcl' : ∀ i u, (sek.enc (d, XE.mk op2 kind2 num2 scale2 text2 qual2 a2 cap2 args2))[i]? = some u → wr.cell? ⟨b', o' + j * 8 + i, none⟩ = some u := hcell'
         have q0 := hcl 0 _ rfl
         have q1 := hcl 1 _ rfl
         have q2 := hcl 2 _ rfl
         have q3 := hcl 3 _ rfl
         have q4 := hcl 4 _ rfl
         have q5 := hcl 5 _ rfl
         have q6 := hcl 6 _ rfl
         have q7 := hcl 7 _ rfl
         have p0 := hcl' 0 _ rfl
         have p1 := hcl' 1 _ rfl
         have p2 := hcl' 2 _ rfl
         have p3 := hcl' 3 _ rfl
         have p4 := hcl' 4 _ rfl
         have p5 := hcl' 5 _ rfl
         have p6 := hcl' 6 _ rfl
         have p7 := hcl' 7 _ rfl
         rw [Nat.add_zero] at q0 p0
         have HK := Lib.hid (fun (w0 : World) (hb0 : Below wr.heap.size wr w0) => show Below wr.heap.size wr w0 ∧ w0.cell? ⟨w.heap.size, 17, none⟩ = some (.slice (some ⟨b, o, none⟩) m oc2) ∧ w0.cell? ⟨wa.heap.size, 17, none⟩ = some (.slice (some ⟨b', o', none⟩) m yc2) ∧ w0.cell? ⟨b, o + j * 8, none⟩ = some (.string (strB d)) ∧ w0.cell? ⟨b, o + j * 8 + 1, none⟩ = some (.int .i64 op1) ∧ w0.cell? ⟨b, o + j * 8 + 2, none⟩ = some (.slice a1 args1.length cap1) ∧ w0.cell? ⟨b, o + j * 8 + 3, none⟩ = some (.int .i64 kind1) ∧ w0.cell? ⟨b, o + j * 8 + 4, none⟩ = some (.int .i64 num1) ∧ w0.cell? ⟨b, o + j * 8 + 5, none⟩ = some (.int .i64 scale1) ∧ w0.cell? ⟨b, o + j * 8 + 6, none⟩ = some (.string text1) ∧ w0.cell? ⟨b, o + j * 8 + 7, none⟩ = some (.string qual1) ∧ w0.cell? ⟨b', o' + j * 8, none⟩ = some (.string (strB d)) ∧ w0.cell? ⟨b', o' + j * 8 + 1, none⟩ = some (.int .i64 op2) ∧ w0.cell? ⟨b', o' + j * 8 + 2, none⟩ = some (.slice a2 args2.length cap2) ∧ w0.cell? ⟨b', o' + j * 8 + 3, none⟩ = some (.int .i64 kind2) ∧ w0.cell? ⟨b', o' + j * 8 + 4, none⟩ = some (.int .i64 num2) ∧ w0.cell? ⟨b', o' + j * 8 + 5, none⟩ = some (.int .i64 scale2) ∧ w0.cell? ⟨b', o' + j * 8 + 6, none⟩ = some (.string text2) ∧ w0.cell? ⟨b', o' + j * 8 + 7, none⟩ = some (.string qual2) from
           ⟨hb0, (hb0.cell (p := ⟨w.heap.size, 17, none⟩) (Nat.lt_of_lt_of_le HS.out.1 HW.out.size)).trans z1, (hb0.cell (p := ⟨wa.heap.size, 17, none⟩) (Nat.lt_of_lt_of_le HS.out.2 HW.out.size)).trans z2, (hb0.cell (by exact hb)).trans q0, (hb0.cell (by exact hb)).trans q1, (hb0.cell (by exact hb)).trans q2, (hb0.cell (by exact hb)).trans q3, (hb0.cell (by exact hb)).trans q4, (hb0.cell (by exact hb)).trans q5, (hb0.cell (by exact hb)).trans q6, (hb0.cell (by exact hb)).trans q7, (hb0.cell (by exact hb')).trans p0, (hb0.cell (by exact hb')).trans p1, (hb0.cell (by exact hb')).trans p2, (hb0.cell (by exact hb')).trans p3, (hb0.cell (by exact hb')).trans p4, (hb0.cell (by exact hb')).trans p5, (hb0.cell (by exact hb')).trans p6, (hb0.cell (by exact hb')).trans p7⟩)
         simp only [XE.val] at HCA
         have hwk : wrap64 ((j : Int) + 1) = ((j + 1 : Nat) : Int) := by unfold wrap64 maxLen at *; omega
         clear hx hy hcell hcell' hcl hcl' hmx hmy hee hxy eb eb'
         go_wp2_with fail
         go_region_held3 (fun w0 => Below wr.heap.size wr w0 ∧ w0.cell? ⟨w.heap.size, 17, none⟩ = some (.slice (some ⟨b, o, none⟩) m oc2) ∧ w0.cell? ⟨wa.heap.size, 17, none⟩ = some (.slice (some ⟨b', o', none⟩) m yc2) ∧ w0.cell? ⟨b, o + j * 8, none⟩ = some (.string (strB d)) ∧ w0.cell? ⟨b, o + j * 8 + 1, none⟩ = some (.int .i64 op1) ∧ w0.cell? ⟨b, o + j * 8 + 2, none⟩ = some (.slice a1 args1.length cap1) ∧ w0.cell? ⟨b, o + j * 8 + 3, none⟩ = some (.int .i64 kind1) ∧ w0.cell? ⟨b, o + j * 8 + 4, none⟩ = some (.int .i64 num1) ∧ w0.cell? ⟨b, o + j * 8 + 5, none⟩ = some (.int .i64 scale1) ∧ w0.cell? ⟨b, o + j * 8 + 6, none⟩ = some (.string text1) ∧ w0.cell? ⟨b, o + j * 8 + 7, none⟩ = some (.string qual1) ∧ w0.cell? ⟨b', o' + j * 8, none⟩ = some (.string (strB d)) ∧ w0.cell? ⟨b', o' + j * 8 + 1, none⟩ = some (.int .i64 op2) ∧ w0.cell? ⟨b', o' + j * 8 + 2, none⟩ = some (.slice a2 args2.length cap2) ∧ w0.cell? ⟨b', o' + j * 8 + 3, none⟩ = some (.int .i64 kind2) ∧ w0.cell? ⟨b', o' + j * 8 + 4, none⟩ = some (.int .i64 num2) ∧ w0.cell? ⟨b', o' + j * 8 + 5, none⟩ = some (.int .i64 scale2) ∧ w0.cell? ⟨b', o' + j * 8 + 6, none⟩ = some (.string text2) ∧ w0.cell? ⟨b', o' + j * 8 + 7, none⟩ = some (.string qual2))
           (first | exact HK.out _ (Below.refl _ _) | exact HK.out _ (Below.refl _ _).drew | exact HK.out _ hbx)
           (first | (go_at_call 21; refine (HCA.out _ (And.left (by assumption))).mono ?_; rintro e w1 ⟨rfl, hbx0⟩; have hbx : Below wr.heap.size wr w1 := clq (by assumption) hbx0))
         all_goals
           go_wp2_with fail
           refine ⟨⟨j + 1, by omega, by rw [hwk], Lib.hid (HW.out.trans (hbx.mono HW.out.size))⟩, ?_⟩
           rw [hwk]
           simp [intOf]
           omega
       · have c3 : decide ((j : Int) < (m : Int)) = false := by simp; omega
         obtain rfl : j = m := by omega
         have HF := Lib.hid (show P (.returned (.bool true)) wr by rw [← HP.out]; exact ⟨rfl, HB.out.trans (HW.out.mono HB.out.size)⟩)
         go_wp2_with fail
         exact HF.out

end Go.Proofs.YtkffomfbnbcgaaaGreatDoor

namespace Go.Proofs.YtkffomfbnbcgaaaGreatDoor
set_option maxRecDepth 100000
open Go.RowKit Go.Joins Go.ChangeShapes Go.WideShapes
set_option linter.unusedVariables false
set_option linter.unusedSimpArgs false

theorem XSt.enc_b (x : XSt) : x.enc.toArray[0]? = some (.int .i64 (x.kind : Int)) ∧ x.enc.toArray[1]? = some (.string (strB x.table)) ∧ x.enc.toArray[2]? = some (.string (strB x.index)) ∧ x.enc.toArray[3]? = some x.cols.val ∧ x.enc.toArray[4]? = some x.names.val ∧ x.enc.toArray[5]? = some (.bool x.uniq) ∧ x.enc.toArray[6]? = some x.rows.val ∧ x.enc.toArray[7]? = some x.items.val ∧ x.enc.toArray[8]? = some x.src.val := ⟨rfl, rfl, rfl, rfl, rfl, rfl, rfl, rfl, rfl⟩
theorem XSt.enc_w {x : XSt} {op kind num scale : Int} {text qual : ByteArray} {a : Option Addr} {cap : Nat} {args : List XE} (hz : x.whr = .mk op kind num scale text qual a cap args) :
    x.enc.toArray[9]? = some (.int .i64 op) ∧ x.enc.toArray[10]? = some (.slice a args.length cap) ∧ x.enc.toArray[11]? = some (.int .i64 kind) ∧ x.enc.toArray[12]? = some (.int .i64 num) ∧ x.enc.toArray[13]? = some (.int .i64 scale) ∧ x.enc.toArray[14]? = some (.string text) ∧ x.enc.toArray[15]? = some (.string qual) := by
  obtain ⟨x0, x1, x2, x3, x4, x5, x6, x7, x8, x9, x10, x11⟩ := x
  dsimp only at hz
  subst hz
  exact ⟨rfl, rfl, rfl, rfl, rfl, rfl, rfl⟩
theorem XL.Mem.xe {K : Bl} {w : World} {y : XL XE} (h : XL.Mem exk K w y) : XE.Mem K w (.mk 0 0 0 0 ⟨#[]⟩ ⟨#[]⟩ y.a y.cap y.xs) := by
  unfold XE.Mem
  exact ⟨h.1, h.2.1, h.2.2.1, XE.memL_iff.2 h.2.2.2⟩
theorem sames_any {K K' : Bl} {w : World} (x y : XL XE) (h : x.xs.map XE.er = y.xs.map XE.er) (hm : XL.Mem exk K w x) (hm' : XL.Mem exk K' w y) :
    Calls Tryz.prog 34 #[.slice x.a x.xs.length x.cap, .slice y.a y.xs.length y.cap] w fun e w' => e = .returned (.bool true) ∧ Below w.heap.size w w' :=
  sames_q (same_q (mxL (XE.erL x.xs) + 1)) x.xs y.xs x.a y.a x.cap y.cap (by rw [XE.erL_map, XE.erL_map]; exact h) (fun z hz => Nat.lt_succ_of_le (mxL_mem (by rw [XE.erL_map]; exact List.mem_map_of_mem hz))) hm.xe hm'.xe
def sqT : Nat → Code → Code
  | n + 1, .seq _ b => sqT n b
  | _, c => c
def sqH : Code → Code
  | .seq a _ => a
  | c => c
def blK : Code → Code
  | .block _ c => c
  | c => c
/-- the n-th loop -/
noncomputable def sameLoop (n : Nat) : Code := blK (sqT 1 (sqH (sqT (n + 1) (Tryz.f15.body.getD .skip))))

end Go.Proofs.YtkffomfbnbcgaaaGreatDoor

namespace Go.Proofs.YtkffomfbnbcgaaaGreatDoor
set_option maxRecDepth 100000
open Go.RowKit Go.Joins Go.ChangeShapes Go.WideShapes
set_option linter.unusedVariables false
set_option linter.unusedSimpArgs false

set_option maxHeartbeats 16000000 in
theorem same_l1 {K K' : Bl} {wb : World} {g h : Nat} (x y : XSt) (he : x.er = y.er) (hm : XSt.Mem K wb x) (hm' : XSt.Mem K' wb y) (hX : Bx wb g x.enc.toArray 34) (hY : Bx wb h y.enc.toArray 34)
    (J : Act → World → Prop) (Q' : Exit → Act → World → Prop) (w0 : World) (hb0 : Below wb.heap.size wb w0) (s0 s1 s4 s6 s7 s8 s9 s10 s11 s12 s13 s14 s15 s16 s17 s18 s19 s20 s21 s22 s23 s24 s25 s26 s27 s28 s29 s30 s31 s32 s33 s34 s35 s36 s37 s38 s39 s40 s41 s42 s43 s44 s45 s46 s47 s48 s49 s50 s51 s52 s53 s54 s55 s56 s57 s58 s59 s60 s61 s62 s63 s64 s65 s66 s67 s68 s69 s70 s71 s72 s73 s74 s75 s76 s77 s78 s79 s80 s81 s82 s83 s84 s85 s86 s87 s88 s89 s90 s91 s92 s93 s94 s95 s96 s97 s98 s99 s100 s101 s102 s103 s104 s105 s106 s107 s108 s109 s110 s111 s112 s113 s114 s115 s116 s117 s118 s119 s120 s121 s122 s123 s124 s125 s126 s127 s128 s129 s130 s131 s132 s133 s134 s135 s136 s137 s138 s139 s140 s141 s142 s143 s144 s145 s146 s147 s148 s149 s150 s151 s152 s153 s154 s155 s156 s157 s158 s159 s160 s161 s162 s163 s164 s165 s166 s167 s168 s169 s170 s171 s172 s173 s174 s175 s176 s177 s178 s179 s180 s181 s182 s183 s184 s185 s186 s187 s188 s189 s190 s191 s192 s193 s194 s195 s196 s197 s198 s199 s200 s201 s202 s203 s204 s205 s206 s207 s208 s209 s210 s211 s212 s213 s214 s215 s216 s217 s218 s219 s220 s221 s222 s223 s224 s225 s226 s227 s228 s229 s230 s231 s232 s233 s234 s235 s236 s237 s238 s239 s240 s241 s242 s243 s244 s245 s246 s247 s248 s249 s250 s251 : Value)
    (hk : ∀ (t4 t5 t107 t108 t109 t110 t111 t112 t113 t114 t115 t116 t117 t118 t119 t120 t121 t122 t123 t124 : Value) (w' : World), Below wb.heap.size wb w' → J ⟨List.toArray (s0 :: s1 :: .pointer (some ⟨g, 0, none⟩) :: .pointer (some ⟨h, 0, none⟩) :: t4 :: t5 :: s6 :: s7 :: s8 :: s9 :: s10 :: s11 :: s12 :: s13 :: s14 :: s15 :: s16 :: s17 :: s18 :: s19 :: s20 :: s21 :: s22 :: s23 :: s24 :: s25 :: s26 :: s27 :: s28 :: s29 :: s30 :: s31 :: s32 :: s33 :: s34 :: s35 :: s36 :: s37 :: s38 :: s39 :: s40 :: s41 :: s42 :: s43 :: s44 :: s45 :: s46 :: s47 :: s48 :: s49 :: s50 :: s51 :: s52 :: s53 :: s54 :: s55 :: s56 :: s57 :: s58 :: s59 :: s60 :: s61 :: s62 :: s63 :: s64 :: s65 :: s66 :: s67 :: s68 :: s69 :: s70 :: s71 :: s72 :: s73 :: s74 :: s75 :: s76 :: s77 :: s78 :: s79 :: s80 :: s81 :: s82 :: s83 :: s84 :: s85 :: s86 :: s87 :: s88 :: s89 :: s90 :: s91 :: s92 :: s93 :: s94 :: s95 :: s96 :: s97 :: s98 :: s99 :: s100 :: s101 :: s102 :: s103 :: s104 :: s105 :: s106 :: t107 :: t108 :: t109 :: t110 :: t111 :: t112 :: t113 :: t114 :: t115 :: t116 :: t117 :: t118 :: t119 :: t120 :: t121 :: t122 :: t123 :: t124 :: s125 :: s126 :: s127 :: s128 :: s129 :: s130 :: s131 :: s132 :: s133 :: s134 :: s135 :: s136 :: s137 :: s138 :: s139 :: s140 :: s141 :: s142 :: s143 :: s144 :: s145 :: s146 :: s147 :: s148 :: s149 :: s150 :: s151 :: s152 :: s153 :: s154 :: s155 :: s156 :: s157 :: s158 :: s159 :: s160 :: s161 :: s162 :: s163 :: s164 :: s165 :: s166 :: s167 :: s168 :: s169 :: s170 :: s171 :: s172 :: s173 :: s174 :: s175 :: s176 :: s177 :: s178 :: s179 :: s180 :: s181 :: s182 :: s183 :: s184 :: s185 :: s186 :: s187 :: s188 :: s189 :: s190 :: s191 :: s192 :: s193 :: s194 :: s195 :: s196 :: s197 :: s198 :: s199 :: s200 :: s201 :: s202 :: s203 :: s204 :: s205 :: s206 :: s207 :: s208 :: s209 :: s210 :: s211 :: s212 :: s213 :: s214 :: s215 :: s216 :: s217 :: s218 :: s219 :: s220 :: s221 :: s222 :: s223 :: s224 :: s225 :: s226 :: s227 :: s228 :: s229 :: s230 :: s231 :: s232 :: s233 :: s234 :: s235 :: s236 :: s237 :: s238 :: s239 :: s240 :: s241 :: s242 :: s243 :: s244 :: s245 :: s246 :: s247 :: s248 :: s249 :: s250 :: s251 :: []), []⟩ w') :
    Code.wp Tryz.prog (sameLoop 1) (Exit.inBlock 0 (Exit.then J Q')) ⟨List.toArray (s0 :: s1 :: .pointer (some ⟨g, 0, none⟩) :: .pointer (some ⟨h, 0, none⟩) :: s4 :: .int .i64 0 :: s6 :: s7 :: s8 :: s9 :: s10 :: s11 :: s12 :: s13 :: s14 :: s15 :: s16 :: s17 :: s18 :: s19 :: s20 :: s21 :: s22 :: s23 :: s24 :: s25 :: s26 :: s27 :: s28 :: s29 :: s30 :: s31 :: s32 :: s33 :: s34 :: s35 :: s36 :: s37 :: s38 :: s39 :: s40 :: s41 :: s42 :: s43 :: s44 :: s45 :: s46 :: s47 :: s48 :: s49 :: s50 :: s51 :: s52 :: s53 :: s54 :: s55 :: s56 :: s57 :: s58 :: s59 :: s60 :: s61 :: s62 :: s63 :: s64 :: s65 :: s66 :: s67 :: s68 :: s69 :: s70 :: s71 :: s72 :: s73 :: s74 :: s75 :: s76 :: s77 :: s78 :: s79 :: s80 :: s81 :: s82 :: s83 :: s84 :: s85 :: s86 :: s87 :: s88 :: s89 :: s90 :: s91 :: s92 :: s93 :: s94 :: s95 :: s96 :: s97 :: s98 :: s99 :: s100 :: s101 :: s102 :: s103 :: s104 :: s105 :: s106 :: s107 :: s108 :: s109 :: s110 :: s111 :: s112 :: s113 :: s114 :: s115 :: s116 :: s117 :: s118 :: s119 :: s120 :: s121 :: s122 :: s123 :: s124 :: s125 :: s126 :: s127 :: s128 :: s129 :: s130 :: s131 :: s132 :: s133 :: s134 :: s135 :: s136 :: s137 :: s138 :: s139 :: s140 :: s141 :: s142 :: s143 :: s144 :: s145 :: s146 :: s147 :: s148 :: s149 :: s150 :: s151 :: s152 :: s153 :: s154 :: s155 :: s156 :: s157 :: s158 :: s159 :: s160 :: s161 :: s162 :: s163 :: s164 :: s165 :: s166 :: s167 :: s168 :: s169 :: s170 :: s171 :: s172 :: s173 :: s174 :: s175 :: s176 :: s177 :: s178 :: s179 :: s180 :: s181 :: s182 :: s183 :: s184 :: s185 :: s186 :: s187 :: s188 :: s189 :: s190 :: s191 :: s192 :: s193 :: s194 :: s195 :: s196 :: s197 :: s198 :: s199 :: s200 :: s201 :: s202 :: s203 :: s204 :: s205 :: s206 :: s207 :: s208 :: s209 :: s210 :: s211 :: s212 :: s213 :: s214 :: s215 :: s216 :: s217 :: s218 :: s219 :: s220 :: s221 :: s222 :: s223 :: s224 :: s225 :: s226 :: s227 :: s228 :: s229 :: s230 :: s231 :: s232 :: s233 :: s234 :: s235 :: s236 :: s237 :: s238 :: s239 :: s240 :: s241 :: s242 :: s243 :: s244 :: s245 :: s246 :: s247 :: s248 :: s249 :: s250 :: s251 :: []), []⟩ w0 := by
  have hl : x.cols.xs.map cok.er = y.cols.xs.map cok.er := congrArg Stm.cols he
  obtain ⟨v0, v1, v2, v3, v4, v5, v6, v7, v8⟩ := XSt.enc_b x
  obtain ⟨v0', v1', v2', v3', v4', v5', v6', v7', v8'⟩ := XSt.enc_b y
  have c3 := hX.cell v3
  have d3 := hY.cell v3'
  simp only [XL.val] at c3 d3
  obtain ⟨n3, hl3⟩ : ∃ n, x.cols.xs.length = n := ⟨_, rfl⟩
  have hm3 : y.cols.xs.length = n3 := by have := congrArg List.length hl; simp at this; omega
  rw [hl3] at c3
  rw [hm3] at d3
  have hbn : n3 ≤ maxLen := by rw [← hl3]; exact Nat.le_trans hm.cols.1 hm.cols.2.1
  have HM := Lib.hid (And.intro (And.intro hl hl3) (And.intro hm.cols hm'.cols))
  have HC := Lib.hid (And.intro c3 d3)
  have HS := Lib.hid (And.intro hX.lt hY.lt)
  have HK := Lib.hid hk
  have HWW := Lib.hid hb0
  clear v0 v1 v2 v3 v4 v5 v6 v7 v8 v0' v1' v2' v3' v4' v5' v6' v7' v8' c3 d3 hl3 hm3 hm hm' hX hY he hl hk hb0
  obtain ⟨oa, hoa⟩ : ∃ oa, x.cols.a = oa := ⟨_, rfl⟩
  obtain ⟨oc, hoc⟩ : ∃ oc, x.cols.cap = oc := ⟨_, rfl⟩
  obtain ⟨ya, hya⟩ : ∃ ya, y.cols.a = ya := ⟨_, rfl⟩
  obtain ⟨yc, hyc⟩ : ∃ yc, y.cols.cap = yc := ⟨_, rfl⟩
  have HA := Lib.hid (And.intro hoa hya)
  rw [hoa, hoc, hya, hyc] at HC
  clear hoa hoc hya hyc
  conv => arg 2; whnf
  go_loopw [5] (fun i wr => ∃ (k : Nat), k ≤ n3 ∧ i = .int .i64 (k : Int) ∧ Hid (Below wb.heap.size wb wr)) (fun i _ => n3 - (intOf i).toNat)
  case atStart => exact ⟨0, Nat.zero_le _, rfl, HWW⟩
  case round =>
   clear HWW
   obtain ⟨k, hk, rfl, HW⟩ := hrel
   have z1 := (HW.out.cell (p := ⟨g, 3, none⟩) HS.out.1).trans HC.out.1
   have z2 := (HW.out.cell (p := ⟨h, 3, none⟩) HS.out.2).trans HC.out.2
   by_cases c : k < n3
   · have c1 : (k : Int) < (n3 : Int) := by omega
     obtain ⟨xe, ye, hx, hy, hxy⟩ := two_at HM.out.1.1 (k := k) (by rw [HM.out.1.2]; exact c)
     have hxy : xe = ye := hxy
     subst hxy
     obtain ⟨b, o, eb, -, hb, hcell, hmx⟩ := XL.Mem.at (HM.out.2.1.below HW.out) hx
     obtain ⟨b', o', eb', -, hb', hcell', hmy⟩ := XL.Mem.at (HM.out.2.2.below HW.out) hy
     obtain rfl := HA.out.1.symm.trans eb
     obtain rfl := HA.out.2.symm.trans eb'
     have hcl : ∀ j u, (cok.enc xe)[j]? = some u → wr.cell? ⟨b, o + k * 3 + j, none⟩ = some u := hcell
     have hcl' : ∀ j u, (cok.enc xe)[j]? = some u → wr.cell? ⟨b', o' + k * 3 + j, none⟩ = some u := hcell'
     have q0 := hcl 0 _ rfl
     have q1 := hcl 1 _ rfl
     have q2 := hcl 2 _ rfl
     have p0 := hcl' 0 _ rfl
     have p1 := hcl' 1 _ rfl
     have p2 := hcl' 2 _ rfl
     rw [Nat.add_zero] at q0 p0
     have hwk : wrap64 ((k : Int) + 1) = ((k + 1 : Nat) : Int) := by unfold wrap64 maxLen at *; omega
     clear hx hy hcell hcell' hcl hcl' hmx hmy eb eb'
     go_wp2_with fail
     go_quiet (fail)
     all_goals
      have HWN : Hid (∀ q : Nat, Below wb.heap.size wb (wr.drewN q)) := Lib.hid (fun q => HW.out.trans ⟨rfl, rfl, rfl, Nat.le_refl _, fun _ _ => rfl⟩)
      go_wp2_with fail
      refine ⟨⟨k + 1, Nat.succ_le_of_lt c, by rw [hwk], Lib.hid (HWN.out _)⟩, ?_⟩
      rw [hwk]
      simp [intOf]
      omega
   · have c2 : decide ((k : Int) < (n3 : Int)) = false := by simp; omega
     obtain rfl : k = n3 := by omega
     clear HA HM HC z2
     go_wp2_with fail
     exact HK.out _ _ _ _ _ _ _ _ _ _ _ _ _ _ _ _ _ _ _ _ wr HW.out

end Go.Proofs.YtkffomfbnbcgaaaGreatDoor

namespace Go.Proofs.YtkffomfbnbcgaaaGreatDoor
set_option maxRecDepth 100000
open Go.RowKit Go.Joins Go.ChangeShapes Go.WideShapes
set_option linter.unusedVariables false
set_option linter.unusedSimpArgs false

set_option maxHeartbeats 16000000 in
theorem same_l2 {K K' : Bl} {wb : World} {g h : Nat} (x y : XSt) (he : x.er = y.er) (hm : XSt.Mem K wb x) (hm' : XSt.Mem K' wb y) (hX : Bx wb g x.enc.toArray 34) (hY : Bx wb h y.enc.toArray 34)
    (J : Act → World → Prop) (Q' : Exit → Act → World → Prop) (w0 : World) (hb0 : Below wb.heap.size wb w0) (s0 s1 s4 s5 s7 s8 s9 s10 s11 s12 s13 s14 s15 s16 s17 s18 s19 s20 s21 s22 s23 s24 s25 s26 s27 s28 s29 s30 s31 s32 s33 s34 s35 s36 s37 s38 s39 s40 s41 s42 s43 s44 s45 s46 s47 s48 s49 s50 s51 s52 s53 s54 s55 s56 s57 s58 s59 s60 s61 s62 s63 s64 s65 s66 s67 s68 s69 s70 s71 s72 s73 s74 s75 s76 s77 s78 s79 s80 s81 s82 s83 s84 s85 s86 s87 s88 s89 s90 s91 s92 s93 s94 s95 s96 s97 s98 s99 s100 s101 s102 s103 s104 s105 s106 s107 s108 s109 s110 s111 s112 s113 s114 s115 s116 s117 s118 s119 s120 s121 s122 s123 s124 s125 s126 s127 s128 s129 s130 s131 s132 s133 s134 s135 s136 s137 s138 s139 s140 s141 s142 s143 s144 s145 s146 s147 s148 s149 s150 s151 s152 s153 s154 s155 s156 s157 s158 s159 s160 s161 s162 s163 s164 s165 s166 s167 s168 s169 s170 s171 s172 s173 s174 s175 s176 s177 s178 s179 s180 s181 s182 s183 s184 s185 s186 s187 s188 s189 s190 s191 s192 s193 s194 s195 s196 s197 s198 s199 s200 s201 s202 s203 s204 s205 s206 s207 s208 s209 s210 s211 s212 s213 s214 s215 s216 s217 s218 s219 s220 s221 s222 s223 s224 s225 s226 s227 s228 s229 s230 s231 s232 s233 s234 s235 s236 s237 s238 s239 s240 s241 s242 s243 s244 s245 s246 s247 s248 s249 s250 s251 : Value)
    (hk : ∀ (t4 t6 t125 t126 t127 t128 t129 t130 t131 t132 t133 t134 t135 t136 t137 t138 t139 t140 t141 t142 : Value) (w' : World), Below wb.heap.size wb w' → J ⟨List.toArray (s0 :: s1 :: .pointer (some ⟨g, 0, none⟩) :: .pointer (some ⟨h, 0, none⟩) :: t4 :: s5 :: t6 :: s7 :: s8 :: s9 :: s10 :: s11 :: s12 :: s13 :: s14 :: s15 :: s16 :: s17 :: s18 :: s19 :: s20 :: s21 :: s22 :: s23 :: s24 :: s25 :: s26 :: s27 :: s28 :: s29 :: s30 :: s31 :: s32 :: s33 :: s34 :: s35 :: s36 :: s37 :: s38 :: s39 :: s40 :: s41 :: s42 :: s43 :: s44 :: s45 :: s46 :: s47 :: s48 :: s49 :: s50 :: s51 :: s52 :: s53 :: s54 :: s55 :: s56 :: s57 :: s58 :: s59 :: s60 :: s61 :: s62 :: s63 :: s64 :: s65 :: s66 :: s67 :: s68 :: s69 :: s70 :: s71 :: s72 :: s73 :: s74 :: s75 :: s76 :: s77 :: s78 :: s79 :: s80 :: s81 :: s82 :: s83 :: s84 :: s85 :: s86 :: s87 :: s88 :: s89 :: s90 :: s91 :: s92 :: s93 :: s94 :: s95 :: s96 :: s97 :: s98 :: s99 :: s100 :: s101 :: s102 :: s103 :: s104 :: s105 :: s106 :: s107 :: s108 :: s109 :: s110 :: s111 :: s112 :: s113 :: s114 :: s115 :: s116 :: s117 :: s118 :: s119 :: s120 :: s121 :: s122 :: s123 :: s124 :: t125 :: t126 :: t127 :: t128 :: t129 :: t130 :: t131 :: t132 :: t133 :: t134 :: t135 :: t136 :: t137 :: t138 :: t139 :: t140 :: t141 :: t142 :: s143 :: s144 :: s145 :: s146 :: s147 :: s148 :: s149 :: s150 :: s151 :: s152 :: s153 :: s154 :: s155 :: s156 :: s157 :: s158 :: s159 :: s160 :: s161 :: s162 :: s163 :: s164 :: s165 :: s166 :: s167 :: s168 :: s169 :: s170 :: s171 :: s172 :: s173 :: s174 :: s175 :: s176 :: s177 :: s178 :: s179 :: s180 :: s181 :: s182 :: s183 :: s184 :: s185 :: s186 :: s187 :: s188 :: s189 :: s190 :: s191 :: s192 :: s193 :: s194 :: s195 :: s196 :: s197 :: s198 :: s199 :: s200 :: s201 :: s202 :: s203 :: s204 :: s205 :: s206 :: s207 :: s208 :: s209 :: s210 :: s211 :: s212 :: s213 :: s214 :: s215 :: s216 :: s217 :: s218 :: s219 :: s220 :: s221 :: s222 :: s223 :: s224 :: s225 :: s226 :: s227 :: s228 :: s229 :: s230 :: s231 :: s232 :: s233 :: s234 :: s235 :: s236 :: s237 :: s238 :: s239 :: s240 :: s241 :: s242 :: s243 :: s244 :: s245 :: s246 :: s247 :: s248 :: s249 :: s250 :: s251 :: []), []⟩ w') :
    Code.wp Tryz.prog (sameLoop 2) (Exit.inBlock 2 (Exit.then J Q')) ⟨List.toArray (s0 :: s1 :: .pointer (some ⟨g, 0, none⟩) :: .pointer (some ⟨h, 0, none⟩) :: s4 :: s5 :: .int .i64 0 :: s7 :: s8 :: s9 :: s10 :: s11 :: s12 :: s13 :: s14 :: s15 :: s16 :: s17 :: s18 :: s19 :: s20 :: s21 :: s22 :: s23 :: s24 :: s25 :: s26 :: s27 :: s28 :: s29 :: s30 :: s31 :: s32 :: s33 :: s34 :: s35 :: s36 :: s37 :: s38 :: s39 :: s40 :: s41 :: s42 :: s43 :: s44 :: s45 :: s46 :: s47 :: s48 :: s49 :: s50 :: s51 :: s52 :: s53 :: s54 :: s55 :: s56 :: s57 :: s58 :: s59 :: s60 :: s61 :: s62 :: s63 :: s64 :: s65 :: s66 :: s67 :: s68 :: s69 :: s70 :: s71 :: s72 :: s73 :: s74 :: s75 :: s76 :: s77 :: s78 :: s79 :: s80 :: s81 :: s82 :: s83 :: s84 :: s85 :: s86 :: s87 :: s88 :: s89 :: s90 :: s91 :: s92 :: s93 :: s94 :: s95 :: s96 :: s97 :: s98 :: s99 :: s100 :: s101 :: s102 :: s103 :: s104 :: s105 :: s106 :: s107 :: s108 :: s109 :: s110 :: s111 :: s112 :: s113 :: s114 :: s115 :: s116 :: s117 :: s118 :: s119 :: s120 :: s121 :: s122 :: s123 :: s124 :: s125 :: s126 :: s127 :: s128 :: s129 :: s130 :: s131 :: s132 :: s133 :: s134 :: s135 :: s136 :: s137 :: s138 :: s139 :: s140 :: s141 :: s142 :: s143 :: s144 :: s145 :: s146 :: s147 :: s148 :: s149 :: s150 :: s151 :: s152 :: s153 :: s154 :: s155 :: s156 :: s157 :: s158 :: s159 :: s160 :: s161 :: s162 :: s163 :: s164 :: s165 :: s166 :: s167 :: s168 :: s169 :: s170 :: s171 :: s172 :: s173 :: s174 :: s175 :: s176 :: s177 :: s178 :: s179 :: s180 :: s181 :: s182 :: s183 :: s184 :: s185 :: s186 :: s187 :: s188 :: s189 :: s190 :: s191 :: s192 :: s193 :: s194 :: s195 :: s196 :: s197 :: s198 :: s199 :: s200 :: s201 :: s202 :: s203 :: s204 :: s205 :: s206 :: s207 :: s208 :: s209 :: s210 :: s211 :: s212 :: s213 :: s214 :: s215 :: s216 :: s217 :: s218 :: s219 :: s220 :: s221 :: s222 :: s223 :: s224 :: s225 :: s226 :: s227 :: s228 :: s229 :: s230 :: s231 :: s232 :: s233 :: s234 :: s235 :: s236 :: s237 :: s238 :: s239 :: s240 :: s241 :: s242 :: s243 :: s244 :: s245 :: s246 :: s247 :: s248 :: s249 :: s250 :: s251 :: []), []⟩ w0 := by
  have hl : x.names.xs.map stk.er = y.names.xs.map stk.er := congrArg Stm.names he
  obtain ⟨v0, v1, v2, v3, v4, v5, v6, v7, v8⟩ := XSt.enc_b x
  obtain ⟨v0', v1', v2', v3', v4', v5', v6', v7', v8'⟩ := XSt.enc_b y
  have c4 := hX.cell v4
  have d4 := hY.cell v4'
  simp only [XL.val] at c4 d4
  obtain ⟨n4, hl4⟩ : ∃ n, x.names.xs.length = n := ⟨_, rfl⟩
  have hm4 : y.names.xs.length = n4 := by have := congrArg List.length hl; simp at this; omega
  rw [hl4] at c4
  rw [hm4] at d4
  have hbn : n4 ≤ maxLen := by rw [← hl4]; exact Nat.le_trans hm.names.1 hm.names.2.1
  have HM := Lib.hid (And.intro (And.intro hl hl4) (And.intro hm.names hm'.names))
  have HC := Lib.hid (And.intro c4 d4)
  have HS := Lib.hid (And.intro hX.lt hY.lt)
  have HK := Lib.hid hk
  have HWW := Lib.hid hb0
  clear v0 v1 v2 v3 v4 v5 v6 v7 v8 v0' v1' v2' v3' v4' v5' v6' v7' v8' c4 d4 hl4 hm4 hm hm' hX hY he hl hk hb0
  obtain ⟨oa, hoa⟩ : ∃ oa, x.names.a = oa := ⟨_, rfl⟩
  obtain ⟨oc, hoc⟩ : ∃ oc, x.names.cap = oc := ⟨_, rfl⟩
  obtain ⟨ya, hya⟩ : ∃ ya, y.names.a = ya := ⟨_, rfl⟩
  obtain ⟨yc, hyc⟩ : ∃ yc, y.names.cap = yc := ⟨_, rfl⟩
  have HA := Lib.hid (And.intro hoa hya)
  rw [hoa, hoc, hya, hyc] at HC
  clear hoa hoc hya hyc
  conv => arg 2; whnf
  go_loopw [6] (fun i wr => ∃ (k : Nat), k ≤ n4 ∧ i = .int .i64 (k : Int) ∧ Hid (Below wb.heap.size wb wr)) (fun i _ => n4 - (intOf i).toNat)
  case atStart => exact ⟨0, Nat.zero_le _, rfl, HWW⟩
  case round =>
   clear HWW
   obtain ⟨k, hk, rfl, HW⟩ := hrel
   have z1 := (HW.out.cell (p := ⟨g, 4, none⟩) HS.out.1).trans HC.out.1
   have z2 := (HW.out.cell (p := ⟨h, 4, none⟩) HS.out.2).trans HC.out.2
   by_cases c : k < n4
   · have c1 : (k : Int) < (n4 : Int) := by omega
     obtain ⟨xe, ye, hx, hy, hxy⟩ := two_at HM.out.1.1 (k := k) (by rw [HM.out.1.2]; exact c)
     have hxy : xe = ye := hxy
     subst hxy
     obtain ⟨b, o, eb, -, hb, hcell, hmx⟩ := XL.Mem.at (HM.out.2.1.below HW.out) hx
     obtain ⟨b', o', eb', -, hb', hcell', hmy⟩ := XL.Mem.at (HM.out.2.2.below HW.out) hy
     obtain rfl := HA.out.1.symm.trans eb
     obtain rfl := HA.out.2.symm.trans eb'
     have hcl : ∀ j u, (stk.enc xe)[j]? = some u → wr.cell? ⟨b, o + k * 1 + j, none⟩ = some u := hcell
     have hcl' : ∀ j u, (stk.enc xe)[j]? = some u → wr.cell? ⟨b', o' + k * 1 + j, none⟩ = some u := hcell'
     have q0 := hcl 0 _ rfl
     have p0 := hcl' 0 _ rfl
     rw [Nat.add_zero] at q0 p0
     rw [Nat.mul_one] at q0 p0
     have hwk : wrap64 ((k : Int) + 1) = ((k + 1 : Nat) : Int) := by unfold wrap64 maxLen at *; omega
     clear hx hy hcell hcell' hcl hcl' hmx hmy eb eb'
     go_wp2_with fail
     go_quiet (fail)
     all_goals
      have HWN : Hid (∀ q : Nat, Below wb.heap.size wb (wr.drewN q)) := Lib.hid (fun q => HW.out.trans ⟨rfl, rfl, rfl, Nat.le_refl _, fun _ _ => rfl⟩)
      go_wp2_with fail
      refine ⟨⟨k + 1, Nat.succ_le_of_lt c, by rw [hwk], Lib.hid (HWN.out _)⟩, ?_⟩
      rw [hwk]
      simp [intOf]
      omega
   · have c2 : decide ((k : Int) < (n4 : Int)) = false := by simp; omega
     obtain rfl : k = n4 := by omega
     clear HA HM HC z2
     go_wp2_with fail
     exact HK.out _ _ _ _ _ _ _ _ _ _ _ _ _ _ _ _ _ _ _ _ wr HW.out

end Go.Proofs.YtkffomfbnbcgaaaGreatDoor

namespace Go.Proofs.YtkffomfbnbcgaaaGreatDoor
set_option maxRecDepth 100000
open Go.RowKit Go.Joins Go.ChangeShapes Go.WideShapes
set_option linter.unusedVariables false
set_option linter.unusedSimpArgs false

set_option maxHeartbeats 16000000 in
theorem same_l3 {K K' : Bl} {wb : World} {g h : Nat} (x y : XSt) (he : x.er = y.er) (hm : XSt.Mem K wb x) (hm' : XSt.Mem K' wb y) (hX : Bx wb g x.enc.toArray 34) (hY : Bx wb h y.enc.toArray 34)
    (J : Act → World → Prop) (Q' : Exit → Act → World → Prop) (w0 : World) (hb0 : Below wb.heap.size wb w0) (s0 s1 s4 s5 s6 s8 s9 s10 s11 s12 s13 s14 s15 s16 s17 s18 s19 s20 s21 s22 s23 s24 s25 s26 s27 s28 s29 s30 s31 s32 s33 s34 s35 s36 s37 s38 s39 s40 s41 s42 s43 s44 s45 s46 s47 s48 s49 s50 s51 s52 s53 s54 s55 s56 s57 s58 s59 s60 s61 s62 s63 s64 s65 s66 s67 s68 s69 s70 s71 s72 s73 s74 s75 s76 s77 s78 s79 s80 s81 s82 s83 s84 s85 s86 s87 s88 s89 s90 s91 s92 s93 s94 s95 s96 s97 s98 s99 s100 s101 s102 s103 s104 s105 s106 s107 s108 s109 s110 s111 s112 s113 s114 s115 s116 s117 s118 s119 s120 s121 s122 s123 s124 s125 s126 s127 s128 s129 s130 s131 s132 s133 s134 s135 s136 s137 s138 s139 s140 s141 s142 s143 s144 s145 s146 s147 s148 s149 s150 s151 s152 s153 s154 s155 s156 s157 s158 s159 s160 s161 s162 s163 s164 s165 s166 s167 s168 s169 s170 s171 s172 s173 s174 s175 s176 s177 s178 s179 s180 s181 s182 s183 s184 s185 s186 s187 s188 s189 s190 s191 s192 s193 s194 s195 s196 s197 s198 s199 s200 s201 s202 s203 s204 s205 s206 s207 s208 s209 s210 s211 s212 s213 s214 s215 s216 s217 s218 s219 s220 s221 s222 s223 s224 s225 s226 s227 s228 s229 s230 s231 s232 s233 s234 s235 s236 s237 s238 s239 s240 s241 s242 s243 s244 s245 s246 s247 s248 s249 s250 s251 : Value)
    (hk : ∀ (t4 t7 t143 t144 t145 t146 t147 t148 t149 t150 t151 t152 t153 t154 t155 t156 t157 t158 t159 t160 t161 : Value) (w' : World), Below wb.heap.size wb w' → J ⟨List.toArray (s0 :: s1 :: .pointer (some ⟨g, 0, none⟩) :: .pointer (some ⟨h, 0, none⟩) :: t4 :: s5 :: s6 :: t7 :: s8 :: s9 :: s10 :: s11 :: s12 :: s13 :: s14 :: s15 :: s16 :: s17 :: s18 :: s19 :: s20 :: s21 :: s22 :: s23 :: s24 :: s25 :: s26 :: s27 :: s28 :: s29 :: s30 :: s31 :: s32 :: s33 :: s34 :: s35 :: s36 :: s37 :: s38 :: s39 :: s40 :: s41 :: s42 :: s43 :: s44 :: s45 :: s46 :: s47 :: s48 :: s49 :: s50 :: s51 :: s52 :: s53 :: s54 :: s55 :: s56 :: s57 :: s58 :: s59 :: s60 :: s61 :: s62 :: s63 :: s64 :: s65 :: s66 :: s67 :: s68 :: s69 :: s70 :: s71 :: s72 :: s73 :: s74 :: s75 :: s76 :: s77 :: s78 :: s79 :: s80 :: s81 :: s82 :: s83 :: s84 :: s85 :: s86 :: s87 :: s88 :: s89 :: s90 :: s91 :: s92 :: s93 :: s94 :: s95 :: s96 :: s97 :: s98 :: s99 :: s100 :: s101 :: s102 :: s103 :: s104 :: s105 :: s106 :: s107 :: s108 :: s109 :: s110 :: s111 :: s112 :: s113 :: s114 :: s115 :: s116 :: s117 :: s118 :: s119 :: s120 :: s121 :: s122 :: s123 :: s124 :: s125 :: s126 :: s127 :: s128 :: s129 :: s130 :: s131 :: s132 :: s133 :: s134 :: s135 :: s136 :: s137 :: s138 :: s139 :: s140 :: s141 :: s142 :: t143 :: t144 :: t145 :: t146 :: t147 :: t148 :: t149 :: t150 :: t151 :: t152 :: t153 :: t154 :: t155 :: t156 :: t157 :: t158 :: t159 :: t160 :: t161 :: s162 :: s163 :: s164 :: s165 :: s166 :: s167 :: s168 :: s169 :: s170 :: s171 :: s172 :: s173 :: s174 :: s175 :: s176 :: s177 :: s178 :: s179 :: s180 :: s181 :: s182 :: s183 :: s184 :: s185 :: s186 :: s187 :: s188 :: s189 :: s190 :: s191 :: s192 :: s193 :: s194 :: s195 :: s196 :: s197 :: s198 :: s199 :: s200 :: s201 :: s202 :: s203 :: s204 :: s205 :: s206 :: s207 :: s208 :: s209 :: s210 :: s211 :: s212 :: s213 :: s214 :: s215 :: s216 :: s217 :: s218 :: s219 :: s220 :: s221 :: s222 :: s223 :: s224 :: s225 :: s226 :: s227 :: s228 :: s229 :: s230 :: s231 :: s232 :: s233 :: s234 :: s235 :: s236 :: s237 :: s238 :: s239 :: s240 :: s241 :: s242 :: s243 :: s244 :: s245 :: s246 :: s247 :: s248 :: s249 :: s250 :: s251 :: []), []⟩ w') :
    Code.wp Tryz.prog (sameLoop 3) (Exit.inBlock 4 (Exit.then J Q')) ⟨List.toArray (s0 :: s1 :: .pointer (some ⟨g, 0, none⟩) :: .pointer (some ⟨h, 0, none⟩) :: s4 :: s5 :: s6 :: .int .i64 0 :: s8 :: s9 :: s10 :: s11 :: s12 :: s13 :: s14 :: s15 :: s16 :: s17 :: s18 :: s19 :: s20 :: s21 :: s22 :: s23 :: s24 :: s25 :: s26 :: s27 :: s28 :: s29 :: s30 :: s31 :: s32 :: s33 :: s34 :: s35 :: s36 :: s37 :: s38 :: s39 :: s40 :: s41 :: s42 :: s43 :: s44 :: s45 :: s46 :: s47 :: s48 :: s49 :: s50 :: s51 :: s52 :: s53 :: s54 :: s55 :: s56 :: s57 :: s58 :: s59 :: s60 :: s61 :: s62 :: s63 :: s64 :: s65 :: s66 :: s67 :: s68 :: s69 :: s70 :: s71 :: s72 :: s73 :: s74 :: s75 :: s76 :: s77 :: s78 :: s79 :: s80 :: s81 :: s82 :: s83 :: s84 :: s85 :: s86 :: s87 :: s88 :: s89 :: s90 :: s91 :: s92 :: s93 :: s94 :: s95 :: s96 :: s97 :: s98 :: s99 :: s100 :: s101 :: s102 :: s103 :: s104 :: s105 :: s106 :: s107 :: s108 :: s109 :: s110 :: s111 :: s112 :: s113 :: s114 :: s115 :: s116 :: s117 :: s118 :: s119 :: s120 :: s121 :: s122 :: s123 :: s124 :: s125 :: s126 :: s127 :: s128 :: s129 :: s130 :: s131 :: s132 :: s133 :: s134 :: s135 :: s136 :: s137 :: s138 :: s139 :: s140 :: s141 :: s142 :: s143 :: s144 :: s145 :: s146 :: s147 :: s148 :: s149 :: s150 :: s151 :: s152 :: s153 :: s154 :: s155 :: s156 :: s157 :: s158 :: s159 :: s160 :: s161 :: s162 :: s163 :: s164 :: s165 :: s166 :: s167 :: s168 :: s169 :: s170 :: s171 :: s172 :: s173 :: s174 :: s175 :: s176 :: s177 :: s178 :: s179 :: s180 :: s181 :: s182 :: s183 :: s184 :: s185 :: s186 :: s187 :: s188 :: s189 :: s190 :: s191 :: s192 :: s193 :: s194 :: s195 :: s196 :: s197 :: s198 :: s199 :: s200 :: s201 :: s202 :: s203 :: s204 :: s205 :: s206 :: s207 :: s208 :: s209 :: s210 :: s211 :: s212 :: s213 :: s214 :: s215 :: s216 :: s217 :: s218 :: s219 :: s220 :: s221 :: s222 :: s223 :: s224 :: s225 :: s226 :: s227 :: s228 :: s229 :: s230 :: s231 :: s232 :: s233 :: s234 :: s235 :: s236 :: s237 :: s238 :: s239 :: s240 :: s241 :: s242 :: s243 :: s244 :: s245 :: s246 :: s247 :: s248 :: s249 :: s250 :: s251 :: []), []⟩ w0 := by
  have hl : x.rows.xs.map rok.er = y.rows.xs.map rok.er := congrArg Stm.rows he
  obtain ⟨v0, v1, v2, v3, v4, v5, v6, v7, v8⟩ := XSt.enc_b x
  obtain ⟨v0', v1', v2', v3', v4', v5', v6', v7', v8'⟩ := XSt.enc_b y
  have c6 := hX.cell v6
  have d6 := hY.cell v6'
  simp only [XL.val] at c6 d6
  obtain ⟨n6, hl6⟩ : ∃ n, x.rows.xs.length = n := ⟨_, rfl⟩
  have hm6 : y.rows.xs.length = n6 := by have := congrArg List.length hl; simp at this; omega
  rw [hl6] at c6
  rw [hm6] at d6
  have hbn : n6 ≤ maxLen := by rw [← hl6]; exact Nat.le_trans hm.rows.1 hm.rows.2.1
  have HM := Lib.hid (And.intro (And.intro hl hl6) (And.intro hm.rows hm'.rows))
  have HC := Lib.hid (And.intro c6 d6)
  have HS := Lib.hid (And.intro hX.lt hY.lt)
  have HK := Lib.hid hk
  have HWW := Lib.hid hb0
  clear v0 v1 v2 v3 v4 v5 v6 v7 v8 v0' v1' v2' v3' v4' v5' v6' v7' v8' c6 d6 hl6 hm6 hm hm' hX hY he hl hk hb0
  obtain ⟨oa, hoa⟩ : ∃ oa, x.rows.a = oa := ⟨_, rfl⟩
  obtain ⟨oc, hoc⟩ : ∃ oc, x.rows.cap = oc := ⟨_, rfl⟩
  obtain ⟨ya, hya⟩ : ∃ ya, y.rows.a = ya := ⟨_, rfl⟩
  obtain ⟨yc, hyc⟩ : ∃ yc, y.rows.cap = yc := ⟨_, rfl⟩
  have HA := Lib.hid (And.intro hoa hya)
  rw [hoa, hoc, hya, hyc] at HC
  clear hoa hoc hya hyc
  conv => arg 2; whnf
  go_loopw [7] (fun i wr => ∃ (k : Nat), k ≤ n6 ∧ i = .int .i64 (k : Int) ∧ Hid (Below wb.heap.size wb wr)) (fun i _ => n6 - (intOf i).toNat)
  case atStart => exact ⟨0, Nat.zero_le _, rfl, HWW⟩
  case round =>
   clear HWW
   obtain ⟨k, hk, rfl, HW⟩ := hrel
   have z1 := (HW.out.cell (p := ⟨g, 6, none⟩) HS.out.1).trans HC.out.1
   have z2 := (HW.out.cell (p := ⟨h, 6, none⟩) HS.out.2).trans HC.out.2
   by_cases c : k < n6
   · have c1 : (k : Int) < (n6 : Int) := by omega
     obtain ⟨xe, ye, hx, hy, hxy⟩ := two_at HM.out.1.1 (k := k) (by rw [HM.out.1.2]; exact c)
     have hee : xe.xs.map XE.er = ye.xs.map XE.er := hxy
     obtain ⟨b, o, eb, -, hb, hcell, hmx⟩ := XL.Mem.at (HM.out.2.1.below HW.out) hx
     obtain ⟨b', o', eb', -, hb', hcell', hmy⟩ := XL.Mem.at (HM.out.2.2.below HW.out) hy
     obtain rfl := HA.out.1.symm.trans eb
     obtain rfl := HA.out.2.symm.trans eb'
     have HCA := Lib.hid (fun (wv : World) (hbv : Below wr.heap.size wr wv) => sames_any (w := wv) xe ye hee (EK.below (E := rok) hmx hbv) (EK.below (E := rok) hmy hbv))
     have hcl : ∀ j u, (rok.enc xe)[j]? = some u → wr.cell? ⟨b, o + k * 1 + j, none⟩ = some u := hcell
     have hcl' : ∀ j u, (rok.enc ye)[j]? = some u → wr.cell? ⟨b', o' + k * 1 + j, none⟩ = some u := hcell'
     have q0 := hcl 0 _ rfl
     have p0 := hcl' 0 _ rfl
     rw [Nat.add_zero] at q0 p0
     rw [Nat.mul_one] at q0 p0
     simp only [XL.val] at q0 p0
     have hwk : wrap64 ((k : Int) + 1) = ((k + 1 : Nat) : Int) := by unfold wrap64 maxLen at *; omega
     have HK2 := Lib.hid (fun (w0 : World) (hb0 : Below wr.heap.size wr w0) => show Below wr.heap.size wr w0 ∧ w0.cell? ⟨g, 6, none⟩ = some (.slice (some ⟨b, o, none⟩) n6 oc) ∧ w0.cell? ⟨h, 6, none⟩ = some (.slice (some ⟨b', o', none⟩) n6 yc) ∧ w0.cell? ⟨b, o + k, none⟩ = some (.slice xe.a xe.xs.length xe.cap) ∧ w0.cell? ⟨b', o' + k, none⟩ = some (.slice ye.a ye.xs.length ye.cap) from ⟨hb0, (hb0.cell (p := ⟨g, 6, none⟩) (Nat.lt_of_lt_of_le HS.out.1 HW.out.size)).trans z1, (hb0.cell (p := ⟨h, 6, none⟩) (Nat.lt_of_lt_of_le HS.out.2 HW.out.size)).trans z2, (hb0.cell (by exact hb)).trans q0, (hb0.cell (by exact hb')).trans p0⟩)
     clear hx hy hcell hcell' hcl hcl' hmx hmy hee hxy eb eb'
     go_wp2_with fail
     go_region_held3 (fun w0 => Below wr.heap.size wr w0 ∧ w0.cell? ⟨g, 6, none⟩ = some (.slice (some ⟨b, o, none⟩) n6 oc) ∧ w0.cell? ⟨h, 6, none⟩ = some (.slice (some ⟨b', o', none⟩) n6 yc) ∧ w0.cell? ⟨b, o + k, none⟩ = some (.slice xe.a xe.xs.length xe.cap) ∧ w0.cell? ⟨b', o' + k, none⟩ = some (.slice ye.a ye.xs.length ye.cap))
       (first | exact HK2.out _ (Below.refl _ _) | exact HK2.out _ (Below.refl _ _).drew | exact HK2.out _ hbx)
       (first | (go_at_call 34; refine (HCA.out _ (And.left (by assumption))).mono ?_; rintro e w1 ⟨rfl, hbx0⟩; have hbx : Below wr.heap.size wr w1 := clq (by assumption) hbx0))
     all_goals
      have HWN := Lib.hid (HW.out.trans (hbx.mono HW.out.size))
      go_wp2_with fail
      refine ⟨⟨k + 1, Nat.succ_le_of_lt c, by rw [hwk], HWN⟩, ?_⟩
      rw [hwk]
      simp [intOf]
      omega
   · have c2 : decide ((k : Int) < (n6 : Int)) = false := by simp; omega
     obtain rfl : k = n6 := by omega
     clear HA HM HC z2
     go_wp2_with fail
     exact HK.out _ _ _ _ _ _ _ _ _ _ _ _ _ _ _ _ _ _ _ _ _ wr HW.out

end Go.Proofs.YtkffomfbnbcgaaaGreatDoor
