/-
  The reader's token (layer 12): contracts over the translation.
  Conditions: the reader lies in memory; the library's error for a number that is too great is laid.
-/
import Derived.Test.YtlhipnklljjahaaDoorLx21
namespace Go.Proofs.YtlhipnklljjahaaDoor
set_option maxRecDepth 100000
open Go.RowKit Go.Joins Go.ChangeShapes Go.WideShapes
set_option linter.unusedVariables false
set_option linter.unusedSimpArgs false

theorem TokP.open {x : Except Nat (Tk × Nat)} {w w1 w2 : World} {rd b : Nat} {l : List Nat} {e : Ending} (h : TokP x w1 rd b l e w2) (hb : Below w.heap.size w w1) (h1 : rd < w.heap.size) (h2 : b < w.heap.size) :
    ∃ k s n sc er, e = .returned (.tuple #[Tkv k s n sc, .int .i64 er]) ∧ Frm (fun k => k = rd) w1 w2 ∧
      TokP x w rd b l (.returned (.tuple #[Tkv k s n sc, .int .i64 er])) ((((w2.setCell ⟨w.heap.size, 0, none⟩ (.int .i64 k)).setCell ⟨w.heap.size, 1, none⟩ (.string s)).setCell ⟨w.heap.size, 2, none⟩ (.int .i64 n)).setCell ⟨w.heap.size, 3, none⟩ (.int .i64 sc)) := by
  cases x with
  | error er =>
    obtain ⟨rfl, f⟩ := h
    have f0 := (Frm.of_below (F := fun k => k = rd) hb).trans f (New.refl _ _)
    exact ⟨_, _, _, _, _, rfl, f, rfl, (((f0.setCell (.inr (Nat.le_refl _)) 0 _).setCell (.inr (Nat.le_refl _)) 1 _).setCell (.inr (Nat.le_refl _)) 2 _).setCell (.inr (Nat.le_refl _)) 3 _⟩
  | ok y =>
    obtain ⟨t, k⟩ := y
    obtain ⟨rfl, off', cap', r, f⟩ := h
    have f0 := (Frm.of_below (F := fun k => k = rd) hb).trans f (New.refl _ _)
    obtain ⟨a1, a2⟩ := Rd.boxed f0 r h1 h2 (.int .i64 t.kind) (.string (strB t.text)) (.int .i64 t.num) (.int .i64 t.scale)
    exact ⟨_, _, _, _, _, rfl, f, rfl, off', cap', a1, a2⟩
theorem tokL_word {c : Nat} {r : List Nat} (h : bwL c = true) : tokL (c :: r) = wrdE (c :: r) := by
  rw [tokL_cons, tokC_eq, if_pos h]; rfl
theorem tokL_num {c : Nat} {r : List Nat} (h : bwL c = false) (h2 : dgL c = true) : tokL (c :: r) = numE (c :: r) := by
  rw [tokL_cons, tokC_eq, if_neg (by simp [h]), if_pos h2]; rfl
theorem tokL_txt (r : List Nat) : tokL (39 :: r) = txtE r := by
  rw [tokL_cons, tokC_eq, if_neg (by decide), if_neg (by decide), if_pos rfl]
  unfold txtE
  cases textL r <;> rfl
theorem tokL_sgn {c : Nat} {r : List Nat} (h : bwL c = false) (h2 : dgL c = false) (h3 : ¬ c = 39) : tokL (c :: r) = sgnE (c :: r) := by
  rw [tokL_cons, tokC_eq, if_neg (by simp [h]), if_neg (by simp [h2]), if_neg h3]; rfl
set_option maxHeartbeats 4000000 in
theorem token_any {w : World} {rd b off cap : Nat} {c : Nat} {r : List Nat} (h : Rd w rd b off cap (c :: r)) (hE : ErrR w) (hrE : 3 ≠ rd) :
    Calls Tryd.prog 12 #[.pointer (some ⟨rd, 0, none⟩)] w (TokP (tokL (c :: r)) w rd b (c :: r)) := by
  have b1 : Below w.heap.size w (w.alloc (.cells #[.int .i64 0, .string ⟨#[]⟩, .int .i64 0, .int .i64 0] 29)) := (Below.refl _ _).alloc (Nat.le_refl _) _
  have h1 := h.below b1
  have hE1 := hE.below b1
  have hbl : b < w.heap.size := h.is.hb (by simp)
  have hrd : rd < w.heap.size := (Array.getElem?_eq_some_iff.1 h.hd).1
  have hc8 : c < 256 := h.is.lt c (List.mem_cons_self ..)
  have hnew : TBox (w.alloc (.cells #[.int .i64 0, .string ⟨#[]⟩, .int .i64 0, .int .i64 0] 29)) w.heap.size 0 0 0 ⟨#[]⟩ := heap_alloc_new w (.cells #[.int .i64 0, .string ⟨#[]⟩, .int .i64 0, .int .i64 0] 29)
  have HN := Lib.hid hnew
  have HBel := Lib.hid b1
  have c0 : (w.alloc (.cells #[.int .i64 0, .string ⟨#[]⟩, .int .i64 0, .int .i64 0] 29)).cell? ⟨rd, 0, none⟩ = some (.slice (some ⟨b, off, none⟩) (c :: r).length cap) := by rw [cell_of_block h1.hd]; rfl
  have d0 : (w.alloc (.cells #[.int .i64 0, .string ⟨#[]⟩, .int .i64 0, .int .i64 0] 29)).cell? ⟨b, off, none⟩ = some (.int .u8 (c : Int)) := h1.is.c 0 c rfl
  have hlp : 0 < (c :: r).length := by simp
  obtain ⟨n, hn⟩ : ∃ n, (c :: r).length = n := ⟨_, rfl⟩
  rw [hn] at c0 hlp
  have HB1 := Lib.hid (begins_any c (w.alloc (.cells #[.int .i64 0, .string ⟨#[]⟩, .int .i64 0, .int .i64 0] 29)) hc8)
  have HD1 := Lib.hid (digit_any c (w.alloc (.cells #[.int .i64 0, .string ⟨#[]⟩, .int .i64 0, .int .i64 0] 29)) hc8)
  generalize hP : TokP (tokL (c :: r)) w rd b (c :: r) = P
  have HP := Lib.hid hP
  have H1 := Lib.hid h1
  have HE1 := Lib.hid hE1
  clear hP h h1 hE hE1 hnew b1 hn
  go_enter Tryd.func12, Tryd.ntmps12
  cases q1 : bwL c with
  | true =>
    rw [q1] at HB1
    have HC := Lib.hid (word_any H1.out q1)
    rw [tokL_word q1] at HP
    generalize wrdE (c :: r) = X at *
    generalize (c :: r) = l at *
    go_wp2_with (first | (go_at_call 14; refine HB1.out.mono ?_; rintro e w' ⟨rfl, rfl⟩))
    try go_at_call 18
    refine HC.out.mono ?_
    rintro e w2 ht
    obtain ⟨k, s, n2, sc, er, rfl, f2, hx⟩ := ht.open HBel.out hrd hbl
    rw [HP.out] at hx
    have HX := Lib.hid hx
    have hbx := HN.out.frm f2 (by omega)
    obtain ⟨⟨e0, e1, e2, e3⟩, f0, f1, f4, f3⟩ := hbx.cells
    have HBX := Lib.hid hbx
    clear hx ht f2 hbx
    unfold Tkv at *
    go_wp2_with fail
    exact tok_ret Tryd.results12 (box_four HBX.out _ _ _ _) rfl rfl rfl HX.out
  | false =>
    rw [q1] at HB1
    cases q2 : dgL c with
    | true =>
      rw [q2] at HD1
      have HC := Lib.hid (number_any H1.out q2 HE1.out hrE)
      rw [tokL_num q1 q2] at HP
      generalize numE (c :: r) = X at *
      generalize (c :: r) = l at *
      go_wp2_with (first | (go_at_call 14; refine HB1.out.mono ?_; rintro e w' ⟨rfl, rfl⟩) | (go_at_call 19; refine HD1.out.mono ?_; rintro e w' ⟨rfl, rfl⟩))
      try go_at_call 20
      refine HC.out.mono ?_
      rintro e w2 ht
      obtain ⟨k, s, n2, sc, er, rfl, f2, hx⟩ := ht.open HBel.out hrd hbl
      rw [HP.out] at hx
      have HX := Lib.hid hx
      have hbx := HN.out.frm f2 (by omega)
      obtain ⟨⟨e0, e1, e2, e3⟩, f0, f1, f4, f3⟩ := hbx.cells
      have HBX := Lib.hid hbx
      clear hx ht f2 hbx
      unfold Tkv at *
      go_wp2_with fail
      exact tok_ret Tryd.results12 (box_four HBX.out _ _ _ _) rfl rfl rfl HX.out
    | false =>
      rw [q2] at HD1
      by_cases q3 : c = 39
      · subst q3
        have HC := Lib.hid (text_any H1.out)
        rw [tokL_txt] at HP
        generalize txtE r = X at *
        generalize (39 :: r) = l at *
        go_wp2_with (first | (go_at_call 14; refine HB1.out.mono ?_; rintro e w' ⟨rfl, rfl⟩) | (go_at_call 19; refine HD1.out.mono ?_; rintro e w' ⟨rfl, rfl⟩))
        try go_at_call 21
        refine HC.out.mono ?_
        rintro e w2 ht
        obtain ⟨k, s, n2, sc, er, rfl, f2, hx⟩ := ht.open HBel.out hrd hbl
        rw [HP.out] at hx
        have HX := Lib.hid hx
        have hbx := HN.out.frm f2 (by omega)
        obtain ⟨⟨e0, e1, e2, e3⟩, f0, f1, f4, f3⟩ := hbx.cells
        have HBX := Lib.hid hbx
        clear hx ht f2 hbx
        unfold Tkv at *
        go_wp2_with fail
        exact tok_ret Tryd.results12 (box_four HBX.out _ _ _ _) rfl rfl rfl HX.out
      · have HC := Lib.hid (sign_any H1.out (by simp))
        rw [tokL_sgn q1 q2 q3] at HP
        have q4 : ((c : Int) == 39) = false := beq_eq_false_iff_ne.2 (by omega)
        generalize sgnE (c :: r) = X at *
        generalize (c :: r) = l at *
        go_wp2_with (first | (go_at_call 14; refine HB1.out.mono ?_; rintro e w' ⟨rfl, rfl⟩) | (go_at_call 19; refine HD1.out.mono ?_; rintro e w' ⟨rfl, rfl⟩))
        try go_at_call 22
        refine HC.out.mono ?_
        rintro e w2 ht
        obtain ⟨k, s, n2, sc, er, rfl, f2, hx⟩ := ht.open HBel.out hrd hbl
        rw [HP.out] at hx
        have HX := Lib.hid hx
        have hbx := HN.out.frm f2 (by omega)
        obtain ⟨⟨e0, e1, e2, e3⟩, f0, f1, f4, f3⟩ := hbx.cells
        have HBX := Lib.hid hbx
        clear hx ht f2 hbx
        unfold Tkv at *
        go_wp2_with fail
        exact tok_ret Tryd.results12 (box_four HBX.out _ _ _ _) rfl rfl rfl HX.out

end Go.Proofs.YtlhipnklljjahaaDoor
