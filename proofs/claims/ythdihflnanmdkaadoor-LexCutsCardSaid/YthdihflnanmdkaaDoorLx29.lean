/-
  The document's tokens of a text (haspref12): contracts over the translation.
  Conditions: none.
-/
import Derived.Test.YthdihflnanmdkaaDoorLx28
namespace Go.Proofs.YthdihflnanmdkaaDoor
set_option maxRecDepth 100000
open Go.RowKit Go.Joins Go.ChangeShapes Go.WideShapes
set_option linter.unusedVariables false
set_option linter.unusedSimpArgs false

theorem rone_any (s : ByteArray) (i0 : Nat) (w : World) (hi : i0 < s.size) (hs : s.size ≤ 4294967296) :
    Calls Tryd.prog 14 #[.string s, .int .i64 (i0 : Int)] w (RTok (tokL ((sl s).drop i0)) i0 w) := by
  have hdr := drop_getD (sl s) i0 (by rw [sl_length]; exact hi)
  cases hb : bwL ((sl s).getD i0 0) with
  | true =>
    have := rword_any s i0 w hi hs hb
    rw [hdr, ← tokL_word hb, ← hdr] at this
    exact this
  | false =>
    cases hd : dgL ((sl s).getD i0 0) with
    | true =>
      have := rnum_any s i0 w hi hs hb hd
      rw [hdr, ← tokL_num hb hd, ← hdr] at this
      exact this
    | false =>
      by_cases h39 : (sl s).getD i0 0 = 39
      · have := rtxt_any s i0 w hi hs h39
        rw [← tokL_txt, ← h39, ← hdr] at this
        exact this
      · have := rsgn_any s i0 w hi hs hb hd h39
        rw [hdr, ← tokL_sgn hb hd h39, ← hdr] at this
        exact this
/-- what the document's Tokens answers -/
def RTks (x : Except Nat (List Tk)) (w : World) (e : Ending) (w' : World) : Prop := Below w.heap.size w w' ∧ match x with
  | .error er => ∃ v, e = .returned (.tuple #[v, .int .i64 (er : Int)]) ∧ OwT w' w.heap.size v []
  | .ok ts => ∃ v, e = .returned (.tuple #[v, .int .i64 0]) ∧ OwT w' w.heap.size v ts
structure RkS (w wr : World) (l : List Nat) (v : Value) (ts : List Tk) (k : Nat) : Prop where
  own : OwT wr (w.heap.size + 1) v ts
  non : wr.heap[w.heap.size]? = some (.cells #[] 30 (0, 0))
  kl : k ≤ l.length
  al : ts.length ≤ k
  eq : lexL l = preT ts (lexL (l.drop k))
  bel : Below w.heap.size w wr
  sz : w.heap.size + 1 ≤ wr.heap.size
set_option maxHeartbeats 4000000 in
theorem rtokens_any (s : ByteArray) (w : World) :
    Calls Tryd.prog 7 #[.string s] w (RTks (toksE (sl s)) w) := by
  have b1 : Below w.heap.size w (w.alloc (.cells #[] 30)) := (Below.refl _ _).alloc (Nat.le_refl _) _
  have hn1 := heap_alloc_new w (.cells #[] 30)
  have b2 : Below w.heap.size w ((w.alloc (.cells #[] 30)).alloc (.cells #[] 30)) := b1.alloc (by simp) _
  have hn2 : ((w.alloc (.cells #[] 30)).alloc (.cells #[] 30)).heap[w.heap.size]? = some (.cells #[] 30 (0, 0)) := (((Below.refl _ _).alloc (Nat.le_refl _) (.cells #[] 30)).block _ (by simp)).trans hn1
  have hnon : ∀ wx : World, wx.heap[w.heap.size]? = some (.cells #[] 30 (0, 0)) → OwT wx w.heap.size (.slice (some ⟨w.heap.size, 0, none⟩) 0 0) [] := fun wx h => ⟨rfl, .inr ⟨_, 0, #[], rfl, Nat.le_refl _, h, Nat.le_refl _, by decide, rfl, rfl⟩⟩
  have HNON := Lib.hid hnon
  have HS0 : Hid (RkS w ((w.alloc (.cells #[] 30)).alloc (.cells #[] 30)) (sl s) (.slice (some ⟨w.heap.size + 1, 0, none⟩) 0 0) [] 0) := Lib.hid
    ⟨by
      have := World.ownsRow_made (w.alloc (.cells #[] 30)) #[] 0 (base := w.heap.size + 1) (e := 30) (size := 4) (by simp) (by decide) rfl
      simpa [OwT, tkcells] using this, hn2, Nat.zero_le _, Nat.zero_le _, by rw [preT_nil]; rfl, b2, by simp⟩
  generalize hP : RTks (toksE (sl s)) w = P
  have HP := Lib.hid hP
  have HB2 := Lib.hid (And.intro b2 hn2)
  clear hP b1 hn1 b2 hn2 hnon
  by_cases hlong : s.size > 4000
  · have hX : P (.returned (.tuple #[.slice (some ⟨w.heap.size, 0, none⟩) 0 0, .int .i64 1])) ((w.alloc (.cells #[] 30)).alloc (.cells #[] 30)) := by
      rw [← HP.out]
      unfold toksE
      rw [sl_length, if_pos hlong]
      exact ⟨HB2.out.1, _, rfl, HNON.out _ HB2.out.2⟩
    have HX := Lib.hid hX
    have k1 : decide ((4000 : Int) < (s.size : Int)) = true := by simp; omega
    clear hX
    go_enter Tryd.func7, Tryd.ntmps7
    go_wp2_with fail
    exact HX.out
  · have k1 : decide ((4000 : Int) < (s.size : Int)) = false := by simp; omega
    have hTE : toksE (sl s) = lexL (sl s) := by unfold toksE; rw [sl_length, if_neg hlong]
    rw [hTE] at HP
    clear hTE
    go_enter Tryd.func7, Tryd.ntmps7
    go_wp2_with fail
    go_loopw [5, 6] (fun v i wr => ∃ (k : Nat) (ts : List Tk), i = .int .i64 (k : Int) ∧ RkS w wr (sl s) v ts k) (fun _ i _ => s.size - (intOf i).toNat)
    case atStart => exact ⟨0, [], rfl, by simpa using HS0.out⟩
    case round =>
      obtain ⟨k, ts, rfl, hs⟩ := hrel
      have HS := Lib.hid hs
      have hkl : k ≤ s.size := by have := hs.kl; rw [sl_length] at this; exact this
      clear hs
      by_cases hk : k < s.size
      · have hki : (k : Int) < (s.size : Int) := by omega
        have hsx := (slx_get s k hk).symm
        have hdr := drop_getD (sl s) k (by rw [sl_length]; exact hk)
        have hc8 := slx_lt s k
        have HC := Lib.hid (rone_any s k wr hk (by omega))
        generalize (sl s).getD k 0 = c at *
        have HDR := Lib.hid hdr
        have w7' : IntKind.i64.wrap ((k : Int) + 1) = (k : Int) + 1 := by rw [IntKind.wrap_i64]; omega
        clear hdr
        have hj : (blL c = true ∧ (c = 32 ∨ c = 9 ∨ c = 10 ∨ c = 13)) ∨ (blL c = false ∧ ((c : Int) == 32) = false ∧ ((c : Int) == 9) = false ∧ ((c : Int) == 10) = false ∧ ((c : Int) == 13) = false) := by
          cases hb : blL c with
          | true => exact .inl ⟨rfl, blk_cases hb⟩
          | false =>
            right
            unfold blL at hb
            simp only [Bool.or_eq_false_iff, beq_eq_false_iff_ne] at hb
            exact ⟨rfl, beq_eq_false_iff_ne.2 (by omega), beq_eq_false_iff_ne.2 (by omega), beq_eq_false_iff_ne.2 (by omega), beq_eq_false_iff_ne.2 (by omega)⟩
        rcases hj with ⟨hb, hj⟩ | ⟨hb, j1, j2, j3, j4⟩
        · have hnx : Hid (RkS w wr (sl s) u5 ts (k + 1)) := Lib.hid ⟨HS.out.own, HS.out.non, by rw [sl_length]; omega, by have := HS.out.al; omega, by rw [HS.out.eq, HDR.out, lexL_blank c _ hb], HS.out.bel, HS.out.sz⟩
          clear HC HDR hb
          rcases hj with rfl | rfl | rfl | rfl
          all_goals
            go_wp2_with fail
            all_goals first
              | (exfalso; omega)
              | exact ⟨⟨k + 1, ts, by congr 1, hnx.out⟩, by simp [intOf]; omega⟩
        · have hlt := lexL_tok c ((sl s).drop (k + 1)) hb
          rw [← HDR.out] at hlt
          have HLT := Lib.hid hlt
          have hne : (sl s).drop k ≠ [] := by rw [HDR.out]; simp
          clear hlt hb
          cases htk : tokL ((sl s).drop k) with
          | error er =>
            rw [htk] at HC HLT
            have her := tokL_err _ hne er htk
            have hne2 : ((er : Int) != 0) = true := by simp; omega
            go_wp2_with fail
            all_goals first | (exfalso; omega) | skip
            try go_at_call 14
            refine HC.out.mono ?_
            rintro ee w2 ⟨hb2, j, rfl⟩
            have hX : P (.returned (.tuple #[.slice (some ⟨w.heap.size, 0, none⟩) 0 0, .int .i64 (er : Int)])) (w2.alloc (.cells #[.int .i64 0, .string ⟨#[]⟩, .int .i64 0, .int .i64 0] 30)) := by
              rw [← HP.out, HS.out.eq, HLT.out]
              have hbb := (HS.out.bel.trans (hb2.mono (by have := HS.out.sz; omega))).alloc (by have := HS.out.sz; have := hb2.size; omega) (.cells #[.int .i64 0, .string ⟨#[]⟩, .int .i64 0, .int .i64 0] 30)
              refine ⟨hbb, _, rfl, HNON.out _ ?_⟩
              exact (((hb2.trans (((Below.refl _ _).alloc (Nat.le_refl _) _).mono hb2.size)).block _ (by have := HS.out.sz; omega))).trans HS.out.non
            have HX := Lib.hid hX
            clear hX hb2
            unfold Tkv
            go_wp2_with fail
            exact HX.out
          | ok x =>
            obtain ⟨t, k2⟩ := x
            rw [htk] at HC HLT
            obtain ⟨hk2, hk0⟩ := tokL_len _ t k2 htk
            rw [List.length_drop, sl_length] at hk2
            go_wp2_with fail
            all_goals first | (exfalso; omega) | skip
            try go_at_call 14
            refine HC.out.mono ?_
            rintro ee w6 ⟨hb6, he⟩
            have he : ee = _ := he
            subst he
            have hs6 := hb6.size
            have hsr := HS.out.sz
            obtain ⟨w7, hw7⟩ : ∃ w7, w6.alloc (.cells #[.int .i64 (t.kind : Int), .string (strB t.text), .int .i64 (t.num : Int), .int .i64 (t.scale : Int)] 30) = w7 := ⟨_, rfl⟩
            have b7 : Below w6.heap.size w6 w7 := by rw [← hw7]; exact (Below.refl _ _).alloc (Nat.le_refl _) _
            have n7 : TBox w7 w6.heap.size (t.kind : Int) (t.num : Int) (t.scale : Int) (strB t.text) := by rw [← hw7]; exact heap_alloc_new w6 (.cells #[.int .i64 (t.kind : Int), .string (strB t.text), .int .i64 (t.num : Int), .int .i64 (t.scale : Int)] 30)
            obtain ⟨⟨x0, x1, x2, x3⟩, y0, y1, y2, y3⟩ := n7.cells
            obtain ⟨w8, hw8⟩ : ∃ w8, w7.alloc (.cells #[.int .i64 (t.kind : Int), .string (strB t.text), .int .i64 (t.num : Int), .int .i64 (t.scale : Int)] 30) = w8 := ⟨_, rfl⟩
            have b8 : Below w7.heap.size w7 w8 := by rw [← hw8]; exact (Below.refl _ _).alloc (Nat.le_refl _) _
            have hnews : ∀ j x, (tkcells [t])[j]? = some x → w8.cell? ((⟨w7.heap.size, 0, none⟩ : Addr).add j) = some x := by rw [← hw8]; exact newsT w7 t
            have b68 : Below wr.heap.size wr w8 := hb6.trans ((b7.trans (b8.mono b7.size)).mono hs6)
            have HNW := Lib.hid hnews
            have HO8 := Lib.hid (HS.out.own.below b68)
            have HB8 := Lib.hid (HS.out.bel.trans (b68.mono (by omega)))
            have HN8 := Lib.hid ((b68.block _ (by omega)).trans HS.out.non)
            have hs8 := b68.size
            have hal : ts.length + 1 ≤ 4294967297 := by have := HS.out.al; omega
            clear b7 n7 b8 hnews b68 hb6
            unfold Tkv
            go_wp2_with (first | (at_builtin; refine wp_pushT rfl _ _ rfl (w.heap.size + 1) u5 ts rfl HO8.out (by omega) ⟨w7.heap.size, 0, none⟩ 1 1 [t] rfl rfl HNW.out hal ?_; intro v9 w9 own9 gr9; have HX9 := Lib.hid (And.intro own9 gr9); clear own9 gr9))
            have hs9 := HX9.out.2.size
            refine ⟨⟨k + k2, ts ++ [t], by congr 1, ⟨HX9.out.1, ?_, by rw [sl_length]; omega, by have := HS.out.al; simp; omega, ?_, ?_, by omega⟩⟩, by simp [intOf]; omega⟩
            · exact (HX9.out.2.block _ (by omega) (fun e => by have := (HO8.out.lt _ e.symm).1; omega)).trans HN8.out
            · rw [HS.out.eq, HLT.out, ← List.drop_drop]
              show preT ts (preT [t] _) = _
              rw [preT_preT]
            · exact HB8.out.grown HX9.out.2 (by omega) (fun g hg => by have := (HO8.out.lt g hg).1; omega)
      · have hki : decide ((k : Int) < (s.size : Int)) = false := by simp; omega
        have hX : P (.returned (.tuple #[u5, .int .i64 0])) wr := by
          rw [← HP.out, HS.out.eq, List.drop_eq_nil_of_le (by rw [sl_length]; omega), lexL_nil]
          refine ⟨HS.out.bel, u5, rfl, ?_⟩
          have := HS.out.own.le (B' := w.heap.size) (by omega)
          simpa using this
        have HX := Lib.hid hX
        clear hX
        go_wp2_with fail
        exact HX.out

end Go.Proofs.YthdihflnanmdkaaDoor
