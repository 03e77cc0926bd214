/-
  The tokens of a text (layer 12): contracts over the translation.
  Conditions: the library's error for a number that is too great is laid.
-/
import Derived.Test.YtlhipnklljjahaaDoorLx22
namespace Go.Proofs.YtlhipnklljjahaaDoor
set_option maxRecDepth 100000
open Go.RowKit Go.Joins Go.ChangeShapes Go.WideShapes
set_option linter.unusedVariables false
set_option linter.unusedSimpArgs false

theorem tokL_err (l : List Nat) (hl : l ≠ []) (e : Nat) (h : tokL l = .error e) : 0 < e ∧ e ≤ 122 := by
  cases l with
  | nil => exact absurd rfl hl
  | cons c r =>
    rw [tokL_cons, tokC_eq] at h
    repeat' split at h
    all_goals first
      | (injection h with h; omega)
      | (cases h; done)
theorem tokL_len (l : List Nat) (t : Tk) (k : Nat) (h : tokL l = .ok (t, k)) : k ≤ l.length ∧ 0 < k := (tokL_app (e := 32) rfl [] l t k h).2
/-- how the tokens' loop stands -/
structure TkS (w wr : World) (rd b : Nat) (l : List Nat) (v : Value) (ts : List Tk) (k off cap : Nat) : Prop where
  own : OwT wr (w.heap.size + 2) v ts
  rds : Rd wr rd b off cap (l.drop k)
  kl : k ≤ l.length
  al : ts.length ≤ k
  eq : lexL l = preT ts (lexL (l.drop k))
  hd : l.drop k = [] ∨ ∃ c r, l.drop k = c :: r ∧ blL c = false
  bel : Below w.heap.size w wr
  er : ErrR wr
/-- what Tokens answers -/
def TksP (x : Except Nat (List Tk)) (w : World) (e : Ending) (w' : World) : Prop := Below w.heap.size w w' ∧ match x with
  | .error er => e = .returned (.tuple #[.slice none 0 0, .int .i64 (er : Int)])
  | .ok ts => ∃ v, e = .returned (.tuple #[v, .int .i64 0]) ∧ OwT w' w.heap.size v ts
set_option maxHeartbeats 4000000 in
theorem tokens_any (s : ByteArray) (w : World) (hE : ErrR w) :
    Calls Tryd.prog 5 #[.string s] w (TksP (toksE (sl s)) w) := by
  have hEl := hE.lt
  have HE0 := Lib.hid hE
  generalize hP : TksP (toksE (sl s)) w = P
  have HP := Lib.hid hP
  clear hP
  by_cases hlong : s.size > 4000
  · have hX : P (.returned (.tuple #[.slice none 0 0, .int .i64 1])) w := by
      rw [← HP.out]
      unfold toksE
      rw [sl_length, if_pos hlong]
      exact ⟨Below.refl _ _, rfl⟩
    have HX := Lib.hid hX
    have k1 : decide ((4000 : Int) < (s.size : Int)) = true := by simp; omega
    clear hX
    go_enter Tryd.func5, Tryd.ntmps5
    go_wp2_with fail
    exact HX.out
  · have k1 : decide ((4000 : Int) < (s.size : Int)) = false := by simp; omega
    obtain ⟨cap, w1, hcv, hc1, hc2, hs1, b1, is1⟩ := conv_b s w (by unfold maxLen; omega)
    have hbA : Below w1.heap.size w1 (w1.alloc (.cells #[.slice (some ⟨w.heap.size, 0, none⟩) s.size cap] 35)) := (Below.refl _ _).alloc (Nat.le_refl _) _
    have hR : Rd (w1.alloc (.cells #[.slice (some ⟨w.heap.size, 0, none⟩) s.size cap] 35)) w1.heap.size w.heap.size 0 cap (sl s) :=
      ⟨by rw [sl_length]; exact heap_alloc_new w1 _, is1.below hbA, by rw [sl_length]; exact hc1, hc2, by rw [sl_length]; omega, by omega⟩
    have hB2 : Below w.heap.size w (w1.alloc (.cells #[.slice (some ⟨w.heap.size, 0, none⟩) s.size cap] 35)) := b1.trans (hbA.mono (by omega))
    obtain ⟨rd, hrdd⟩ : ∃ rd, w1.heap.size = rd := ⟨_, rfl⟩
    have hrd1 : w.heap.size < rd := by omega
    have hrd2 : rd < w.heap.size + 2 := by omega
    rw [hrdd] at hR
    have HT := Lib.hid (pass_any blank_any (enters_of Tryd.func11 (by kernel_rfl) rfl) hR)
    have HB2 := Lib.hid hB2
    have HE2 := Lib.hid (hE.below hB2)
    have hsz2 : (w1.alloc (.cells #[.slice (some ⟨w.heap.size, 0, none⟩) s.size cap] 35)).heap.size = w.heap.size + 2 := by simp; omega
    have HSZ2 := Lib.hid hsz2
    clear hR hB2 hbA b1 is1 hsz2 hE hs1 hc1 hc2
    go_enter Tryd.func5, Tryd.ntmps5
    go_wp2_with fail
    generalize w1.alloc (.cells #[.slice (some ⟨w.heap.size, 0, none⟩) s.size cap] 35) = w2 at *
    try go_at_call 10
    refine HT.out.mono ?_
    rintro e w3 ⟨rfl, off3, cap3, r3, f3⟩
    have HS0 : Hid (TkS w w3 rd w.heap.size (sl s) (.slice none 0 0) [] (runL blL (sl s)) off3 cap3) := Lib.hid
      ⟨OwT.nil _ _, r3, runL_le _ _, Nat.zero_le _, by rw [preT_nil]; exact lexL_run _, run_head _, HB2.out.trans (f3.below (fun k hk => by subst hk; omega) (by have := HSZ2.out; omega)), HE2.out.frm f3 (by show ¬ _ = _; omega)⟩
    clear r3 f3
    go_wp2_with fail
    go_loopw [4] (fun v wr => ∃ ts k off cap, TkS w wr rd w.heap.size (sl s) v ts k off cap) (fun _ wr => lenAt wr rd)
    case atStart => exact ⟨_, _, _, _, HS0.out⟩
    case round =>
      obtain ⟨ts, k, off5, cap5, hs⟩ := hrel
      have c0 : wr.cell? ⟨rd, 0, none⟩ = some (.slice (some ⟨w.heap.size, 0 + off5, none⟩) ((sl s).drop k).length cap5) := by rw [cell_of_block hs.rds.hd, Nat.zero_add]; rfl
      rw [Nat.zero_add] at c0
      have HS := Lib.hid hs
      have hhd := hs.hd
      have hlen := hs.rds.len
      clear hs
      rcases hhd with e | ⟨c, r, e, hbl⟩
      · rw [e] at c0
        have c0 : wr.cell? ⟨rd, 0, none⟩ = some (.slice (some ⟨w.heap.size, off5, none⟩) 0 cap5) := c0
        have hX : P (.returned (.tuple #[u4, .int .i64 0])) wr := by
          have heq := HS.out.eq
          rw [e, lexL_nil] at heq
          rw [← HP.out]
          unfold toksE
          rw [sl_length, if_neg hlong, heq]
          exact ⟨HS.out.bel, u4, rfl, by
            have := HS.out.own.le (B' := w.heap.size) (by omega)
            simpa using this⟩
        have HX := Lib.hid hX
        clear hX e hlen
        go_wp2_with fail
        exact HX.out
      · have hrds := HS.out.rds
        rw [e] at hrds
        have HRD := Lib.hid hrds
        have HT := Lib.hid (token_any hrds HS.out.er (by omega))
        have hkl : k + (r.length + 1) = s.size := by
          have := congrArg List.length e
          rw [List.length_drop, sl_length] at this
          have h2 := HS.out.kl
          rw [sl_length] at h2
          simp only [List.length_cons] at this
          omega
        rw [e] at c0
        obtain ⟨n, hn⟩ : ∃ n, (c :: r).length = n := ⟨_, rfl⟩
        have hnp : (0 : Int) < (n : Int) := by rw [← hn]; simp
        rw [hn] at c0
        have HN := Lib.hid hn
        have HEe := Lib.hid e
        have hlt := lexL_tok c r hbl
        have HLT := Lib.hid hlt
        clear hrds hn e hlt
        cases htk : tokL (c :: r) with
        | error er =>
          rw [htk] at HT HLT
          have her := tokL_err _ (by simp) er htk
          have hne : ((er : Int) != 0) = true := by simp; omega
          have hne2 : ((er : Int) == 0) = false := beq_eq_false_iff_ne.2 (by omega)
          go_wp2_with fail
          try go_at_call 12
          refine HT.out.mono ?_
          rintro ee w6 ⟨rfl, f6⟩
          have hX : P (.returned (.tuple #[.slice none 0 0, .int .i64 (er : Int)])) (w6.alloc (.cells #[.int .i64 0, .string ⟨#[]⟩, .int .i64 0, .int .i64 0] 29)) := by
            rw [← HP.out]
            unfold toksE
            rw [sl_length, if_neg hlong, HS.out.eq, HEe.out, HLT.out]
            exact ⟨(HS.out.bel.trans (f6.below (fun k hk => by subst hk; omega) (by have := HS.out.bel.size; omega))).alloc (by have := f6.size; have := HS.out.bel.size; omega) _, rfl⟩
          have HX := Lib.hid hX
          clear hX f6 hlen
          unfold Tkv
          go_wp2_with fail
          exact HX.out
        | ok x =>
          obtain ⟨t, k2⟩ := x
          rw [htk] at HT HLT
          obtain ⟨hk2, hk0⟩ := tokL_len _ t k2 htk
          go_wp2_with fail
          try go_at_call 12
          refine HT.out.mono ?_
          rintro ee w6 ⟨rfl, off6, cap6, r6, f6⟩
          have HR6 := Lib.hid r6
          have F6 := Lib.hid f6
          have hs6 := f6.size
          have hsw := HS.out.bel.size
          have hbox : w.heap.size + 2 ≤ wr.heap.size := by
            have := (Array.getElem?_eq_some_iff.1 HRD.out.hd).1
            omega
          have own6 := Frm.owT f6 HS.out.own (fun g hg => by have := (HS.out.own.lt g hg).1; show ¬ g = rd; omega)
          have HO6 := Lib.hid own6
          have hbw6 : Below w.heap.size w w6 := HS.out.bel.trans (f6.below (fun k hk => by subst hk; omega) (by omega))
          have HBW6 := Lib.hid hbw6
          have HER6 := Lib.hid (HS.out.er.frm f6 (by show ¬ _ = _; omega))
          obtain ⟨w7, hw7⟩ : ∃ w7, w6.alloc (.cells #[.int .i64 (t.kind : Int), .string (strB t.text), .int .i64 (t.num : Int), .int .i64 (t.scale : Int)] 29) = w7 := ⟨_, rfl⟩
          have b7 : Below w6.heap.size w6 w7 := by rw [← hw7]; exact (Below.refl _ _).alloc (Nat.le_refl _) _
          have n7 : TBox w7 w6.heap.size (t.kind : Int) (t.num : Int) (t.scale : Int) (strB t.text) := by rw [← hw7]; exact heap_alloc_new w6 (.cells #[.int .i64 (t.kind : Int), .string (strB t.text), .int .i64 (t.num : Int), .int .i64 (t.scale : Int)] 29)
          obtain ⟨⟨x0, x1, x2, x3⟩, y0, y1, y2, y3⟩ := n7.cells
          obtain ⟨w8, hw8⟩ : ∃ w8, w7.alloc (.cells #[.int .i64 (t.kind : Int), .string (strB t.text), .int .i64 (t.num : Int), .int .i64 (t.scale : Int)] 29) = w8 := ⟨_, rfl⟩
          have b8 : Below w7.heap.size w7 w8 := by rw [← hw8]; exact (Below.refl _ _).alloc (Nat.le_refl _) _
          have hnews : ∀ j x, (tkcells [t])[j]? = some x → w8.cell? ((⟨w7.heap.size, 0, none⟩ : Addr).add j) = some x := by rw [← hw8]; exact newsT w7 t
          have b68 : Below w6.heap.size w6 w8 := b7.trans (b8.mono b7.size)
          have HNW := Lib.hid hnews
          have HO8 := Lib.hid (own6.below b68)
          have HB68 := Lib.hid b68
          have hs8 := b68.size
          have hal : ts.length + 1 ≤ 4294967297 := by have := HS.out.al; have := HS.out.kl; rw [sl_length] at this; omega
          clear r6 f6 own6 hbw6 b7 n7 b8 hnews b68 hlen c0
          unfold Tkv
          go_wp2_with (first | (at_builtin; refine wp_pushT rfl _ _ rfl (w.heap.size + 2) u4 ts rfl HO8.out (by omega) ⟨w7.heap.size, 0, none⟩ 1 1 [t] rfl rfl HNW.out hal ?_; intro v9 w9 own9 gr9; have HX9 := Lib.hid (And.intro own9 gr9); clear own9 gr9))
          clear x0 x1 x2 x3 y0 y1 y2 y3
          have r9 := (HR6.out.below HB68.out).grown HX9.out.2 (fun g hg => by have := (HO8.out.lt g hg).1; omega)
          have bw9 : Below w.heap.size w w9 := (HBW6.out.trans (HB68.out.mono (by omega))).grown HX9.out.2 (by omega) (fun g hg => by have := (HO8.out.lt g hg).1; omega)
          have hs9 := HX9.out.2.size
          have HTb := Lib.hid (pass_any blank_any (enters_of Tryd.func11 (by kernel_rfl) rfl) r9)
          have HBW9 := Lib.hid bw9
          clear r9 bw9
          try go_at_call 10
          refine HTb.out.mono ?_
          rintro ee w10 ⟨rfl, off10, cap10, r10, f10⟩
          have hb10 : Below w.heap.size w w10 := HBW9.out.trans (f10.below (fun k hk => by subst hk; omega) (by omega))
          have hdr : (sl s).drop (k + k2 + runL blL ((c :: r).drop k2)) = ((c :: r).drop k2).drop (runL blL ((c :: r).drop k2)) := by
            rw [← List.drop_drop, ← List.drop_drop, HEe.out]
          have hq := runL_le blL ((c :: r).drop k2)
          rw [List.length_drop] at hq
          have hER9 : ErrR w10 := HE0.out.below hb10
          rw [← hdr] at r10
          have HR10 := Lib.hid r10
          have O10 := Frm.owT f10 HX9.out.1 (fun g hg => by have := (HX9.out.1.lt g hg).1; show ¬ g = rd; omega)
          have heq10 : lexL (sl s) = preT (ts ++ [t]) (lexL ((sl s).drop (k + k2 + runL blL ((c :: r).drop k2)))) := by
            rw [HS.out.eq, HEe.out, HLT.out, hdr]
            show preT ts (preT [t] _) = _
            rw [preT_preT, lexL_run ((c :: r).drop k2)]
          have hk10 : k + k2 + runL blL ((c :: r).drop k2) ≤ (sl s).length := by
            rw [sl_length]
            simp only [List.length_cons] at hk2 hq
            omega
          go_wp2_with fail
          go_roundw
          case rel => exact ⟨ts ++ [t], k + k2 + runL blL ((c :: r).drop k2), off10, cap10, O10, HR10.out, hk10, by have := HS.out.al; simp; omega, heq10, by rw [hdr]; exact run_head _, hb10, hER9⟩
          case measure =>
            rw [HR10.out.len, List.length_drop, sl_length, HRD.out.len]
            simp only [List.length_cons] at hk2 ⊢
            omega

end Go.Proofs.YtlhipnklljjahaaDoor
