/-
  The document's text (haspref12): contracts over the translation.
  Conditions: none.
-/
import Derived.Test.YthdihflnanmdkaaDoorLx25
namespace Go.Proofs.YthdihflnanmdkaaDoor
set_option maxRecDepth 100000
open Go.RowKit Go.Joins Go.ChangeShapes Go.WideShapes
set_option linter.unusedVariables false
set_option linter.unusedSimpArgs false

def txtR (r : List Nat) : Except Nat (Tk × Nat) := match textL r with
  | none => .error 121
  | some x => if x.1.length > 200 then .error 1 else .ok (⟨4, x.1, 0, 0⟩, x.2)
/-- how the text's loop stands -/
structure RxS (w wr : World) (l : List Nat) (v : Value) (acc : List Nat) (k : Nat) : Prop where
  own : OwB wr (w.heap.size + 1) v acc
  kl : k ≤ l.length
  al : acc.length ≤ k
  eq : textL l = (textL (l.drop k)).map (fun x => (acc ++ x.1, k + x.2))
  bel : Below w.heap.size w wr
  sz : w.heap.size + 1 ≤ wr.heap.size
  bx : TBox wr w.heap.size 0 0 0 ⟨#[]⟩
theorem drop_getD (l : List Nat) (k : Nat) (h : k < l.length) : l.drop k = l.getD k 0 :: l.drop (k + 1) := by
  rw [List.drop_eq_getElem_cons h, List.getD_eq_getElem?_getD, List.getElem?_eq_getElem h]
  rfl
theorem getD_out (l : List Nat) (k : Nat) (h : ¬ k < l.length) : l.getD k 0 = 0 := by
  rw [List.getD_eq_getElem?_getD, List.getElem?_eq_none (by omega)]
  rfl
set_option maxHeartbeats 4000000 in
theorem rtext_any (s : ByteArray) (i0 : Nat) (w : World) (hi : i0 ≤ s.size) (hs : s.size ≤ 4294967296) :
    Calls Tryd.prog 29 #[.string s, .int .i64 (i0 : Int)] w (RTok (txtR ((sl s).drop i0)) i0 w) := by
  have b1 : Below w.heap.size w (w.alloc (.cells #[.int .i64 0, .string ⟨#[]⟩, .int .i64 0, .int .i64 0] 30)) := (Below.refl _ _).alloc (Nat.le_refl _) _
  have hnew : TBox (w.alloc (.cells #[.int .i64 0, .string ⟨#[]⟩, .int .i64 0, .int .i64 0] 30)) w.heap.size 0 0 0 ⟨#[]⟩ := heap_alloc_new w (.cells #[.int .i64 0, .string ⟨#[]⟩, .int .i64 0, .int .i64 0] 30)
  obtain ⟨l, hl⟩ : ∃ l, (sl s).drop i0 = l := ⟨_, rfl⟩
  have hll : l.length + i0 = s.size := by rw [← hl, List.length_drop, sl_length]; omega
  have hget : ∀ k, (sl s).getD (i0 + k) 0 = l.getD k 0 := fun k => by rw [← hl, getD_drop]
  have hgx : ∀ (k : Nat) (h : i0 + k < s.size), (s[i0 + k]'h).toNat = l.getD k 0 := fun k h => by rw [← hget, slx_get s _ h]
  rw [hl]
  have HS0 : Hid (RxS w ((w.alloc (.cells #[.int .i64 0, .string ⟨#[]⟩, .int .i64 0, .int .i64 0] 30)).alloc (.cells #[] 5)) l (.slice (some ⟨w.heap.size + 1, 0, none⟩) 0 0) [] 0) := Lib.hid
    ⟨⟨by
        have := World.ownsRow_made (w.alloc (.cells #[.int .i64 0, .string ⟨#[]⟩, .int .i64 0, .int .i64 0] 30)) #[] 0 (base := w.heap.size + 1) (e := 5) (size := 1) (by simp) (by decide) rfl
        simpa [bcells] using this, by simp⟩, Nat.zero_le _, Nat.zero_le _, by rw [List.drop_zero]; cases textL l <;> simp, b1.alloc (by simp) _, by simp, hnew.below ((Below.refl _ _).alloc (Nat.le_refl _) _)⟩
  generalize hP : RTok (txtR l) i0 w = P
  have HP := Lib.hid hP
  have HGX := Lib.hid hgx
  have HAT := Lib.hid (fun (k : Nat) (wx : World) => rat_any s (i0 + k) wx)
  have HGET := Lib.hid hget
  clear hP hgx hl hget b1 hnew
  go_enter Tryd.func29, Tryd.ntmps29
  go_wp2_with fail
  go_loopw [1, 7] (fun i v wr => ∃ k acc, i = .int .i64 ((i0 + k : Nat) : Int) ∧ RxS w wr l v acc k) (fun i _ _ => i0 + l.length - (intOf i).toNat)
  case atStart => exact ⟨0, [], rfl, by simpa using HS0.out⟩
  case round =>
    obtain ⟨k, acc, rfl, hs⟩ := hrel
    have HS := Lib.hid hs
    have hkl := hs.kl
    obtain ⟨⟨e0, e1, e2, e3⟩, f0, f1, f4, f3⟩ := hs.bx.cells
    clear hs
    by_cases hk : k < l.length
    · have hix : i0 + k < s.size := by omega
      have hki : decide (((i0 + k : Nat) : Int) < (s.size : Int)) = true := by simp; omega
      have hsx := HGX.out k hix
      have hdk := drop_getD l k hk
      have hc8 : l.getD k 0 < 256 := by have := slx_lt s (i0 + k); rw [HGET.out] at this; exact this
      generalize l.getD k 0 = c at *
      have HDK := Lib.hid hdk
      clear hdk
      by_cases h39 : c = 39
      · subst h39
        have HA1 := Lib.hid (HAT.out (k + 1) wr)
        rw [HGET.out] at HA1
        have hd8 : l.getD (k + 1) 0 < 256 := by have := slx_lt s (i0 + (k + 1)); rw [HGET.out] at this; exact this
        have hd2 := fun h => drop_getD l (k + 1) h
        have hd3 := fun h => getD_out l (k + 1) h
        have w7' : IntKind.i64.wrap ((i0 : Int) + (k : Int) + 1) = (i0 : Int) + (k : Int) + 1 := by rw [IntKind.wrap_i64]; omega
        obtain ⟨d, hdd⟩ : ∃ d, l.getD (k + 1) 0 = d := ⟨_, rfl⟩
        rw [hdd] at HA1 hd8 hd2 hd3
        by_cases hd39 : d = 39
        · subst hd39
          have hk1 : k + 1 < l.length := by
            refine Nat.lt_of_not_le fun h => ?_
            have := hd3 (by omega)
            omega
          have hix1 : i0 + (k + 1) < s.size := by omega
          have hsx1 : (s[i0 + k + 1]'(by omega)).toNat = 39 := HGX.out (k + 1) hix1 |>.trans hdd
          have HDD1 := Lib.hid (hd2 hk1)
          clear hd2 hd3 hdd
          have w8' : IntKind.i64.wrap ((i0 : Int) + (k : Int) + 1 + 1) = (i0 : Int) + (k : Int) + 1 + 1 := by rw [IntKind.wrap_i64]; omega
          go_wp2_with fail
          try go_at_call 25
          refine HA1.out.mono ?_
          rintro e w' ⟨rfl, rfl⟩
          go_wp2_with (first | (at_builtin; refine wp_push rfl _ _ rfl (w.heap.size + 1) u7 acc rfl (HS.out.own.alloc _) ⟨wr.heap.size, 0, none⟩ 1 1 [39] rfl rfl (news1' wr 39 _ (by first | rfl | simp)) (by have := HS.out.al; omega) (by have := HS.out.sz; simp; omega) ?_; intro v2 w2 own2 gr2; have HX2 := Lib.hid (And.intro own2 gr2); clear own2 gr2))
          have hb2 : Below w.heap.size w w2 := (HS.out.bel.alloc (by have := HS.out.sz; omega) _).grown HX2.out.2 (by have := HS.out.sz; simp; omega) (fun g hg => by have := (HS.out.own.lt g hg).1; omega)
          have bx2 := (HS.out.bx.below ((Below.refl _ _).alloc (Nat.le_refl _) (.cells #[.int .u8 (39 : Int)] 5))).grown HX2.out.2 (fun g hg => by have := (HS.out.own.lt g hg).1; omega)
          have hs2 := HX2.out.2.size
          have hs2' : w.heap.size + 1 ≤ w2.heap.size := by have := HS.out.sz; simp at hs2; omega
          go_roundw
          case rel =>
            refine ⟨k + 2, acc ++ [39], by congr 1, HX2.out.1, by omega, by have := HS.out.al; simp; omega, ?_, hb2, hs2', bx2⟩
            rw [HS.out.eq, HDK.out, HDD1.out, textL_two, Option.map_map]
            congr 1
            funext x
            simp only [Function.comp, List.append_assoc, List.cons_append, List.nil_append, Prod.mk.injEq, true_and]
            omega
          case measure => simp [intOf]; omega
        · have qd : ((d : Int) != 39) = true := by rw [bne, beq_eq_false_iff_ne.2 (show (d : Int) ≠ 39 by omega)]; rfl
          have hend : textL (l.drop k) = some ([], 1) := by
            rw [HDK.out]
            refine textL_end fun d' t e => ?_
            by_cases h : k + 1 < l.length
            · rw [hd2 h] at e
              injection e with e1 e2
              omega
            · rw [List.drop_eq_nil_of_le (by omega)] at e
              cases e
          have hP1 := HP.out
          unfold txtR at hP1
          rw [HS.out.eq, hend] at hP1
          have hst := str_own HS.out.own
          obtain ⟨gv, capv, ev, _⟩ := HS.out.own.form
          obtain ⟨n, hn⟩ : ∃ n, acc.length = n := ⟨_, rfl⟩
          rw [hn] at ev
          have hP1 : (if (acc ++ []).length > 200 then RTok (.error 1) i0 w else RTok (.ok (⟨4, acc ++ [], 0, 0⟩, k + 1)) i0 w) = P := by
            rw [← hP1]
            simp only [Option.map_some]
            split <;> rfl
          rw [List.append_nil, hn] at hP1
          have HSB := Lib.hid HS.out.bx
          have HBL := Lib.hid HS.out.bel
          clear hd2 hd3 hdd
          subst ev
          obtain ⟨S, hS⟩ : ∃ S, strB acc = S := ⟨_, rfl⟩
          rw [hS] at hst
          by_cases c200 : n > 200
          · have k200 : decide ((200 : Int) < (n : Int)) = true := by simp; omega
            rw [if_pos c200] at hP1
            have HX : Hid (∀ q : Int, P (.returned (.tuple #[Tkv 0 ⟨#[]⟩ 0 0, .int .i64 q, .int .i64 1])) ((((wr.setCell ⟨w.heap.size, 0, none⟩ (.int .i64 0)).setCell ⟨w.heap.size, 1, none⟩ (.string ⟨#[]⟩)).setCell ⟨w.heap.size, 2, none⟩ (.int .i64 0)).setCell ⟨w.heap.size, 3, none⟩ (.int .i64 0))) := Lib.hid (by
              intro q
              rw [← hP1]
              exact ⟨box4_below HBL.out (Nat.le_refl _) _ _ _ _, q, rfl⟩)
            clear hP1 hS hn hst HS hend
            go_wp2_with fail
            try go_at_call 25
            refine HA1.out.mono ?_
            rintro e w' ⟨rfl, rfl⟩
            go_wp2_with fail
            exact rtok_ret Tryd.results29 (box_four HSB.out _ _ _ _) rfl rfl rfl rfl (HX.out _)
          · have k200 : decide ((200 : Int) < (n : Int)) = false := by simp; omega
            rw [if_neg c200] at hP1
            have HX : Hid (P (.returned (.tuple #[Tkv 4 S 0 0, .int .i64 ((i0 : Int) + (k : Int) + 1), .int .i64 0])) ((((wr.setCell ⟨w.heap.size, 0, none⟩ (.int .i64 4)).setCell ⟨w.heap.size, 1, none⟩ (.string S)).setCell ⟨w.heap.size, 2, none⟩ (.int .i64 0)).setCell ⟨w.heap.size, 3, none⟩ (.int .i64 0))) := Lib.hid (by
              rw [← hP1, ← hS]
              exact ⟨box4_below HBL.out (Nat.le_refl _) _ _ _ _, by congr 1⟩)
            clear hP1 hS hn HS hend
            go_wp2_with fail
            try go_at_call 25
            refine HA1.out.mono ?_
            rintro e w' ⟨rfl, rfl⟩
            go_wp2_with fail
            exact rtok_ret Tryd.results29 (box_four HSB.out _ _ _ _) rfl rfl rfl rfl HX.out
      · have q39 : ((c : Int) == 39) = false := beq_eq_false_iff_ne.2 (by omega)
        have w7' : IntKind.i64.wrap ((i0 : Int) + (k : Int) + 1) = (i0 : Int) + (k : Int) + 1 := by rw [IntKind.wrap_i64]; omega
        go_wp2_with (first | (at_builtin; refine wp_push rfl _ _ rfl (w.heap.size + 1) u7 acc rfl (HS.out.own.alloc _) ⟨wr.heap.size, 0, none⟩ 1 1 [c] rfl rfl (news1' wr c _ (by first | rfl | simp)) (by have := HS.out.al; omega) (by have := HS.out.sz; simp; omega) ?_; intro v2 w2 own2 gr2; have HX2 := Lib.hid (And.intro own2 gr2); clear own2 gr2))
        have hb2 : Below w.heap.size w w2 := (HS.out.bel.alloc (by have := HS.out.sz; omega) _).grown HX2.out.2 (by have := HS.out.sz; simp; omega) (fun g hg => by have := (HS.out.own.lt g hg).1; omega)
        have bx2 := (HS.out.bx.below ((Below.refl _ _).alloc (Nat.le_refl _) (.cells #[.int .u8 (c : Int)] 5))).grown HX2.out.2 (fun g hg => by have := (HS.out.own.lt g hg).1; omega)
        have hs2 := HX2.out.2.size
        have hs2' : w.heap.size + 1 ≤ w2.heap.size := by have := HS.out.sz; simp at hs2; omega
        go_roundw
        case rel =>
          refine ⟨k + 1, acc ++ [c], by congr 1, HX2.out.1, by omega, by have := HS.out.al; simp; omega, ?_, hb2, hs2', bx2⟩
          rw [HS.out.eq, HDK.out, textL_q _ h39, Option.map_map]
          congr 1
          funext x
          simp only [Function.comp, List.append_assoc, List.cons_append, List.nil_append, Prod.mk.injEq, true_and]
          omega
        case measure => simp [intOf]; omega
    · have hki : decide (((i0 + k : Nat) : Int) < (s.size : Int)) = false := by simp; omega
      have hP1 := HP.out
      unfold txtR at hP1
      rw [HS.out.eq, List.drop_eq_nil_of_le (by omega)] at hP1
      have HX : Hid (∀ q : Int, P (.returned (.tuple #[Tkv 0 ⟨#[]⟩ 0 0, .int .i64 q, .int .i64 121])) ((((wr.setCell ⟨w.heap.size, 0, none⟩ (.int .i64 0)).setCell ⟨w.heap.size, 1, none⟩ (.string ⟨#[]⟩)).setCell ⟨w.heap.size, 2, none⟩ (.int .i64 0)).setCell ⟨w.heap.size, 3, none⟩ (.int .i64 0))) := Lib.hid (by
        intro q
        rw [← hP1]
        exact ⟨box4_below HS.out.bel (Nat.le_refl _) _ _ _ _, q, rfl⟩)
      clear hP1
      go_wp2_with fail
      exact rtok_ret Tryd.results29 (box_four HS.out.bx _ _ _ _) rfl rfl rfl rfl (HX.out _)

end Go.Proofs.YthdihflnanmdkaaDoor
