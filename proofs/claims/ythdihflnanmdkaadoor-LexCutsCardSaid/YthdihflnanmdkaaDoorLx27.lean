/-
  The document's token (haspref12): contracts over the translation.
  Conditions: none.
-/
import Derived.Test.YthdihflnanmdkaaDoorLx26
namespace Go.Proofs.YthdihflnanmdkaaDoor
set_option maxRecDepth 100000
open Go.RowKit Go.Joins Go.ChangeShapes Go.WideShapes
set_option linter.unusedVariables false
set_option linter.unusedSimpArgs false

theorem smI_low (c : Nat) : smI c = lowL c := by
  unfold smI lowL cpL
  by_cases h : 65 ≤ c ∧ c ≤ 90
  · rw [if_pos h, if_pos (by simpa using h)]
  · rw [if_neg h, if_neg (by simpa using h)]
/-- how the word's loop stands -/
structure RwS (w wr : World) (l : List Nat) (v : Value) (k : Nat) : Prop where
  own : OwB wr (w.heap.size + 1) v ((l.take k).map lowL)
  kl : k ≤ runL iwL l
  bel : Below w.heap.size w wr
  sz : w.heap.size + 1 ≤ wr.heap.size
  bx : TBox wr w.heap.size 0 0 0 ⟨#[]⟩
set_option maxHeartbeats 4000000 in
theorem rword_any (s : ByteArray) (i0 : Nat) (w : World) (hi : i0 < s.size) (hs : s.size ≤ 4294967296) (hb : bwL ((sl s).getD i0 0) = true) :
    Calls Tryd.prog 14 #[.string s, .int .i64 (i0 : Int)] w (RTok (wrdE ((sl s).drop i0)) i0 w) := by
  have b1 : Below w.heap.size w (w.alloc (.cells #[.int .i64 0, .string ⟨#[]⟩, .int .i64 0, .int .i64 0] 30)) := (Below.refl _ _).alloc (Nat.le_refl _) _
  have hnew : TBox (w.alloc (.cells #[.int .i64 0, .string ⟨#[]⟩, .int .i64 0, .int .i64 0] 30)) w.heap.size 0 0 0 ⟨#[]⟩ := heap_alloc_new w (.cells #[.int .i64 0, .string ⟨#[]⟩, .int .i64 0, .int .i64 0] 30)
  obtain ⟨l, hl⟩ : ∃ l, (sl s).drop i0 = l := ⟨_, rfl⟩
  have hll : l.length + i0 = s.size := by rw [← hl, List.length_drop, sl_length]; omega
  have hget : ∀ k, (sl s).getD (i0 + k) 0 = l.getD k 0 := fun k => by rw [← hl, getD_drop]
  have hgx : ∀ (k : Nat) (h : i0 + k < s.size), (s[i0 + k]'h).toNat = l.getD k 0 := fun k h => by rw [← hget, slx_get s _ h]
  have hqle := runL_le iwL l
  rw [hl]
  have HS0 : Hid (RwS w ((w.alloc (.cells #[.int .i64 0, .string ⟨#[]⟩, .int .i64 0, .int .i64 0] 30)).alloc (.cells #[] 5)) l (.slice (some ⟨w.heap.size + 1, 0, none⟩) 0 0) 0) := Lib.hid
    ⟨⟨by
        have := World.ownsRow_made (w.alloc (.cells #[.int .i64 0, .string ⟨#[]⟩, .int .i64 0, .int .i64 0] 30)) #[] 0 (base := w.heap.size + 1) (e := 5) (size := 1) (by simp) (by decide) rfl
        simpa [bcells] using this, by simp⟩, Nat.zero_le _, b1.alloc (by simp) _, by simp, hnew.below ((Below.refl _ _).alloc (Nat.le_refl _) _)⟩
  have hc0 := hgx 0 hi
  have hc8 : l.getD 0 0 < 256 := by have := slx_lt s (i0 + 0); rw [hget] at this; exact this
  have hb0 : ltL (l.getD 0 0) = true := by rw [ltL_eq, ← hget]; exact hb
  have HL0 := Lib.hid (rletter_any (l.getD 0 0) (w.alloc (.cells #[.int .i64 0, .string ⟨#[]⟩, .int .i64 0, .int .i64 0] 30)) hc8)
  rw [hb0] at HL0
  have hc0 : (s[i0]'hi).toNat = l.getD 0 0 := hc0
  generalize l.getD 0 0 = c0 at *
  generalize hP : RTok (wrdE l) i0 w = P
  have HP := Lib.hid hP
  have HGX := Lib.hid hgx
  have HAT := Lib.hid (fun (k : Nat) (wx : World) => rat_any s (i0 + k) wx)
  have HGET := Lib.hid hget
  have HRA := Lib.hid (runL_at (f := iwL) (by rfl) l)
  have hwq : wrdE l = if runL iwL l > 32 then .error 122 else .ok (⟨1, (l.take (runL iwL l)).map lowL, 0, 0⟩, runL iwL l) := rfl
  clear hP hgx hl hget b1 hnew hb hb0
  generalize hq : runL iwL l = q at *
  have HQ := Lib.hid hq
  clear hq
  have HWQ := Lib.hid hwq
  clear hwq
  go_enter Tryd.func14, Tryd.ntmps14
  go_wp2_with fail
  try go_at_call 24
  refine HL0.out.mono ?_
  rintro e w' ⟨rfl, rfl⟩
  go_wp2_with fail
  go_loopw [1, 8] (fun i v wr => ∃ k, i = .int .i64 ((i0 + k : Nat) : Int) ∧ RwS w wr l v k) (fun i _ _ => i0 + l.length - (intOf i).toNat)
  case atStart => exact ⟨0, rfl, by simpa using HS0.out⟩
  case round =>
    obtain ⟨k, rfl, hs⟩ := hrel
    have HS := Lib.hid hs
    have hkl : k ≤ q := by have := hs.kl; rw [HQ.out] at this; exact this
    obtain ⟨⟨e0, e1, e2, e3⟩, f0, f1, f4, f3⟩ := hs.bx.cells
    have hra := HRA.out k hkl
    clear hs
    have HA := Lib.hid (HAT.out k wr)
    rw [HGET.out] at HA
    have hgx := HGX.out k
    have hc8 : l.getD k 0 < 256 := by have := slx_lt s (i0 + k); rw [HGET.out] at this; exact this
    have hsn := take_snoc l k
    generalize l.getD k 0 = c at *
    have HL := Lib.hid (rletter_any c wr hc8)
    have HD := Lib.hid (rdigit_any c wr hc8)
    have HM := Lib.hid (rsmall_any c hc8 wr)
    rw [ltL_eq] at HL
    rw [smI_low] at HM
    have hlow := low_lt hc8
    have hlow2 : lowL c = lowL c := rfl
    generalize hlc : lowL c = lc at *
    cases hv : iwL c with
    | true =>
      have hkq := hra.1 hv
      have hix : i0 + k < s.size := by omega
      have hsx := hgx hix
      have HSN := Lib.hid (hsn (by omega))
      have w7' : IntKind.i64.wrap ((i0 : Int) + (k : Int) + 1) = (i0 : Int) + (k : Int) + 1 := by rw [IntKind.wrap_i64]; omega
      have hll2 : ((l.take k).map lowL).length = k := by rw [List.length_map, List.length_take]; omega
      have HLC := Lib.hid hlc
      clear hra hgx hsn hlow2 hlc
      have hbd : bwL c = true ∨ (bwL c = false ∧ dgL c = true) := by
        unfold iwL at hv
        cases hbc : bwL c with
        | true => exact .inl rfl
        | false => rw [hbc] at hv; exact .inr ⟨rfl, hv⟩
      rcases hbd with h1 | ⟨h1, h2⟩
      · rw [h1] at HL
        go_wp2_with (first | (go_at_call 25; refine HA.out.mono ?_; rintro e w' ⟨rfl, rfl⟩) | (go_at_call 24; refine HL.out.mono ?_; rintro e w' ⟨rfl, rfl⟩) | (go_at_call 26; refine HD.out.mono ?_; rintro e w' ⟨rfl, rfl⟩) | (go_at_call 27; refine HM.out.mono ?_; rintro e w' ⟨rfl, rfl⟩) | (at_builtin; refine wp_push rfl _ _ rfl (w.heap.size + 1) u8 ((l.take k).map lowL) rfl (HS.out.own.alloc _) ⟨wr.heap.size, 0, none⟩ 1 1 [lc] rfl rfl (news1' wr lc _ (by first | rfl | simp)) (by rw [hll2]; omega) (by have := HS.out.sz; simp; omega) ?_; intro v2 w2 own2 gr2; have HX2 := Lib.hid (And.intro own2 gr2); clear own2 gr2))
        have hb2 : Below w.heap.size w w2 := (HS.out.bel.alloc (by have := HS.out.sz; omega) _).grown HX2.out.2 (by have := HS.out.sz; simp; omega) (fun g hg => by have := (HS.out.own.lt g hg).1; omega)
        have bx2 := (HS.out.bx.below ((Below.refl _ _).alloc (Nat.le_refl _) (.cells #[.int .u8 (lc : Int)] 5))).grown HX2.out.2 (fun g hg => by have := (HS.out.own.lt g hg).1; omega)
        have hs2 := HX2.out.2.size
        have hs2' : w.heap.size + 1 ≤ w2.heap.size := by have := HS.out.sz; simp at hs2; omega
        refine ⟨⟨k + 1, by congr 1, ⟨?_, by rw [HQ.out]; exact hkq, hb2, hs2', bx2⟩⟩, by simp [intOf]; omega⟩
        rw [HSN.out, List.map_append]
        have := HX2.out.1
        rw [← HLC.out] at this
        exact this
      · rw [h1] at HL
        rw [h2] at HD
        go_wp2_with (first | (go_at_call 25; refine HA.out.mono ?_; rintro e w' ⟨rfl, rfl⟩) | (go_at_call 24; refine HL.out.mono ?_; rintro e w' ⟨rfl, rfl⟩) | (go_at_call 26; refine HD.out.mono ?_; rintro e w' ⟨rfl, rfl⟩) | (go_at_call 27; refine HM.out.mono ?_; rintro e w' ⟨rfl, rfl⟩) | (at_builtin; refine wp_push rfl _ _ rfl (w.heap.size + 1) u8 ((l.take k).map lowL) rfl (HS.out.own.alloc _) ⟨wr.heap.size, 0, none⟩ 1 1 [lc] rfl rfl (news1' wr lc _ (by first | rfl | simp)) (by rw [hll2]; omega) (by have := HS.out.sz; simp; omega) ?_; intro v2 w2 own2 gr2; have HX2 := Lib.hid (And.intro own2 gr2); clear own2 gr2))
        have hb2 : Below w.heap.size w w2 := (HS.out.bel.alloc (by have := HS.out.sz; omega) _).grown HX2.out.2 (by have := HS.out.sz; simp; omega) (fun g hg => by have := (HS.out.own.lt g hg).1; omega)
        have bx2 := (HS.out.bx.below ((Below.refl _ _).alloc (Nat.le_refl _) (.cells #[.int .u8 (lc : Int)] 5))).grown HX2.out.2 (fun g hg => by have := (HS.out.own.lt g hg).1; omega)
        have hs2 := HX2.out.2.size
        have hs2' : w.heap.size + 1 ≤ w2.heap.size := by have := HS.out.sz; simp at hs2; omega
        refine ⟨⟨k + 1, by congr 1, ⟨?_, by rw [HQ.out]; exact hkq, hb2, hs2', bx2⟩⟩, by simp [intOf]; omega⟩
        rw [HSN.out, List.map_append]
        have := HX2.out.1
        rw [← HLC.out] at this
        exact this
    | false =>
      have hkq := hra.2 hv
      have hbd : bwL c = false ∧ dgL c = false := by
        unfold iwL at hv
        cases hbc : bwL c with
        | true => rw [hbc] at hv; cases hv
        | false => rw [hbc] at hv; exact ⟨rfl, hv⟩
      rw [hbd.1] at HL
      rw [hbd.2] at HD
      subst hkq
      have hll2 : ((l.take k).map lowL).length = k := by rw [List.length_map, List.length_take]; omega
      have hst := str_own HS.out.own
      obtain ⟨gv, capv, ev, _⟩ := HS.out.own.form
      rw [hll2] at ev
      subst ev
      have hP1 := HP.out
      rw [HWQ.out] at hP1
      have HSB := Lib.hid HS.out.bx
      have HBL := Lib.hid HS.out.bel
      obtain ⟨S, hS⟩ : ∃ S, strB ((l.take k).map lowL) = S := ⟨_, rfl⟩
      rw [hS] at hst
      clear hra hgx hsn HM hlow2 hbd
      by_cases c32 : k > 32
      · have k32 : decide ((32 : Int) < (k : Int)) = true := by simp; omega
        rw [if_pos c32] at hP1
        have HX : Hid (∀ q : Int, P (.returned (.tuple #[Tkv 0 ⟨#[]⟩ 0 0, .int .i64 q, .int .i64 122])) ((((wr.setCell ⟨w.heap.size, 0, none⟩ (.int .i64 0)).setCell ⟨w.heap.size, 1, none⟩ (.string ⟨#[]⟩)).setCell ⟨w.heap.size, 2, none⟩ (.int .i64 0)).setCell ⟨w.heap.size, 3, none⟩ (.int .i64 0))) := Lib.hid (by
          intro q
          rw [← hP1]
          exact ⟨box4_below HBL.out (Nat.le_refl _) _ _ _ _, q, rfl⟩)
        clear hP1 hS hst HS hll2
        go_wp2_with (first | (go_at_call 25; refine HA.out.mono ?_; rintro e w' ⟨rfl, rfl⟩) | (go_at_call 24; refine HL.out.mono ?_; rintro e w' ⟨rfl, rfl⟩) | (go_at_call 26; refine HD.out.mono ?_; rintro e w' ⟨rfl, rfl⟩))
        exact rtok_ret Tryd.results14 (box_four HSB.out _ _ _ _) rfl rfl rfl rfl (HX.out _)
      · have k32 : decide ((32 : Int) < (k : Int)) = false := by simp; omega
        rw [if_neg c32] at hP1
        have HX : Hid (P (.returned (.tuple #[Tkv 1 S 0 0, .int .i64 ((i0 : Int) + (k : Int)), .int .i64 0])) ((((wr.setCell ⟨w.heap.size, 0, none⟩ (.int .i64 1)).setCell ⟨w.heap.size, 1, none⟩ (.string S)).setCell ⟨w.heap.size, 2, none⟩ (.int .i64 0)).setCell ⟨w.heap.size, 3, none⟩ (.int .i64 0))) := Lib.hid (by
          rw [← hP1, ← hS]
          exact ⟨box4_below HBL.out (Nat.le_refl _) _ _ _ _, by congr 1⟩)
        clear hP1 hS HS hll2
        go_wp2_with (first | (go_at_call 25; refine HA.out.mono ?_; rintro e w' ⟨rfl, rfl⟩) | (go_at_call 24; refine HL.out.mono ?_; rintro e w' ⟨rfl, rfl⟩) | (go_at_call 26; refine HD.out.mono ?_; rintro e w' ⟨rfl, rfl⟩))
        exact rtok_ret Tryd.results14 (box_four HSB.out _ _ _ _) rfl rfl rfl rfl HX.out

end Go.Proofs.YthdihflnanmdkaaDoor
