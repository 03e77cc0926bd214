/-
  The document's token (haspref12), all sorts: contracts over the translation.
  Conditions: none.
-/
import Derived.Test.YthdihflnanmdkaaDoorLx27
namespace Go.Proofs.YthdihflnanmdkaaDoor
set_option maxRecDepth 100000
open Go.RowKit Go.Joins Go.ChangeShapes Go.WideShapes
set_option linter.unusedVariables false
set_option linter.unusedSimpArgs false

theorem RTok.open {x : Except Nat (Tk × Nat)} {i : Nat} {w w1 w2 : World} {e : Ending} (h : RTok x i w1 e w2) (hb : Below w.heap.size w w1) (hs : w.heap.size ≤ w1.heap.size) :
    ∃ k s n sc j er, e = .returned (.tuple #[Tkv k s n sc, .int .i64 j, .int .i64 er]) ∧ Below w1.heap.size w1 w2 ∧
      RTok x i w (.returned (.tuple #[Tkv k s n sc, .int .i64 j, .int .i64 er])) ((((w2.setCell ⟨w.heap.size, 0, none⟩ (.int .i64 k)).setCell ⟨w.heap.size, 1, none⟩ (.string s)).setCell ⟨w.heap.size, 2, none⟩ (.int .i64 n)).setCell ⟨w.heap.size, 3, none⟩ (.int .i64 sc)) := by
  obtain ⟨b, h⟩ := h
  have b2 := hb.trans (b.mono hs)
  cases x with
  | error er =>
    obtain ⟨j, rfl⟩ := h
    exact ⟨_, _, _, _, _, _, rfl, b, box4_below b2 (Nat.le_refl _) _ _ _ _, j, rfl⟩
  | ok y =>
    obtain ⟨t, k⟩ := y
    have h : e = _ := h
    subst h
    exact ⟨_, _, _, _, _, _, rfl, b, box4_below b2 (Nat.le_refl _) _ _ _ _, rfl⟩
theorem rtok_txt {r : List Nat} {i : Nat} {w : World} {e : Ending} {w' : World} (h : RTok (txtR r) (i + 1) w e w') : RTok (txtE r) i w e w' := by
  unfold txtR at h
  unfold txtE
  cases ht : textL r with
  | none => rw [ht] at h; exact h
  | some x =>
    rw [ht] at h
    simp only at h ⊢
    by_cases c : x.1.length > 200
    · rw [if_pos c] at h ⊢; exact h
    · rw [if_neg c] at h ⊢
      obtain ⟨h1, h2⟩ := h
      refine ⟨h1, ?_⟩
      have h2 : e = .returned (.tuple #[Tkv 4 (strB x.1) 0 0, .int .i64 ((i + 1 + x.2 : Nat) : Int), .int .i64 0]) := h2
      rw [h2, show i + 1 + x.2 = i + (x.2 + 1) by omega]
      rfl
set_option maxHeartbeats 4000000 in
theorem rnum_any (s : ByteArray) (i0 : Nat) (w : World) (hi : i0 < s.size) (hs : s.size ≤ 4294967296) (hb : bwL ((sl s).getD i0 0) = false) (hd : dgL ((sl s).getD i0 0) = true) :
    Calls Tryd.prog 14 #[.string s, .int .i64 (i0 : Int)] w (RTok (numE ((sl s).drop i0)) i0 w) := by
  have b1 : Below w.heap.size w (w.alloc (.cells #[.int .i64 0, .string ⟨#[]⟩, .int .i64 0, .int .i64 0] 30)) := (Below.refl _ _).alloc (Nat.le_refl _) _
  have hnew : TBox (w.alloc (.cells #[.int .i64 0, .string ⟨#[]⟩, .int .i64 0, .int .i64 0] 30)) w.heap.size 0 0 0 ⟨#[]⟩ := heap_alloc_new w (.cells #[.int .i64 0, .string ⟨#[]⟩, .int .i64 0, .int .i64 0] 30)
  have hsz : w.heap.size ≤ (w.alloc (.cells #[.int .i64 0, .string ⟨#[]⟩, .int .i64 0, .int .i64 0] 30)).heap.size := by simp
  have hc0 := (slx_get s i0 hi).symm
  have hc8 := slx_lt s i0
  have HC := Lib.hid (rnumber_any s i0 (w.alloc (.cells #[.int .i64 0, .string ⟨#[]⟩, .int .i64 0, .int .i64 0] 30)) hi hs hd)
  have HL0 := Lib.hid (rletter_any ((sl s).getD i0 0) (w.alloc (.cells #[.int .i64 0, .string ⟨#[]⟩, .int .i64 0, .int .i64 0] 30)) hc8)
  have HD0 := Lib.hid (rdigit_any ((sl s).getD i0 0) (w.alloc (.cells #[.int .i64 0, .string ⟨#[]⟩, .int .i64 0, .int .i64 0] 30)) hc8)
  rw [ltL_eq, hb] at HL0
  rw [hd] at HD0
  generalize (sl s).getD i0 0 = c0 at *
  have HB := Lib.hid (And.intro b1 (And.intro hnew hsz))
  generalize numE ((sl s).drop i0) = X at *
  generalize hP : RTok X i0 w = P
  have HP := Lib.hid hP
  clear hP b1 hnew hsz hb hd
  go_enter Tryd.func14, Tryd.ntmps14
  go_wp2_with (first | (go_at_call 24; refine HL0.out.mono ?_; rintro e w' ⟨rfl, rfl⟩) | (go_at_call 26; refine HD0.out.mono ?_; rintro e w' ⟨rfl, rfl⟩))
  try go_at_call 28
  refine HC.out.mono ?_
  rintro e w2 ht
  obtain ⟨k, st, n, sc, j, er, rfl, b2, hx⟩ := ht.open HB.out.1 HB.out.2.2
  rw [HP.out] at hx
  have HX := Lib.hid hx
  have hbx := HB.out.2.1.below b2
  obtain ⟨⟨e0, e1, e2, e3⟩, f0, f1, f4, f3⟩ := hbx.cells
  have HBX := Lib.hid hbx
  clear hx ht b2 hbx
  unfold Tkv at *
  go_wp2_with fail
  exact rtok_ret Tryd.results14 (box_four HBX.out _ _ _ _) rfl rfl rfl rfl HX.out
set_option maxHeartbeats 4000000 in
theorem rtxt_any (s : ByteArray) (i0 : Nat) (w : World) (hi : i0 < s.size) (hs : s.size ≤ 4294967296) (h39 : (sl s).getD i0 0 = 39) :
    Calls Tryd.prog 14 #[.string s, .int .i64 (i0 : Int)] w (RTok (txtE ((sl s).drop (i0 + 1))) i0 w) := by
  have b1 : Below w.heap.size w (w.alloc (.cells #[.int .i64 0, .string ⟨#[]⟩, .int .i64 0, .int .i64 0] 30)) := (Below.refl _ _).alloc (Nat.le_refl _) _
  have hnew : TBox (w.alloc (.cells #[.int .i64 0, .string ⟨#[]⟩, .int .i64 0, .int .i64 0] 30)) w.heap.size 0 0 0 ⟨#[]⟩ := heap_alloc_new w (.cells #[.int .i64 0, .string ⟨#[]⟩, .int .i64 0, .int .i64 0] 30)
  have hsz : w.heap.size ≤ (w.alloc (.cells #[.int .i64 0, .string ⟨#[]⟩, .int .i64 0, .int .i64 0] 30)).heap.size := by simp
  have hc0 : (s[i0]'hi).toNat = 39 := by rw [← slx_get s i0 hi]; exact h39
  have HC := Lib.hid (rtext_any s (i0 + 1) (w.alloc (.cells #[.int .i64 0, .string ⟨#[]⟩, .int .i64 0, .int .i64 0] 30)) (by omega) hs)
  have HL0 := Lib.hid (rletter_any 39 (w.alloc (.cells #[.int .i64 0, .string ⟨#[]⟩, .int .i64 0, .int .i64 0] 30)) (by decide))
  have HD0 := Lib.hid (rdigit_any 39 (w.alloc (.cells #[.int .i64 0, .string ⟨#[]⟩, .int .i64 0, .int .i64 0] 30)) (by decide))
  have HB := Lib.hid (And.intro b1 (And.intro hnew hsz))
  have w7' : IntKind.i64.wrap ((i0 : Int) + 1) = (i0 : Int) + 1 := by rw [IntKind.wrap_i64]; omega
  generalize (sl s).drop (i0 + 1) = L at *
  generalize hP : RTok (txtE L) i0 w = P
  have HP := Lib.hid hP
  clear hP b1 hnew hsz h39
  go_enter Tryd.func14, Tryd.ntmps14
  go_wp2_with (first | (go_at_call 24; refine HL0.out.mono ?_; rintro e w' ⟨rfl, rfl⟩) | (go_at_call 26; refine HD0.out.mono ?_; rintro e w' ⟨rfl, rfl⟩))
  try go_at_call 29
  refine HC.out.mono ?_
  rintro e w2 ht
  obtain ⟨k, st, n, sc, j, er, rfl, b2, hx⟩ := ht.open HB.out.1 HB.out.2.2
  have hx := rtok_txt hx
  rw [HP.out] at hx
  have HX := Lib.hid hx
  have hbx := HB.out.2.1.below b2
  obtain ⟨⟨e0, e1, e2, e3⟩, f0, f1, f4, f3⟩ := hbx.cells
  have HBX := Lib.hid hbx
  clear hx ht b2 hbx
  unfold Tkv at *
  go_wp2_with fail
  exact rtok_ret Tryd.results14 (box_four HBX.out _ _ _ _) rfl rfl rfl rfl HX.out

def sgnC : List Nat := [40, 41, 44, 46, 42, 43, 45, 47, 37, 61, 60, 62]
theorem sgn_yes : ∀ k, k < 12 → [40, 41, 44, 46, 42, 43, 45, 47, 37, 61, 60, 62].contains (sgnC.getD k 0) = true := by decide
theorem sgn_no (c : Nat) (h : ∀ j, j < 12 → sgnC.getD j 0 ≠ c) : [40, 41, 44, 46, 42, 43, 45, 47, 37, 61, 60, 62].contains c = false := by
  cases hc : [40, 41, 44, 46, 42, 43, 45, 47, 37, 61, 60, 62].contains c with
  | false => rfl
  | true =>
    have hm : c ∈ sgnC := List.contains_iff_mem.1 hc
    obtain ⟨i, hi⟩ := List.getElem?_of_mem hm
    have hlt : i < sgnC.length := (List.getElem?_eq_some_iff.1 hi).1
    exact absurd (by rw [List.getD_eq_getElem?_getD, hi]; rfl) (h i hlt)
theorem ext_strB (s : ByteArray) (i n : Nat) (h : i + n ≤ s.size) : s.extract i (i + n) = strB (((sl s).drop i).take n) := by
  have h1 : (s.extract i (i + n)).data.toList = (strB (((sl s).drop i).take n)).data.toList := by
    rw [strB_data]
    unfold sl
    rw [ByteArray.data_extract, Array.toList_extract, List.extract_eq_take_drop, ← List.map_drop, ← List.map_take, List.map_map]
    rw [show i + n - i = n by omega]
    conv => lhs; rw [← List.map_id (List.take n (List.drop i s.data.toList))]
    exact List.map_congr_left fun x _ => by simp
  have h2 := Array.toList_inj.1 h1
  cases hs : strB (((sl s).drop i).take n) with
  | mk d =>
    rw [hs] at h2
    cases hx : s.extract i (i + n) with
    | mk e => rw [hx] at h2; simp at h2; rw [h2]
theorem slice_str (s : ByteArray) (i n : Nat) (h : i + n ≤ s.size) (hi lo : Int) (hl : lo = (i : Int)) (hh : hi = (i : Int) + (n : Int)) (w : World) :
    (Instr.slice 9 (.string s) (some (.int .i64 lo)) (some (.int .i64 hi)) none).run Tryd.prog w = .ok (.string (strB (((sl s).drop i).take n))) w := by
  subst hl hh
  rw [run_slice_string (P := Tryd.prog) (w := w) 9 s .i64 .i64 _ _ Tryd.underlying9 (by omega) (by omega) (by omega), ← ext_strB s i n h]
  congr 3
theorem sgn_at : ∀ k, (h : k < 12) → ((⟨#[40, 41, 44, 46, 42, 43, 45, 47, 37, 61, 60, 62]⟩ : ByteArray)[k]'h).toNat = sgnC.getD k 0 := by decide
set_option maxHeartbeats 4000000 in
theorem rsgn_any (s : ByteArray) (i0 : Nat) (w : World) (hi : i0 < s.size) (hs : s.size ≤ 4294967296) (hb : bwL ((sl s).getD i0 0) = false) (hd : dgL ((sl s).getD i0 0) = false) (h39 : ¬ (sl s).getD i0 0 = 39) :
    Calls Tryd.prog 14 #[.string s, .int .i64 (i0 : Int)] w (RTok (sgnE ((sl s).drop i0)) i0 w) := by
  have b1 : Below w.heap.size w (w.alloc (.cells #[.int .i64 0, .string ⟨#[]⟩, .int .i64 0, .int .i64 0] 30)) := (Below.refl _ _).alloc (Nat.le_refl _) _
  have hnew : TBox (w.alloc (.cells #[.int .i64 0, .string ⟨#[]⟩, .int .i64 0, .int .i64 0] 30)) w.heap.size 0 0 0 ⟨#[]⟩ := heap_alloc_new w (.cells #[.int .i64 0, .string ⟨#[]⟩, .int .i64 0, .int .i64 0] 30)
  have hc0 := (slx_get s i0 hi).symm
  have hc8 := slx_lt s i0
  have HL0 := Lib.hid (rletter_any ((sl s).getD i0 0) (w.alloc (.cells #[.int .i64 0, .string ⟨#[]⟩, .int .i64 0, .int .i64 0] 30)) hc8)
  have HD0 := Lib.hid (rdigit_any ((sl s).getD i0 0) (w.alloc (.cells #[.int .i64 0, .string ⟨#[]⟩, .int .i64 0, .int .i64 0] 30)) hc8)
  have HA0 := Lib.hid (rat_any s (i0 + 1) (w.alloc (.cells #[.int .i64 0, .string ⟨#[]⟩, .int .i64 0, .int .i64 0] 30)))
  rw [ltL_eq, hb] at HL0
  rw [hd] at HD0
  have HDR := Lib.hid (drop_getD (sl s) i0 (by rw [sl_length]; exact hi))
  have HDR1 := Lib.hid (drop_getD (sl s) (i0 + 1))
  have HDO := Lib.hid (getD_out (sl s) (i0 + 1))
  have hd8 := slx_lt s (i0 + 1)
  obtain ⟨⟨e0, e1, e2, e3⟩, f0, f1, f4, f3⟩ := hnew.cells
  have HB := Lib.hid (And.intro b1 hnew)
  generalize hc : (sl s).getD i0 0 = c at *
  generalize hdd : (sl s).getD (i0 + 1) 0 = d at *
  have w7' : IntKind.i64.wrap ((i0 : Int) + 1) = (i0 : Int) + 1 := by rw [IntKind.wrap_i64]; omega
  have w8' : IntKind.i64.wrap ((i0 : Int) + 2) = (i0 : Int) + 2 := by rw [IntKind.wrap_i64]; omega
  generalize hP : RTok (sgnE ((sl s).drop i0)) i0 w = P
  have HP := Lib.hid hP
  have q39 : ((c : Int) == 39) = false := beq_eq_false_iff_ne.2 (by omega)
  clear hP b1 hnew hb hd hc hdd h39
  have h8 : (c = 60 ∧ d = 62 ∨ c = 60 ∧ d = 61 ∨ c = 62 ∧ d = 61 ∨ c = 124 ∧ d = 124) ∨ ¬ (c = 60 ∧ d = 62 ∨ c = 60 ∧ d = 61 ∨ c = 62 ∧ d = 61 ∨ c = 124 ∧ d = 124) := Classical.em _
  go_enter Tryd.func14, Tryd.ntmps14
  go_wp2_with (first | (go_at_call 24; refine HL0.out.mono ?_; rintro e w' ⟨rfl, rfl⟩) | (go_at_call 26; refine HD0.out.mono ?_; rintro e w' ⟨rfl, rfl⟩))
  try go_at_call 25
  refine HA0.out.mono ?_
  rintro e w' ⟨rfl, rfl⟩
  generalize w.alloc (.cells #[.int .i64 0, .string ⟨#[]⟩, .int .i64 0, .int .i64 0] 30) = w1 at *
  clear HL0 HD0 HA0
  have bB := HB.out.2
  have HZ := Lib.hid (box4_below (B := w.heap.size) HB.out.1 (Nat.le_refl _))
  rcases h8 with h8 | h8
  · have hlt : i0 + 1 < (sl s).length := by
      refine Nat.lt_of_not_le fun hle => ?_
      have := HDO.out (by omega)
      omega
    have hdr : (sl s).drop i0 = c :: d :: (sl s).drop (i0 + 2) := by rw [HDR.out, HDR1.out hlt]
    have h2 : i0 + 2 ≤ s.size := by rw [sl_length] at hlt; omega
    have hsl := slice_str s i0 2 h2 ((i0 : Int) + 2) i0 rfl rfl w1
    have hsg : signL ((sl s).drop i0) = 2 := by
      rw [hdr]
      rcases h8 with ⟨rfl, rfl⟩ | ⟨rfl, rfl⟩ | ⟨rfl, rfl⟩ | ⟨rfl, rfl⟩ <;> rfl
    have hP1 := HP.out
    unfold sgnE at hP1
    rw [hsg, if_neg (by decide)] at hP1
    obtain ⟨S, hS⟩ : ∃ S, strB (((sl s).drop i0).take 2) = S := ⟨_, rfl⟩
    rw [hS] at hsl
    have HX : Hid (P (.returned (.tuple #[Tkv 5 S 0 0, .int .i64 ((i0 : Int) + 2), .int .i64 0])) ((((w1.setCell ⟨w.heap.size, 0, none⟩ (.int .i64 5)).setCell ⟨w.heap.size, 1, none⟩ (.string S)).setCell ⟨w.heap.size, 2, none⟩ (.int .i64 0)).setCell ⟨w.heap.size, 3, none⟩ (.int .i64 0))) := Lib.hid (by
      rw [← hP1, ← hS]
      exact ⟨HZ.out _ _ _ _, by congr 1⟩)
    clear hP1 hS hsg hdr
    rcases h8 with ⟨rfl, rfl⟩ | ⟨rfl, rfl⟩ | ⟨rfl, rfl⟩ | ⟨rfl, rfl⟩
    all_goals
      go_wp2_with fail
      exact rtok_ret Tryd.results14 (box_four bB _ _ _ _) rfl rfl rfl rfl HX.out
  · have hsg : signL ((sl s).drop i0) = if [40, 41, 44, 46, 42, 43, 45, 47, 37, 61, 60, 62].contains c then 1 else 0 := by
      rw [HDR.out]
      by_cases hlt : i0 + 1 < (sl s).length
      · rw [HDR1.out hlt]
        show (if ((c == 60 && d == 62) || (c == 60 && d == 61) || (c == 62 && d == 61) || (c == 124 && d == 124)) = true then 2 else _) = _
        rw [if_neg]
        simp only [Bool.or_eq_true, Bool.and_eq_true, beq_iff_eq]
        omega
      · rw [List.drop_eq_nil_of_le (by omega)]
        rfl
    have hsl := slice_str s i0 1 (by omega) ((i0 : Int) + 1) i0 rfl rfl w1
    have hP1 := HP.out
    unfold sgnE at hP1
    rw [hsg] at hP1
    obtain ⟨S, hS⟩ : ∃ S, strB (((sl s).drop i0).take 1) = S := ⟨_, rfl⟩
    rw [hS] at hsl
    have HX1 : Hid ([40, 41, 44, 46, 42, 43, 45, 47, 37, 61, 60, 62].contains c = true → P (.returned (.tuple #[Tkv 5 S 0 0, .int .i64 ((i0 : Int) + 1), .int .i64 0])) ((((w1.setCell ⟨w.heap.size, 0, none⟩ (.int .i64 5)).setCell ⟨w.heap.size, 1, none⟩ (.string S)).setCell ⟨w.heap.size, 2, none⟩ (.int .i64 0)).setCell ⟨w.heap.size, 3, none⟩ (.int .i64 0))) := Lib.hid (by
      intro h
      rw [h, if_pos rfl, if_neg (by decide)] at hP1
      rw [← hP1, ← hS]
      exact ⟨HZ.out _ _ _ _, by congr 1⟩)
    have HX0 : Hid ([40, 41, 44, 46, 42, 43, 45, 47, 37, 61, 60, 62].contains c = false → ∀ q : Int, P (.returned (.tuple #[Tkv 0 ⟨#[]⟩ 0 0, .int .i64 q, .int .i64 120])) ((((w1.setCell ⟨w.heap.size, 0, none⟩ (.int .i64 0)).setCell ⟨w.heap.size, 1, none⟩ (.string ⟨#[]⟩)).setCell ⟨w.heap.size, 2, none⟩ (.int .i64 0)).setCell ⟨w.heap.size, 3, none⟩ (.int .i64 0))) := Lib.hid (by
      intro h q
      rw [h, if_pos (by decide)] at hP1
      rw [← hP1]
      exact ⟨HZ.out _ _ _ _, q, rfl⟩)
    clear hP1 hS hsg
    have hj : (c = 60 ∧ ((d : Int) == 62) = false ∧ ((d : Int) == 61) = false) ∨ (c = 62 ∧ ((d : Int) == 61) = false) ∨ (c = 124 ∧ ((d : Int) == 124) = false) ∨ (((c : Int) == 60) = false ∧ ((c : Int) == 62) = false ∧ ((c : Int) == 124) = false) := by
      by_cases a : c = 60
      · exact .inl ⟨a, beq_eq_false_iff_ne.2 (by omega), beq_eq_false_iff_ne.2 (by omega)⟩
      · by_cases b : c = 62
        · exact .inr (.inl ⟨b, beq_eq_false_iff_ne.2 (by omega)⟩)
        · by_cases e : c = 124
          · exact .inr (.inr (.inl ⟨e, beq_eq_false_iff_ne.2 (by omega)⟩))
          · exact .inr (.inr (.inr ⟨beq_eq_false_iff_ne.2 (by omega), beq_eq_false_iff_ne.2 (by omega), beq_eq_false_iff_ne.2 (by omega)⟩))
    clear h8 HDR HDR1 HDO
    rcases hj with ⟨rfl, j1, j2⟩ | ⟨rfl, j1⟩ | ⟨rfl, j1⟩ | ⟨j1, j2, j3⟩
    · go_wp2_with fail
      go_loopw [11] (fun i wr => ∃ k : Nat, k ≤ 12 ∧ i = .int .i64 (k : Int) ∧ Hid (∀ j, j < k → sgnC.getD j 0 ≠ 60) ∧ w1 = wr) (fun i _ => 12 - (intOf i).toNat)
      case atStart => exact ⟨0, by omega, rfl, Lib.hid (fun j h => absurd h (by omega)), by trivial⟩
      case round =>
        obtain ⟨k, hk, rfl, HJ, rfl⟩ := hrel
        by_cases hk12 : k < 12
        · have hsx := sgn_at k hk12
          have hk2 : (k : Int) < 12 := by omega
          have hy := sgn_yes k hk12
          generalize hx : sgnC.getD k 0 = x at *
          have HY := Lib.hid (And.intro hy hx)
          clear hy hx
          have w5' : IntKind.i64.wrap ((k : Int) + 1) = (k : Int) + 1 := by rw [IntKind.wrap_i64]; omega
          by_cases hxc : x = 60
          · have he : ((x : Int) == (60 : Int)) = true := by rw [hxc]; exact beq_self_eq_true _
            go_wp2_with fail
            all_goals first
              | (exfalso; omega)
              | exact rtok_ret Tryd.results14 (box_four bB _ _ _ _) rfl rfl rfl rfl (HX1.out (by have := HY.out.1; rw [hxc] at this; exact this))
          · have he : ((x : Int) == (60 : Int)) = false := beq_eq_false_iff_ne.2 (by omega)
            go_wp2_with fail
            all_goals first
              | (exfalso; omega)
              | (refine ⟨⟨k + 1, by omega, by congr 1, Lib.hid (fun j h => ?_), by trivial⟩, by simp [intOf]; omega⟩
                 by_cases hjk : j < k
                 · exact HJ.out j hjk
                 · obtain rfl : j = k := by omega
                   rw [HY.out.2]
                   exact hxc)
        · obtain rfl : k = 12 := by omega
          have hno := sgn_no 60 HJ.out
          have HXX := Lib.hid (HX0.out hno)
          clear hno
          go_wp2_with fail
          exact rtok_ret Tryd.results14 (box_four bB _ _ _ _) rfl rfl rfl rfl (HXX.out _)
    · go_wp2_with fail
      go_loopw [11] (fun i wr => ∃ k : Nat, k ≤ 12 ∧ i = .int .i64 (k : Int) ∧ Hid (∀ j, j < k → sgnC.getD j 0 ≠ 62) ∧ w1 = wr) (fun i _ => 12 - (intOf i).toNat)
      case atStart => exact ⟨0, by omega, rfl, Lib.hid (fun j h => absurd h (by omega)), by trivial⟩
      case round =>
        obtain ⟨k, hk, rfl, HJ, rfl⟩ := hrel
        by_cases hk12 : k < 12
        · have hsx := sgn_at k hk12
          have hk2 : (k : Int) < 12 := by omega
          have hy := sgn_yes k hk12
          generalize hx : sgnC.getD k 0 = x at *
          have HY := Lib.hid (And.intro hy hx)
          clear hy hx
          have w5' : IntKind.i64.wrap ((k : Int) + 1) = (k : Int) + 1 := by rw [IntKind.wrap_i64]; omega
          by_cases hxc : x = 62
          · have he : ((x : Int) == (62 : Int)) = true := by rw [hxc]; exact beq_self_eq_true _
            go_wp2_with fail
            all_goals first
              | (exfalso; omega)
              | exact rtok_ret Tryd.results14 (box_four bB _ _ _ _) rfl rfl rfl rfl (HX1.out (by have := HY.out.1; rw [hxc] at this; exact this))
          · have he : ((x : Int) == (62 : Int)) = false := beq_eq_false_iff_ne.2 (by omega)
            go_wp2_with fail
            all_goals first
              | (exfalso; omega)
              | (refine ⟨⟨k + 1, by omega, by congr 1, Lib.hid (fun j h => ?_), by trivial⟩, by simp [intOf]; omega⟩
                 by_cases hjk : j < k
                 · exact HJ.out j hjk
                 · obtain rfl : j = k := by omega
                   rw [HY.out.2]
                   exact hxc)
        · obtain rfl : k = 12 := by omega
          have hno := sgn_no 62 HJ.out
          have HXX := Lib.hid (HX0.out hno)
          clear hno
          go_wp2_with fail
          exact rtok_ret Tryd.results14 (box_four bB _ _ _ _) rfl rfl rfl rfl (HXX.out _)
    · go_wp2_with fail
      go_loopw [11] (fun i wr => ∃ k : Nat, k ≤ 12 ∧ i = .int .i64 (k : Int) ∧ Hid (∀ j, j < k → sgnC.getD j 0 ≠ 124) ∧ w1 = wr) (fun i _ => 12 - (intOf i).toNat)
      case atStart => exact ⟨0, by omega, rfl, Lib.hid (fun j h => absurd h (by omega)), by trivial⟩
      case round =>
        obtain ⟨k, hk, rfl, HJ, rfl⟩ := hrel
        by_cases hk12 : k < 12
        · have hsx := sgn_at k hk12
          have hk2 : (k : Int) < 12 := by omega
          have hy := sgn_yes k hk12
          generalize hx : sgnC.getD k 0 = x at *
          have HY := Lib.hid (And.intro hy hx)
          clear hy hx
          have w5' : IntKind.i64.wrap ((k : Int) + 1) = (k : Int) + 1 := by rw [IntKind.wrap_i64]; omega
          by_cases hxc : x = 124
          · have he : ((x : Int) == (124 : Int)) = true := by rw [hxc]; exact beq_self_eq_true _
            go_wp2_with fail
            all_goals first
              | (exfalso; omega)
              | exact rtok_ret Tryd.results14 (box_four bB _ _ _ _) rfl rfl rfl rfl (HX1.out (by have := HY.out.1; rw [hxc] at this; exact this))
          · have he : ((x : Int) == (124 : Int)) = false := beq_eq_false_iff_ne.2 (by omega)
            go_wp2_with fail
            all_goals first
              | (exfalso; omega)
              | (refine ⟨⟨k + 1, by omega, by congr 1, Lib.hid (fun j h => ?_), by trivial⟩, by simp [intOf]; omega⟩
                 by_cases hjk : j < k
                 · exact HJ.out j hjk
                 · obtain rfl : j = k := by omega
                   rw [HY.out.2]
                   exact hxc)
        · obtain rfl : k = 12 := by omega
          have hno := sgn_no 124 HJ.out
          have HXX := Lib.hid (HX0.out hno)
          clear hno
          go_wp2_with fail
          exact rtok_ret Tryd.results14 (box_four bB _ _ _ _) rfl rfl rfl rfl (HXX.out _)
    · go_wp2_with fail
      go_loopw [11] (fun i wr => ∃ k : Nat, k ≤ 12 ∧ i = .int .i64 (k : Int) ∧ Hid (∀ j, j < k → sgnC.getD j 0 ≠ c) ∧ w1 = wr) (fun i _ => 12 - (intOf i).toNat)
      case atStart => exact ⟨0, by omega, rfl, Lib.hid (fun j h => absurd h (by omega)), by trivial⟩
      case round =>
        obtain ⟨k, hk, rfl, HJ, rfl⟩ := hrel
        by_cases hk12 : k < 12
        · have hsx := sgn_at k hk12
          have hk2 : (k : Int) < 12 := by omega
          have hy := sgn_yes k hk12
          generalize hx : sgnC.getD k 0 = x at *
          have HY := Lib.hid (And.intro hy hx)
          clear hy hx
          have w5' : IntKind.i64.wrap ((k : Int) + 1) = (k : Int) + 1 := by rw [IntKind.wrap_i64]; omega
          by_cases hxc : x = c
          · have he : ((x : Int) == (c : Int)) = true := by rw [hxc]; exact beq_self_eq_true _
            go_wp2_with fail
            all_goals first
              | (exfalso; omega)
              | exact rtok_ret Tryd.results14 (box_four bB _ _ _ _) rfl rfl rfl rfl (HX1.out (by have := HY.out.1; rw [hxc] at this; exact this))
          · have he : ((x : Int) == (c : Int)) = false := beq_eq_false_iff_ne.2 (by omega)
            go_wp2_with fail
            all_goals first
              | (exfalso; omega)
              | (refine ⟨⟨k + 1, by omega, by congr 1, Lib.hid (fun j h => ?_), by trivial⟩, by simp [intOf]; omega⟩
                 by_cases hjk : j < k
                 · exact HJ.out j hjk
                 · obtain rfl : j = k := by omega
                   rw [HY.out.2]
                   exact hxc)
        · obtain rfl : k = 12 := by omega
          have hno := sgn_no c HJ.out
          have HXX := Lib.hid (HX0.out hno)
          clear hno
          go_wp2_with fail
          exact rtok_ret Tryd.results14 (box_four bB _ _ _ _) rfl rfl rfl rfl (HXX.out _)

end Go.Proofs.YthdihflnanmdkaaDoor
