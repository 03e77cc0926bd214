/-
  Texts of mine put together, in build order.
  Conditions: as each declaration says.
-/
import Derived.Test.YtofnkfjhmjecjaaGreatDoorZp18
namespace Go.Proofs.YtofnkfjhmjecjaaGreatDoor
set_option maxRecDepth 100000
open Go.RowKit Go.Joins Go.ChangeShapes Go.WideShapes
set_option linter.unusedVariables false
set_option linter.unusedSimpArgs false
def RTok (x : Except Nat (Tk × Nat)) (i : Nat) (w : World) (e : Ending) (w' : World) : Prop := Below w.heap.size w w' ∧ match x with
 | .error er => ∃ j : Int, e = .returned (.tuple #[Tkv 0 ⟨#[]⟩ 0 0, .int .i64 j, .int .i64 (er : Int)])
 | .ok (t, k) => e = .returned (.tuple #[Tkv t.kind (strB t.text) t.num t.scale, .int .i64 ((i + k : Nat) : Int), .int .i64 0])
theorem getD_drop (l : List Nat) (i k : Nat) : (l.drop i).getD k 0 = l.getD (i + k) 0 := by
 rw [List.getD_eq_getElem?_getD, List.getD_eq_getElem?_getD, List.getElem?_drop]
theorem take_snoc (l : List Nat) (k : Nat) (h : k < l.length) : l.take (k + 1) = l.take k ++ [l.getD k 0] := by
 rw [List.take_add_one, List.getElem?_eq_getElem h, List.getD_eq_getElem?_getD, List.getElem?_eq_getElem h]
 rfl
theorem rtok_ret {R : Ending → World → Prop} {fn : Func} (hr : fn.results = #[.cell 4 84, .tmp 5, .tmp 6]) {a : Act} {w : World} {g : Nat} {k n sc j er : Int} {s : ByteArray} (hb : TBox w g k n sc s)
  (h2 : a.tmps[4]?.getD undef = .pointer (some ⟨g, 0, none⟩)) (h3 : a.tmps[5]?.getD undef = .int .i64 j) (h4 : a.tmps[6]?.getD undef = .int .i64 er) (hd : a.defers = []) (hR : R (.returned (.tuple #[Tkv k s n sc, .int .i64 j, .int .i64 er])) w) : bodyPost Tryz.prog fn R .ret a w := by
 obtain ⟨⟨z0, z1, z2, z3⟩, _⟩ := hb.cells
 exact bodyPost_ret (v := .tuple #[Tkv k s n sc, .int .i64 j, .int .i64 er]) (by simp [results, hr, go_sem, z0, z1, z2, z3, h2, h3, h4, Tkv]) hd hR
theorem box4_below {B : Nat} {w w2 : World} (h : Below B w w2) {g : Nat} (hg : B ≤ g) (v0 v1 v2 v3 : Value) : Below B w ((((w2.setCell ⟨g, 0, none⟩ v0).setCell ⟨g, 1, none⟩ v1).setCell ⟨g, 2, none⟩ v2).setCell ⟨g, 3, none⟩ v3) :=
 (((h.setCell hg v0).setCell hg v1).setCell hg v2).setCell hg v3
theorem frac_at (l : List Nat) (k : Nat) : fracL (l.drop k) = (l.getD k 0 == 46 && dgL (l.getD (k + 1) 0)) := by
 have e0 : l.getD k 0 = (l.drop k).getD 0 0 := by rw [getD_drop]; rfl
 have e1 : l.getD (k + 1) 0 = (l.drop k).getD 1 0 := by rw [getD_drop]
 rw [e0, e1]
 cases l.drop k with
 | nil => rfl
 | cons a r =>
  cases r with
  | nil => show false = (a == 46 && dgL 0); rw [show dgL 0 = false from rfl, Bool.and_false]
  | cons d r => rfl
set_option maxHeartbeats 4000000 in
theorem rnumber_any (s : ByteArray) (i0 : Nat) (w : World) (hi : i0 < s.size) (hs : s.size ≤ 4294967296) (hd : dgL ((sl s).getD i0 0) = true) :
    Calls Tryz.prog 121 #[.string s, .int .i64 (i0 : Int)] w (RTok (numE ((sl s).drop i0)) i0 w) := by
  have b1 : Below w.heap.size w (w.alloc (.cells #[.int .i64 0, .string ⟨#[]⟩, .int .i64 0, .int .i64 0] 84)) := (Below.refl _ _).alloc (Nat.le_refl _) _
  have hnew : TBox (w.alloc (.cells #[.int .i64 0, .string ⟨#[]⟩, .int .i64 0, .int .i64 0] 84)) w.heap.size 0 0 0 ⟨#[]⟩ := heap_alloc_new w (.cells #[.int .i64 0, .string ⟨#[]⟩, .int .i64 0, .int .i64 0] 84)
  obtain ⟨⟨e0, e1, e2, e3⟩, f0, f1, f4, f3⟩ := hnew.cells
  have HB := Lib.hid (And.intro b1 hnew)
  obtain ⟨l, hl⟩ : ∃ l, (sl s).drop i0 = l := ⟨_, rfl⟩
  have hll : l.length + i0 = s.size := by rw [← hl, List.length_drop, sl_length]; omega
  have hget : ∀ k, (sl s).getD (i0 + k) 0 = l.getD k 0 := fun k => by rw [← hl, getD_drop]
  have hgx : ∀ (k : Nat) (h : i0 + k < s.size), (s[i0 + k]'h).toNat = l.getD k 0 := fun k h => by rw [← hget, slx_get s _ h]
  have hq0 : 0 < runL dgL l := by
    have h1 : l.getD 0 0 = (sl s).getD i0 0 := (hget 0).symm
    cases hc : l with
    | nil => rw [hc] at hll; simp at hll; omega
    | cons c r =>
      rw [hc] at h1
      have : c = (sl s).getD i0 0 := h1
      rw [runL_cons, if_pos (by rw [this]; exact hd)]
      omega
  rw [hl]
  have hqle := runL_le dgL l
  generalize hP : RTok (numE l) i0 w = P
  have HP := Lib.hid hP
  have HGX := Lib.hid hgx
  have HAT := Lib.hid (fun (k : Nat) (wx : World) => rat_any s (i0 + k) wx)
  have HGET := Lib.hid hget
  clear hP hgx hl hget hd b1 hnew
  have HIN := Lib.hid (runL_in (f := dgL) l)
  have HRA := Lib.hid (runL_at (f := dgL) (by rfl) l)
  generalize hq : runL dgL l = q at *
  have HQ := Lib.hid hq
  clear hq
  go_enter Tryz.func121, Tryz.ntmps121
  go_wp2_with fail
  generalize w.alloc (.cells #[.int .i64 0, .string ⟨#[]⟩, .int .i64 0, .int .i64 0] 84) = w1 at *
  go_loopw [1, 7, 8] (fun i n c wr => ∃ k : Nat, k ≤ q ∧ i = .int .i64 ((i0 + k : Nat) : Int) ∧ c = .int .i64 (k : Int) ∧ n = .int .u64 (decL (l.take (min k 19)) : Nat) ∧ w1 = wr) (fun i _ _ _ => i0 + q - (intOf i).toNat)
  case atStart => exact ⟨0, Nat.zero_le _, rfl, rfl, by simp [decL], by trivial⟩
  case round =>
    obtain ⟨k, hk, rfl, rfl, rfl, rfl⟩ := hrel
    have HA := Lib.hid (HAT.out k w1)
    have hra := HRA.out k hk
    rw [HGET.out] at HA
    have hgx := HGX.out k
    have HFRX := Lib.hid (frac_at l k)
    have hc8 : l.getD k 0 < 256 := by have := slx_lt s (i0 + k); rw [HGET.out] at this; exact this
    have hsn := take_snoc l k
    generalize l.getD k 0 = c at *
    have HD := Lib.hid (rdigit_any c w1 hc8)
    cases hv : dgL c with
    | true =>
      have hkq := hra.1 hv
      have hix : i0 + k < s.size := by omega
      have hsx := hgx hix
      rw [hv] at HD
      have hcd := (dg_iff c).1 hv
      have hu := decL_lt (l.take k) (fun x hx => HIN.out x (List.mem_of_mem_take (by
        rw [show l.take k = (l.take q).take k by rw [List.take_take]; congr 1; omega] at hx
        exact hx)))
      have hki : (k : Int) + 1 = ((k + 1 : Nat) : Int) := by omega
      have HSN := Lib.hid (hsn (by omega))
      clear hra hgx hsn
      by_cases h20 : k + 1 < 20
      · have hmin : min k 19 = k := by omega
        rw [hmin]
        have hn1 : decL (l.take k) < 10 ^ 18 := Nat.lt_of_lt_of_le hu (Nat.pow_le_pow_right (by omega) (by rw [List.length_take]; omega))
        have hd1 : decL (l.take (min (k + 1) 19)) = decL (l.take k) * 10 + (c - 48) := by
          rw [show min (k + 1) 19 = k + 1 by omega, HSN.out, decL_snoc]
        generalize decL (l.take k) = N at *
        have HD1 := Lib.hid hd1
        obtain ⟨d, hdd⟩ : ∃ d, c - 48 = d := ⟨_, rfl⟩
        have hd9 : d ≤ 9 := by omega
        have w1' : IntKind.u64.wrap ((N : Int) * 10) = ((N * 10 : Nat) : Int) := by rw [IntKind.wrap_u64]; omega
        have w2' : IntKind.u8.wrap ((c : Int) - 48) = (d : Int) := by rw [IntKind.wrap_u8]; omega
        have w3' : IntKind.u64.wrap (d : Int) = (d : Int) := by rw [IntKind.wrap_u64]; omega
        have w4' : IntKind.u64.wrap (((N * 10 : Nat) : Int) + (d : Int)) = ((N * 10 + d : Nat) : Int) := by rw [IntKind.wrap_u64]; omega
        have w5' : IntKind.i64.wrap ((k : Int) + 1) = ((k + 1 : Nat) : Int) := by rw [IntKind.wrap_i64]; omega
        have w6' : IntKind.i64.wrap (((i0 + k : Nat) : Int) + 1) = ((i0 + (k + 1) : Nat) : Int) := by rw [IntKind.wrap_i64]; omega
        have k20 : decide (((k + 1 : Nat) : Int) < 20) = true := by simp; omega
        have HDD := Lib.hid hdd
        clear hd1 hmin hu hdd hki
        go_wp2_with (first | (go_at_call 118; refine HA.out.mono ?_; rintro e w' ⟨rfl, rfl⟩) | (go_at_call 119; refine HD.out.mono ?_; rintro e w' ⟨rfl, rfl⟩))
        all_goals first
          | (exfalso; omega)
          | exact ⟨⟨k + 1, hkq, by congr 1, by congr 1, by rw [HD1.out, HDD.out]; congr 1, by trivial⟩, by simp [intOf]; omega⟩
      · have hd1 : decL (l.take (min (k + 1) 19)) = decL (l.take (min k 19)) := by
          rw [show min (k + 1) 19 = min k 19 by omega]
        have HD1 := Lib.hid hd1
        generalize decL (l.take (min k 19)) = N at *
        have w5' : IntKind.i64.wrap ((k : Int) + 1) = ((k + 1 : Nat) : Int) := by rw [IntKind.wrap_i64]; omega
        have w6' : IntKind.i64.wrap (((i0 + k : Nat) : Int) + 1) = ((i0 + (k + 1) : Nat) : Int) := by rw [IntKind.wrap_i64]; omega
        have k20 : decide (((k + 1 : Nat) : Int) < 20) = false := by simp; omega
        clear hd1 hu hki
        go_wp2_with (first | (go_at_call 118; refine HA.out.mono ?_; rintro e w' ⟨rfl, rfl⟩) | (go_at_call 119; refine HD.out.mono ?_; rintro e w' ⟨rfl, rfl⟩))
        all_goals first
          | (exfalso; omega)
          | exact ⟨⟨k + 1, hkq, by congr 1, by congr 1, by rw [HD1.out], by trivial⟩, by simp [intOf]; omega⟩
    | false =>
      have hkq := hra.2 hv
      rw [hv] at HD
      subst hkq
      clear hra hsn hgx
      have hP1 := HP.out
      unfold numE at hP1
      rw [HQ.out] at hP1
      have HA1 := Lib.hid (HAT.out (k + 1) w1)
      rw [HGET.out] at HA1
      have hc1 : l.getD (k + 1) 0 < 256 := by have := slx_lt s (i0 + (k + 1)); rw [HGET.out] at this; exact this
      have HDg1 := Lib.hid (rdigit_any (l.getD (k + 1) 0) w1 hc1)
      have hfr : fracL (l.drop k) = (c == 46 && dgL (l.getD (k + 1) 0)) := HFRX.out
      obtain ⟨d1, hd1⟩ : ∃ d1, l.getD (k + 1) 0 = d1 := ⟨_, rfl⟩
      rw [hd1] at HA1 HDg1 hfr hc1
      obtain ⟨N, hN⟩ : ∃ N, decL (l.take (min k 19)) = N := ⟨_, rfl⟩
      rw [hN]
      have hNN : N < 10 ^ 19 := by
        rw [← hN]
        exact Nat.lt_of_lt_of_le (decL_lt _ (fun x hx => HIN.out x (by
          rw [show l.take (min k 19) = (l.take k).take 19 by rw [List.take_take, Nat.min_comm]] at hx
          exact List.mem_of_mem_take hx))) (Nat.pow_le_pow_right (by omega) (by rw [List.length_take]; omega))
      rw [hfr] at hP1
      have hmin : k ≤ 19 → N = decL (l.take k) := fun h => by rw [← hN, Nat.min_eq_left h]
      have HMIN := Lib.hid hmin
      have w6' : IntKind.i64.wrap (((i0 + k : Nat) : Int) + 1) = ((i0 + (k + 1) : Nat) : Int) := by rw [IntKind.wrap_i64]; omega
      have hG : (decide ((19 : Int) < (k : Int)) = true ∧ 19 < k) ∨ (decide ((19 : Int) < (k : Int)) = false ∧ decide ((9223372036854775808 : Int) ≤ (N : Int)) = true ∧ ¬ 19 < k ∧ 9223372036854775808 ≤ N) ∨ (decide ((19 : Int) < (k : Int)) = false ∧ decide ((9223372036854775808 : Int) ≤ (N : Int)) = false ∧ ¬ 19 < k ∧ ¬ 9223372036854775808 ≤ N) := by
        by_cases a : 19 < k
        · exact .inl ⟨by simp; omega, a⟩
        · by_cases b : 9223372036854775808 ≤ N
          · exact .inr (.inl ⟨by simp; omega, by simp; omega, a, b⟩)
          · exact .inr (.inr ⟨by simp; omega, by simp; omega, a, b⟩)
      have bA := HB.out.1
      have bB := HB.out.2
      have hz := box4_below (B := w.heap.size) bA (Nat.le_refl _)
      clear hN hmin hfr
      cases hc46 : (c == 46) with
      | false =>
        have q46 : ((c : Int) != 46) = true := by rw [bne, show ((c : Int) == 46) = (c == 46) from eqi c 46, hc46]; rfl
        rw [hc46, Bool.false_and, if_neg (by decide)] at hP1
        have HErr : Hid (19 < k ∨ 9223372036854775808 ≤ N → ∀ j : Int, P (.returned (.tuple #[Tkv 0 ⟨#[]⟩ 0 0, .int .i64 j, .int .i64 11])) ((((w1.setCell ⟨w.heap.size, 0, none⟩ (.int .i64 0)).setCell ⟨w.heap.size, 1, none⟩ (.string ⟨#[]⟩)).setCell ⟨w.heap.size, 2, none⟩ (.int .i64 0)).setCell ⟨w.heap.size, 3, none⟩ (.int .i64 0))) := Lib.hid (by
          intro h j
          rw [if_pos (by by_cases h19 : k ≤ 19; (have := HMIN.out h19; omega); omega)] at hP1
          rw [← hP1]
          exact ⟨hz _ _ _ _, j, rfl⟩)
        have HOk : Hid (¬ 19 < k ∧ ¬ 9223372036854775808 ≤ N → P (.returned (.tuple #[Tkv 2 ⟨#[]⟩ (N : Int) 0, .int .i64 ((i0 + k : Nat) : Int), .int .i64 0])) ((((w1.setCell ⟨w.heap.size, 0, none⟩ (.int .i64 2)).setCell ⟨w.heap.size, 1, none⟩ (.string ⟨#[]⟩)).setCell ⟨w.heap.size, 2, none⟩ (.int .i64 N)).setCell ⟨w.heap.size, 3, none⟩ (.int .i64 0))) := Lib.hid (by
          intro h
          have := HMIN.out (by omega)
          rw [if_neg (by omega), ← this] at hP1
          rw [← hP1]
          exact ⟨hz _ _ _ _, rfl⟩)
        clear hP1 hz bA
        rcases hG with ⟨g1, g3⟩ | ⟨g1, g2, g3, g4⟩ | ⟨g1, g2, g3, g4⟩
        · go_wp2_with (first | (go_at_call 118; refine HA.out.mono ?_; rintro e w' ⟨rfl, rfl⟩) | (go_at_call 119; refine HD.out.mono ?_; rintro e w' ⟨rfl, rfl⟩))
          exact rtok_ret Tryz.results121 (box_four bB _ _ _ _) rfl rfl rfl rfl (HErr.out (.inl g3) _)
        · go_wp2_with (first | (go_at_call 118; refine HA.out.mono ?_; rintro e w' ⟨rfl, rfl⟩) | (go_at_call 119; refine HD.out.mono ?_; rintro e w' ⟨rfl, rfl⟩))
          exact rtok_ret Tryz.results121 (box_four bB _ _ _ _) rfl rfl rfl rfl (HErr.out (.inr g4) _)
        · have wN : IntKind.i64.wrap (N : Int) = (N : Int) := by rw [IntKind.wrap_i64]; omega
          go_wp2_with (first | (go_at_call 118; refine HA.out.mono ?_; rintro e w' ⟨rfl, rfl⟩) | (go_at_call 119; refine HD.out.mono ?_; rintro e w' ⟨rfl, rfl⟩))
          exact rtok_ret Tryz.results121 (box_four bB _ _ _ _) rfl rfl rfl rfl (HOk.out ⟨g3, g4⟩)
      | true =>
        have q46 : ((c : Int) != 46) = false := by rw [bne, show ((c : Int) == 46) = (c == 46) from eqi c 46, hc46]; rfl
        rw [hc46, Bool.true_and] at hP1
        cases hd46 : dgL d1 with
        | false =>
          rw [hd46] at HDg1
          rw [hd46, if_neg (by decide)] at hP1
          have HErr : Hid (19 < k ∨ 9223372036854775808 ≤ N → ∀ j : Int, P (.returned (.tuple #[Tkv 0 ⟨#[]⟩ 0 0, .int .i64 j, .int .i64 11])) ((((w1.setCell ⟨w.heap.size, 0, none⟩ (.int .i64 0)).setCell ⟨w.heap.size, 1, none⟩ (.string ⟨#[]⟩)).setCell ⟨w.heap.size, 2, none⟩ (.int .i64 0)).setCell ⟨w.heap.size, 3, none⟩ (.int .i64 0))) := Lib.hid (by
            intro h j
            rw [if_pos (by by_cases h19 : k ≤ 19; (have := HMIN.out h19; omega); omega)] at hP1
            rw [← hP1]
            exact ⟨hz _ _ _ _, j, rfl⟩)
          have HOk : Hid (¬ 19 < k ∧ ¬ 9223372036854775808 ≤ N → P (.returned (.tuple #[Tkv 2 ⟨#[]⟩ (N : Int) 0, .int .i64 ((i0 + k : Nat) : Int), .int .i64 0])) ((((w1.setCell ⟨w.heap.size, 0, none⟩ (.int .i64 2)).setCell ⟨w.heap.size, 1, none⟩ (.string ⟨#[]⟩)).setCell ⟨w.heap.size, 2, none⟩ (.int .i64 N)).setCell ⟨w.heap.size, 3, none⟩ (.int .i64 0))) := Lib.hid (by
            intro h
            have := HMIN.out (by omega)
            rw [if_neg (by omega), ← this] at hP1
            rw [← hP1]
            exact ⟨hz _ _ _ _, rfl⟩)
          have w7' : IntKind.i64.wrap ((i0 : Int) + (k : Int) + 1) = (i0 : Int) + (k : Int) + 1 := by rw [IntKind.wrap_i64]; omega
          clear hP1 hz bA
          rcases hG with ⟨g1, g3⟩ | ⟨g1, g2, g3, g4⟩ | ⟨g1, g2, g3, g4⟩
          · go_wp2_with fail
            try go_at_call 118
            refine HA.out.mono ?_
            rintro e w' ⟨rfl, rfl⟩
            go_wp2_with fail
            try go_at_call 119
            refine HD.out.mono ?_
            rintro e w' ⟨rfl, rfl⟩
            go_wp2_with fail
            try go_at_call 118
            refine HA.out.mono ?_
            rintro e w' ⟨rfl, rfl⟩
            go_wp2_with fail
            try go_at_call 118
            refine HA1.out.mono ?_
            rintro e w' ⟨rfl, rfl⟩
            go_wp2_with fail
            try go_at_call 119
            refine HDg1.out.mono ?_
            rintro e w' ⟨rfl, rfl⟩
            go_wp2_with fail
            exact rtok_ret Tryz.results121 (box_four bB _ _ _ _) rfl rfl rfl rfl (HErr.out (.inl g3) _)
          · go_wp2_with fail
            try go_at_call 118
            refine HA.out.mono ?_
            rintro e w' ⟨rfl, rfl⟩
            go_wp2_with fail
            try go_at_call 119
            refine HD.out.mono ?_
            rintro e w' ⟨rfl, rfl⟩
            go_wp2_with fail
            try go_at_call 118
            refine HA.out.mono ?_
            rintro e w' ⟨rfl, rfl⟩
            go_wp2_with fail
            try go_at_call 118
            refine HA1.out.mono ?_
            rintro e w' ⟨rfl, rfl⟩
            go_wp2_with fail
            try go_at_call 119
            refine HDg1.out.mono ?_
            rintro e w' ⟨rfl, rfl⟩
            go_wp2_with fail
            exact rtok_ret Tryz.results121 (box_four bB _ _ _ _) rfl rfl rfl rfl (HErr.out (.inr g4) _)
          · have wN : IntKind.i64.wrap (N : Int) = (N : Int) := by rw [IntKind.wrap_i64]; omega
            go_wp2_with fail
            try go_at_call 118
            refine HA.out.mono ?_
            rintro e w' ⟨rfl, rfl⟩
            go_wp2_with fail
            try go_at_call 119
            refine HD.out.mono ?_
            rintro e w' ⟨rfl, rfl⟩
            go_wp2_with fail
            try go_at_call 118
            refine HA.out.mono ?_
            rintro e w' ⟨rfl, rfl⟩
            go_wp2_with fail
            try go_at_call 118
            refine HA1.out.mono ?_
            rintro e w' ⟨rfl, rfl⟩
            go_wp2_with fail
            try go_at_call 119
            refine HDg1.out.mono ?_
            rintro e w' ⟨rfl, rfl⟩
            go_wp2_with fail
            exact rtok_ret Tryz.results121 (box_four bB _ _ _ _) rfl rfl rfl rfl (HOk.out ⟨g3, g4⟩)
        | true =>
          rw [hd46] at HDg1
          rw [hd46, if_pos rfl] at hP1
          obtain ⟨l2, hl2⟩ : ∃ l2, l.drop (k + 1) = l2 := ⟨_, rfl⟩
          rw [hl2] at hP1
          have hl2l : l2.length + (k + 1) = l.length := by
            rw [← hl2, List.length_drop]
            have : k + 1 < l.length := by
              refine Nat.lt_of_not_le fun hle => ?_
              rw [List.getD_eq_getElem?_getD, List.getElem?_eq_none (by omega)] at hd1
              rw [← hd1] at hd46
              cases hd46
            omega
          have hg2 : ∀ j, l.getD (k + 1 + j) 0 = l2.getD j 0 := fun j => by rw [← hl2, getD_drop]
          have HRA2 := Lib.hid (runL_at (f := dgL) (by rfl) l2)
          have HIN2 := Lib.hid (runL_in (f := dgL) l2)
          have hf2 := runL_le dgL l2
          have HG2 := Lib.hid hg2
          have w7' : IntKind.i64.wrap ((i0 : Int) + (k : Int) + 1) = (i0 : Int) + (k : Int) + 1 := by rw [IntKind.wrap_i64]; omega
          generalize hf : runL dgL l2 = f at *
          have HP1 := Lib.hid hP1
          have HL2 := Lib.hid hl2l
          have hzH := Lib.hid hz
          clear hP1 hz bA hl2 hg2 hf
          rcases hG with ⟨g1, g3⟩ | ⟨g1, g2, g3, g4⟩ | ⟨g1, g2, g3, g4⟩
          all_goals
            go_wp2_with fail
            try go_at_call 118
            refine HA.out.mono ?_
            rintro e w' ⟨rfl, rfl⟩
            go_wp2_with fail
            try go_at_call 119
            refine HD.out.mono ?_
            rintro e w' ⟨rfl, rfl⟩
            go_wp2_with fail
            try go_at_call 118
            refine HA.out.mono ?_
            rintro e w' ⟨rfl, rfl⟩
            go_wp2_with fail
            try go_at_call 118
            refine HA1.out.mono ?_
            rintro e w' ⟨rfl, rfl⟩
            go_wp2_with fail
            try go_at_call 119
            refine HDg1.out.mono ?_
            rintro e w' ⟨rfl, rfl⟩
            go_wp2_with fail
            clear HA HD HA1 HDg1 g1
            go_loopw [1, 7, 10] (fun i n sc wr => ∃ j M : Nat, j ≤ f ∧ i = .int .i64 ((i0 + (k + 1 + j) : Nat) : Int) ∧ n = .int .u64 (M : Int) ∧ M < 18446744073709551616 ∧ Hid (k + j ≤ 15 → M = decL (l.take k ++ l2.take j)) ∧ sc = .int .i64 (j : Int) ∧ w1 = wr) (fun i _ _ _ => i0 + k + 1 + f - (intOf i).toNat)
            case atStart => exact ⟨0, N, Nat.zero_le _, by congr 1, rfl, by omega, Lib.hid (fun h => by rw [List.take_zero, List.append_nil]; exact HMIN.out (by omega)), rfl, by trivial⟩
            case round =>
              obtain ⟨j, M, hj, rfl, rfl, hM, hMJ, rfl, rfl⟩ := hrel
              have HA2 := Lib.hid (HAT.out (k + 1 + j) w1)
              rw [HGET.out, HG2.out] at HA2
              have hra := HRA2.out j hj
              have hgx := HGX.out (k + 1 + j)
              rw [HG2.out] at hgx
              have hc8 : l2.getD j 0 < 256 := by have := slx_lt s (i0 + (k + 1 + j)); rw [HGET.out, HG2.out] at this; exact this
              have hsn := take_snoc l2 j
              generalize l2.getD j 0 = c2 at *
              have HD2 := Lib.hid (rdigit_any c2 w1 hc8)
              cases hv2 : dgL c2 with
              | true =>
                have hjf := hra.1 hv2
                rw [hv2] at HD2
                have hix : i0 + (k + 1 + j) < s.size := by have := HL2.out; omega
                have hsx := hgx hix
                have hcd := (dg_iff c2).1 hv2
                have HSN := Lib.hid (hsn (by omega))
                clear hra hgx hsn
                have w5' : IntKind.i64.wrap ((j : Int) + 1) = (j : Int) + 1 := by rw [IntKind.wrap_i64]; omega
                have w8' : IntKind.i64.wrap ((k : Int) + ((j : Int) + 1)) = (k : Int) + ((j : Int) + 1) := by rw [IntKind.wrap_i64]; omega
                have w9' : IntKind.i64.wrap ((i0 : Int) + ((k : Int) + 1 + (j : Int)) + 1) = (i0 : Int) + ((k : Int) + 1 + (j : Int)) + 1 := by rw [IntKind.wrap_i64]; omega
                by_cases h16 : k + (j + 1) < 16
                · have k16 : decide ((k : Int) + ((j : Int) + 1) < 16) = true := by simp; omega
                  have hMd := hMJ.out (by omega)
                  have hMb : M < 10 ^ 14 := by
                    rw [hMd]
                    exact Nat.lt_of_lt_of_le (decL_lt _ (fun x hx => by
                      rcases List.mem_append.1 hx with g | g
                      · exact HIN.out x g
                      · exact HIN2.out x (List.mem_of_mem_take (by
                          rw [show l2.take j = (l2.take f).take j by rw [List.take_take]; congr 1; omega] at g
                          exact g)))) (Nat.pow_le_pow_right (by omega) (by rw [List.length_append, List.length_take, List.length_take]; omega))
                  obtain ⟨d, hdd⟩ : ∃ d, c2 - 48 = d := ⟨_, rfl⟩
                  have hd9 : d ≤ 9 := by omega
                  have hM2 : M * 10 + d = decL (l.take k ++ l2.take (j + 1)) := by
                    rw [HSN.out, ← List.append_assoc, decL_snoc, ← hMd, hdd]
                  have HM2 := Lib.hid hM2
                  have w1' : IntKind.u64.wrap ((M : Int) * 10) = (M : Int) * 10 := by rw [IntKind.wrap_u64]; omega
                  have w2' : IntKind.u8.wrap ((c2 : Int) - 48) = (d : Int) := by rw [IntKind.wrap_u8]; omega
                  have w3' : IntKind.u64.wrap (d : Int) = (d : Int) := by rw [IntKind.wrap_u64]; omega
                  have w4' : IntKind.u64.wrap ((M : Int) * 10 + (d : Int)) = (M : Int) * 10 + (d : Int) := by rw [IntKind.wrap_u64]; omega
                  have HDD := Lib.hid hdd
                  clear hMd hM2 hdd
                  go_wp2_with fail
                  try go_at_call 118
                  refine HA2.out.mono ?_
                  rintro e w' ⟨rfl, rfl⟩
                  go_wp2_with fail
                  try go_at_call 119
                  refine HD2.out.mono ?_
                  rintro e w' ⟨rfl, rfl⟩
                  go_wp2_with fail
                  all_goals first
                    | (exfalso; omega)
                    | exact ⟨⟨j + 1, M * 10 + d, hjf, by congr 1, by congr 1, by omega, Lib.hid (fun _ => HM2.out), by congr 1, by trivial⟩, by simp [intOf]; omega⟩
                · have k16 : decide ((k : Int) + ((j : Int) + 1) < 16) = false := by simp; omega
                  go_wp2_with fail
                  try go_at_call 118
                  refine HA2.out.mono ?_
                  rintro e w' ⟨rfl, rfl⟩
                  go_wp2_with fail
                  try go_at_call 119
                  refine HD2.out.mono ?_
                  rintro e w' ⟨rfl, rfl⟩
                  go_wp2_with fail
                  all_goals first
                    | (exfalso; omega)
                    | exact ⟨⟨j + 1, M, hjf, by congr 1, rfl, hM, Lib.hid (fun h => absurd h (by omega)), by congr 1, by trivial⟩, by simp [intOf]; omega⟩
              | false =>
                have hjf := hra.2 hv2
                rw [hv2] at HD2
                subst hjf
                clear hra hgx hsn
                have w8' : IntKind.i64.wrap ((k : Int) + (j : Int)) = (k : Int) + (j : Int) := by rw [IntKind.wrap_i64]; omega
                have hP1 := HP1.out
                by_cases h15 : k + j > 15
                · have k15 : decide ((15 : Int) < (k : Int) + (j : Int)) = true := by simp; omega
                  rw [if_pos h15] at hP1
                  have HX : Hid (∀ q : Int, P (.returned (.tuple #[Tkv 0 ⟨#[]⟩ 0 0, .int .i64 q, .int .i64 11])) ((((w1.setCell ⟨w.heap.size, 0, none⟩ (.int .i64 0)).setCell ⟨w.heap.size, 1, none⟩ (.string ⟨#[]⟩)).setCell ⟨w.heap.size, 2, none⟩ (.int .i64 0)).setCell ⟨w.heap.size, 3, none⟩ (.int .i64 0))) := Lib.hid (by
                    intro q
                    rw [← hP1]
                    exact ⟨hzH.out _ _ _ _, q, rfl⟩)
                  clear hP1
                  go_wp2_with fail
                  try go_at_call 118
                  refine HA2.out.mono ?_
                  rintro e w' ⟨rfl, rfl⟩
                  go_wp2_with fail
                  try go_at_call 119
                  refine HD2.out.mono ?_
                  rintro e w' ⟨rfl, rfl⟩
                  go_wp2_with fail
                  exact rtok_ret Tryz.results121 (box_four bB _ _ _ _) rfl rfl rfl rfl (HX.out _)
                · first
                  | exact absurd g3 (by omega)
                  | (have k15 : decide ((15 : Int) < (k : Int) + (j : Int)) = false := by simp; omega
                     have hMd := hMJ.out (by omega)
                     have hMb : M < 10 ^ 15 := by
                       rw [hMd]
                       exact Nat.lt_of_lt_of_le (decL_lt _ (fun x hx => by
                         rcases List.mem_append.1 hx with g | g
                         · exact HIN.out x g
                         · exact HIN2.out x g)) (Nat.pow_le_pow_right (by omega) (by rw [List.length_append, List.length_take, List.length_take]; omega))
                     have wN : IntKind.i64.wrap (M : Int) = (M : Int) := by rw [IntKind.wrap_i64]; omega
                     rw [if_neg h15, ← hMd] at hP1
                     have HX : Hid (P (.returned (.tuple #[Tkv 3 ⟨#[]⟩ (M : Int) (j : Int), .int .i64 ((i0 : Int) + ((k : Int) + 1 + (j : Int))), .int .i64 0])) ((((w1.setCell ⟨w.heap.size, 0, none⟩ (.int .i64 3)).setCell ⟨w.heap.size, 1, none⟩ (.string ⟨#[]⟩)).setCell ⟨w.heap.size, 2, none⟩ (.int .i64 (M : Int))).setCell ⟨w.heap.size, 3, none⟩ (.int .i64 (j : Int)))) := Lib.hid (by
                       rw [← hP1]
                       exact ⟨hzH.out _ _ _ _, by congr 1⟩)
                     clear hP1 hMd
                     go_wp2_with fail
                     try go_at_call 118
                     refine HA2.out.mono ?_
                     rintro e w' ⟨rfl, rfl⟩
                     go_wp2_with fail
                     try go_at_call 119
                     refine HD2.out.mono ?_
                     rintro e w' ⟨rfl, rfl⟩
                     go_wp2_with fail
                     exact rtok_ret Tryz.results121 (box_four bB _ _ _ _) rfl rfl rfl rfl HX.out)
end Go.Proofs.YtofnkfjhmjecjaaGreatDoor

namespace Go.Proofs.YtofnkfjhmjecjaaGreatDoor
set_option maxRecDepth 100000
open Go.RowKit Go.Joins Go.ChangeShapes Go.WideShapes
set_option linter.unusedVariables false
set_option linter.unusedSimpArgs false
def txtR (r : List Nat) : Except Nat (Tk × Nat) := match textL r with
 | none => .error 121
 | some x => if x.1.length > 200 then .error 1 else .ok (⟨4, x.1, 0, 0⟩, x.2)
structure RxS (w wr : World) (l : List Nat) (v : Value) (acc : List Nat) (k : Nat) : Prop where
 own : OwB wr (w.heap.size + 1) v acc
 kl : k ≤ l.length
 al : acc.length ≤ k
 eq : textL l = (textL (l.drop k)).map (fun x => (acc ++ x.1, k + x.2))
 bel : Below w.heap.size w wr
 sz : w.heap.size + 1 ≤ wr.heap.size
 bx : TBox wr w.heap.size 0 0 0 ⟨#[]⟩
theorem drop_getD (l : List Nat) (k : Nat) (h : k < l.length) : l.drop k = l.getD k 0 :: l.drop (k + 1) := by
 rw [List.drop_eq_getElem_cons h, List.getD_eq_getElem?_getD, List.getElem?_eq_getElem h]
 rfl
theorem getD_out (l : List Nat) (k : Nat) (h : ¬ k < l.length) : l.getD k 0 = 0 := by
 rw [List.getD_eq_getElem?_getD, List.getElem?_eq_none (by omega)]
 rfl
set_option maxHeartbeats 4000000 in
theorem rtext_any (s : ByteArray) (i0 : Nat) (w : World) (hi : i0 ≤ s.size) (hs : s.size ≤ 4294967296) :
  Calls Tryz.prog 122 #[.string s, .int .i64 (i0 : Int)] w (RTok (txtR ((sl s).drop i0)) i0 w) := by
 have b1 : Below w.heap.size w (w.alloc (.cells #[.int .i64 0, .string ⟨#[]⟩, .int .i64 0, .int .i64 0] 84)) := (Below.refl _ _).alloc (Nat.le_refl _) _
 have hnew : TBox (w.alloc (.cells #[.int .i64 0, .string ⟨#[]⟩, .int .i64 0, .int .i64 0] 84)) w.heap.size 0 0 0 ⟨#[]⟩ := heap_alloc_new w (.cells #[.int .i64 0, .string ⟨#[]⟩, .int .i64 0, .int .i64 0] 84)
 obtain ⟨l, hl⟩ : ∃ l, (sl s).drop i0 = l := ⟨_, rfl⟩
 have hll : l.length + i0 = s.size := by rw [← hl, List.length_drop, sl_length]; omega
 have hget : ∀ k, (sl s).getD (i0 + k) 0 = l.getD k 0 := fun k => by rw [← hl, getD_drop]
 have hgx : ∀ (k : Nat) (h : i0 + k < s.size), (s[i0 + k]'h).toNat = l.getD k 0 := fun k h => by rw [← hget, slx_get s _ h]
 rw [hl]
 have HS0 : Hid (RxS w ((w.alloc (.cells #[.int .i64 0, .string ⟨#[]⟩, .int .i64 0, .int .i64 0] 84)).alloc (.cells #[] 5)) l (.slice (some ⟨w.heap.size + 1, 0, none⟩) 0 0) [] 0) := Lib.hid
  ⟨⟨by
    have := World.ownsRow_made (w.alloc (.cells #[.int .i64 0, .string ⟨#[]⟩, .int .i64 0, .int .i64 0] 84)) #[] 0 (base := w.heap.size + 1) (e := 5) (size := 1) (by simp) (by decide) rfl
    simpa [bcells] using this, by simp⟩, Nat.zero_le _, Nat.zero_le _, by rw [List.drop_zero]; cases textL l <;> simp, b1.alloc (by simp) _, by simp, hnew.below ((Below.refl _ _).alloc (Nat.le_refl _) _)⟩
 generalize hP : RTok (txtR l) i0 w = P
 have HP := Lib.hid hP
 have HGX := Lib.hid hgx
 have HAT := Lib.hid (fun (k : Nat) (wx : World) => rat_any s (i0 + k) wx)
 have HGET := Lib.hid hget
 clear hP hgx hl hget b1 hnew
 go_enter Tryz.func122, Tryz.ntmps122
 go_wp2_with fail
 go_loopw [1, 7] (fun i v wr => ∃ k acc, i = .int .i64 ((i0 + k : Nat) : Int) ∧ RxS w wr l v acc k) (fun i _ _ => i0 + l.length - (intOf i).toNat)
 case atStart => exact ⟨0, [], rfl, by simpa using HS0.out⟩
 case round =>
  obtain ⟨k, acc, rfl, hs⟩ := hrel
  have HS := Lib.hid hs
  have hkl := hs.kl
  obtain ⟨⟨e0, e1, e2, e3⟩, f0, f1, f4, f3⟩ := hs.bx.cells
  clear hs
  by_cases hk : k < l.length
  ·have hix : i0 + k < s.size := by omega
   have hki : decide (((i0 + k : Nat) : Int) < (s.size : Int)) = true := by simp; omega
   have hsx := HGX.out k hix
   have hdk := drop_getD l k hk
   have hc8 : l.getD k 0 < 256 := by have := slx_lt s (i0 + k); rw [HGET.out] at this; exact this
   generalize l.getD k 0 = c at *
   have HDK := Lib.hid hdk
   clear hdk
   by_cases h39 : c = 39
   ·subst h39
    have HA1 := Lib.hid (HAT.out (k + 1) wr)
    rw [HGET.out] at HA1
    have hd8 : l.getD (k + 1) 0 < 256 := by have := slx_lt s (i0 + (k + 1)); rw [HGET.out] at this; exact this
    have hd2 := fun h => drop_getD l (k + 1) h
    have hd3 := fun h => getD_out l (k + 1) h
    have w7' : IntKind.i64.wrap ((i0 : Int) + (k : Int) + 1) = (i0 : Int) + (k : Int) + 1 := by rw [IntKind.wrap_i64]; omega
    obtain ⟨d, hdd⟩ : ∃ d, l.getD (k + 1) 0 = d := ⟨_, rfl⟩
    rw [hdd] at HA1 hd8 hd2 hd3
    by_cases hd39 : d = 39
    ·subst hd39
     have hk1 : k + 1 < l.length := by
      refine Nat.lt_of_not_le fun h => ?_
      have := hd3 (by omega)
      omega
     have hix1 : i0 + (k + 1) < s.size := by omega
     have hsx1 : (s[i0 + k + 1]'(by omega)).toNat = 39 := HGX.out (k + 1) hix1 |>.trans hdd
     have HDD1 := Lib.hid (hd2 hk1)
     clear hd2 hd3 hdd
     have w8' : IntKind.i64.wrap ((i0 : Int) + (k : Int) + 1 + 1) = (i0 : Int) + (k : Int) + 1 + 1 := by rw [IntKind.wrap_i64]; omega
     go_wp2_with fail
     try go_at_call 118
     refine HA1.out.mono ?_
     rintro e w' ⟨rfl, rfl⟩
     go_wp2_with (first | (at_builtin; refine wp_push rfl _ _ rfl (w.heap.size + 1) u7 acc rfl (HS.out.own.alloc _) ⟨wr.heap.size, 0, none⟩ 1 1 [39] rfl rfl (news1' wr 39 _ (by first | rfl | simp)) (by have := HS.out.al; omega) (by have := HS.out.sz; simp; omega) ?_; intro v2 w2 own2 gr2; have HX2 := Lib.hid (And.intro own2 gr2); clear own2 gr2))
     have hb2 : Below w.heap.size w w2 := (HS.out.bel.alloc (by have := HS.out.sz; omega) _).grown HX2.out.2 (by have := HS.out.sz; simp; omega) (fun g hg => by have := (HS.out.own.lt g hg).1; omega)
     have bx2 := (HS.out.bx.below ((Below.refl _ _).alloc (Nat.le_refl _) (.cells #[.int .u8 (39 : Int)] 5))).grown HX2.out.2 (fun g hg => by have := (HS.out.own.lt g hg).1; omega)
     have hs2 := HX2.out.2.size
     have hs2' : w.heap.size + 1 ≤ w2.heap.size := by have := HS.out.sz; simp at hs2; omega
     go_roundw
     case rel =>
      refine ⟨k + 2, acc ++ [39], by congr 1, HX2.out.1, by omega, by have := HS.out.al; simp; omega, ?_, hb2, hs2', bx2⟩
      rw [HS.out.eq, HDK.out, HDD1.out, textL_two, Option.map_map]
      congr 1
      funext x
      simp only [Function.comp, List.append_assoc, List.cons_append, List.nil_append, Prod.mk.injEq, true_and]
      omega
     case measure => simp [intOf]; omega
    ·have qd : ((d : Int) != 39) = true := by rw [bne, beq_eq_false_iff_ne.2 (show (d : Int) ≠ 39 by omega)]; rfl
     have hend : textL (l.drop k) = some ([], 1) := by
      rw [HDK.out]
      refine textL_end fun d' t e => ?_
      by_cases h : k + 1 < l.length
      ·rw [hd2 h] at e
       injection e with e1 e2
       omega
      ·rw [List.drop_eq_nil_of_le (by omega)] at e
       cases e
     have hP1 := HP.out
     unfold txtR at hP1
     rw [HS.out.eq, hend] at hP1
     have hst := str_own HS.out.own
     obtain ⟨gv, capv, ev, _⟩ := HS.out.own.form
     obtain ⟨n, hn⟩ : ∃ n, acc.length = n := ⟨_, rfl⟩
     rw [hn] at ev
     have hP1 : (if (acc ++ []).length > 200 then RTok (.error 1) i0 w else RTok (.ok (⟨4, acc ++ [], 0, 0⟩, k + 1)) i0 w) = P := by
      rw [← hP1]
      simp only [Option.map_some]
      split <;> rfl
     rw [List.append_nil, hn] at hP1
     have HSB := Lib.hid HS.out.bx
     have HBL := Lib.hid HS.out.bel
     clear hd2 hd3 hdd
     subst ev
     obtain ⟨S, hS⟩ : ∃ S, strB acc = S := ⟨_, rfl⟩
     rw [hS] at hst
     by_cases c200 : n > 200
     ·have k200 : decide ((200 : Int) < (n : Int)) = true := by simp; omega
      rw [if_pos c200] at hP1
      have HX : Hid (∀ q : Int, P (.returned (.tuple #[Tkv 0 ⟨#[]⟩ 0 0, .int .i64 q, .int .i64 1])) ((((wr.setCell ⟨w.heap.size, 0, none⟩ (.int .i64 0)).setCell ⟨w.heap.size, 1, none⟩ (.string ⟨#[]⟩)).setCell ⟨w.heap.size, 2, none⟩ (.int .i64 0)).setCell ⟨w.heap.size, 3, none⟩ (.int .i64 0))) := Lib.hid (by
       intro q
       rw [← hP1]
       exact ⟨box4_below HBL.out (Nat.le_refl _) _ _ _ _, q, rfl⟩)
      clear hP1 hS hn hst HS hend
      go_wp2_with fail
      try go_at_call 118
      refine HA1.out.mono ?_
      rintro e w' ⟨rfl, rfl⟩
      go_wp2_with fail
      exact rtok_ret Tryz.results122 (box_four HSB.out _ _ _ _) rfl rfl rfl rfl (HX.out _)
     ·have k200 : decide ((200 : Int) < (n : Int)) = false := by simp; omega
      rw [if_neg c200] at hP1
      have HX : Hid (P (.returned (.tuple #[Tkv 4 S 0 0, .int .i64 ((i0 : Int) + (k : Int) + 1), .int .i64 0])) ((((wr.setCell ⟨w.heap.size, 0, none⟩ (.int .i64 4)).setCell ⟨w.heap.size, 1, none⟩ (.string S)).setCell ⟨w.heap.size, 2, none⟩ (.int .i64 0)).setCell ⟨w.heap.size, 3, none⟩ (.int .i64 0))) := Lib.hid (by
       rw [← hP1, ← hS]
       exact ⟨box4_below HBL.out (Nat.le_refl _) _ _ _ _, by congr 1⟩)
      clear hP1 hS hn HS hend
      go_wp2_with fail
      try go_at_call 118
      refine HA1.out.mono ?_
      rintro e w' ⟨rfl, rfl⟩
      go_wp2_with fail
      exact rtok_ret Tryz.results122 (box_four HSB.out _ _ _ _) rfl rfl rfl rfl HX.out
   ·have q39 : ((c : Int) == 39) = false := beq_eq_false_iff_ne.2 (by omega)
    have w7' : IntKind.i64.wrap ((i0 : Int) + (k : Int) + 1) = (i0 : Int) + (k : Int) + 1 := by rw [IntKind.wrap_i64]; omega
    go_wp2_with (first | (at_builtin; refine wp_push rfl _ _ rfl (w.heap.size + 1) u7 acc rfl (HS.out.own.alloc _) ⟨wr.heap.size, 0, none⟩ 1 1 [c] rfl rfl (news1' wr c _ (by first | rfl | simp)) (by have := HS.out.al; omega) (by have := HS.out.sz; simp; omega) ?_; intro v2 w2 own2 gr2; have HX2 := Lib.hid (And.intro own2 gr2); clear own2 gr2))
    have hb2 : Below w.heap.size w w2 := (HS.out.bel.alloc (by have := HS.out.sz; omega) _).grown HX2.out.2 (by have := HS.out.sz; simp; omega) (fun g hg => by have := (HS.out.own.lt g hg).1; omega)
    have bx2 := (HS.out.bx.below ((Below.refl _ _).alloc (Nat.le_refl _) (.cells #[.int .u8 (c : Int)] 5))).grown HX2.out.2 (fun g hg => by have := (HS.out.own.lt g hg).1; omega)
    have hs2 := HX2.out.2.size
    have hs2' : w.heap.size + 1 ≤ w2.heap.size := by have := HS.out.sz; simp at hs2; omega
    go_roundw
    case rel =>
     refine ⟨k + 1, acc ++ [c], by congr 1, HX2.out.1, by omega, by have := HS.out.al; simp; omega, ?_, hb2, hs2', bx2⟩
     rw [HS.out.eq, HDK.out, textL_q _ h39, Option.map_map]
     congr 1
     funext x
     simp only [Function.comp, List.append_assoc, List.cons_append, List.nil_append, Prod.mk.injEq, true_and]
     omega
    case measure => simp [intOf]; omega
  ·have hki : decide (((i0 + k : Nat) : Int) < (s.size : Int)) = false := by simp; omega
   have hP1 := HP.out
   unfold txtR at hP1
   rw [HS.out.eq, List.drop_eq_nil_of_le (by omega)] at hP1
   have HX : Hid (∀ q : Int, P (.returned (.tuple #[Tkv 0 ⟨#[]⟩ 0 0, .int .i64 q, .int .i64 121])) ((((wr.setCell ⟨w.heap.size, 0, none⟩ (.int .i64 0)).setCell ⟨w.heap.size, 1, none⟩ (.string ⟨#[]⟩)).setCell ⟨w.heap.size, 2, none⟩ (.int .i64 0)).setCell ⟨w.heap.size, 3, none⟩ (.int .i64 0))) := Lib.hid (by
    intro q
    rw [← hP1]
    exact ⟨box4_below HS.out.bel (Nat.le_refl _) _ _ _ _, q, rfl⟩)
   clear hP1
   go_wp2_with fail
   exact rtok_ret Tryz.results122 (box_four HS.out.bx _ _ _ _) rfl rfl rfl rfl (HX.out _)
end Go.Proofs.YtofnkfjhmjecjaaGreatDoor

namespace Go.Proofs.YtofnkfjhmjecjaaGreatDoor
set_option maxRecDepth 100000
open Go.RowKit Go.Joins Go.ChangeShapes Go.WideShapes
set_option linter.unusedVariables false
set_option linter.unusedSimpArgs false
theorem smI_low (c : Nat) : smI c = lowL c := by
 unfold smI lowL cpL
 by_cases h : 65 ≤ c ∧ c ≤ 90
 ·rw [if_pos h, if_pos (by simpa using h)]
 ·rw [if_neg h, if_neg (by simpa using h)]
structure RwS (w wr : World) (l : List Nat) (v : Value) (k : Nat) : Prop where
 own : OwB wr (w.heap.size + 1) v ((l.take k).map lowL)
 kl : k ≤ runL iwL l
 bel : Below w.heap.size w wr
 sz : w.heap.size + 1 ≤ wr.heap.size
 bx : TBox wr w.heap.size 0 0 0 ⟨#[]⟩
set_option maxHeartbeats 4000000 in
theorem rword_any (s : ByteArray) (i0 : Nat) (w : World) (hi : i0 < s.size) (hs : s.size ≤ 4294967296) (hb : bwL ((sl s).getD i0 0) = true) :
  Calls Tryz.prog 47 #[.string s, .int .i64 (i0 : Int)] w (RTok (wrdE ((sl s).drop i0)) i0 w) := by
 have b1 : Below w.heap.size w (w.alloc (.cells #[.int .i64 0, .string ⟨#[]⟩, .int .i64 0, .int .i64 0] 84)) := (Below.refl _ _).alloc (Nat.le_refl _) _
 have hnew : TBox (w.alloc (.cells #[.int .i64 0, .string ⟨#[]⟩, .int .i64 0, .int .i64 0] 84)) w.heap.size 0 0 0 ⟨#[]⟩ := heap_alloc_new w (.cells #[.int .i64 0, .string ⟨#[]⟩, .int .i64 0, .int .i64 0] 84)
 obtain ⟨l, hl⟩ : ∃ l, (sl s).drop i0 = l := ⟨_, rfl⟩
 have hll : l.length + i0 = s.size := by rw [← hl, List.length_drop, sl_length]; omega
 have hget : ∀ k, (sl s).getD (i0 + k) 0 = l.getD k 0 := fun k => by rw [← hl, getD_drop]
 have hgx : ∀ (k : Nat) (h : i0 + k < s.size), (s[i0 + k]'h).toNat = l.getD k 0 := fun k h => by rw [← hget, slx_get s _ h]
 have hqle := runL_le iwL l
 rw [hl]
 have HS0 : Hid (RwS w ((w.alloc (.cells #[.int .i64 0, .string ⟨#[]⟩, .int .i64 0, .int .i64 0] 84)).alloc (.cells #[] 5)) l (.slice (some ⟨w.heap.size + 1, 0, none⟩) 0 0) 0) := Lib.hid
  ⟨⟨by
    have := World.ownsRow_made (w.alloc (.cells #[.int .i64 0, .string ⟨#[]⟩, .int .i64 0, .int .i64 0] 84)) #[] 0 (base := w.heap.size + 1) (e := 5) (size := 1) (by simp) (by decide) rfl
    simpa [bcells] using this, by simp⟩, Nat.zero_le _, b1.alloc (by simp) _, by simp, hnew.below ((Below.refl _ _).alloc (Nat.le_refl _) _)⟩
 have hc0 := hgx 0 hi
 have hc8 : l.getD 0 0 < 256 := by have := slx_lt s (i0 + 0); rw [hget] at this; exact this
 have hb0 : ltL (l.getD 0 0) = true := by rw [ltL_eq, ← hget]; exact hb
 have HL0 := Lib.hid (rletter_any (l.getD 0 0) (w.alloc (.cells #[.int .i64 0, .string ⟨#[]⟩, .int .i64 0, .int .i64 0] 84)) hc8)
 rw [hb0] at HL0
 have hc0 : (s[i0]'hi).toNat = l.getD 0 0 := hc0
 generalize l.getD 0 0 = c0 at *
 generalize hP : RTok (wrdE l) i0 w = P
 have HP := Lib.hid hP
 have HGX := Lib.hid hgx
 have HAT := Lib.hid (fun (k : Nat) (wx : World) => rat_any s (i0 + k) wx)
 have HGET := Lib.hid hget
 have HRA := Lib.hid (runL_at (f := iwL) (by rfl) l)
 have hwq : wrdE l = if runL iwL l > 32 then .error 122 else .ok (⟨1, (l.take (runL iwL l)).map lowL, 0, 0⟩, runL iwL l) := rfl
 clear hP hgx hl hget b1 hnew hb hb0
 generalize hq : runL iwL l = q at *
 have HQ := Lib.hid hq
 clear hq
 have HWQ := Lib.hid hwq
 clear hwq
 go_enter Tryz.func47, Tryz.ntmps47
 go_wp2_with fail
 try go_at_call 117
 refine HL0.out.mono ?_
 rintro e w' ⟨rfl, rfl⟩
 go_wp2_with fail
 go_loopw [1, 8] (fun i v wr => ∃ k, i = .int .i64 ((i0 + k : Nat) : Int) ∧ RwS w wr l v k) (fun i _ _ => i0 + l.length - (intOf i).toNat)
 case atStart => exact ⟨0, rfl, by simpa using HS0.out⟩
 case round =>
  obtain ⟨k, rfl, hs⟩ := hrel
  have HS := Lib.hid hs
  have hkl : k ≤ q := by have := hs.kl; rw [HQ.out] at this; exact this
  obtain ⟨⟨e0, e1, e2, e3⟩, f0, f1, f4, f3⟩ := hs.bx.cells
  have hra := HRA.out k hkl
  clear hs
  have HA := Lib.hid (HAT.out k wr)
  rw [HGET.out] at HA
  have hgx := HGX.out k
  have hc8 : l.getD k 0 < 256 := by have := slx_lt s (i0 + k); rw [HGET.out] at this; exact this
  have hsn := take_snoc l k
  generalize l.getD k 0 = c at *
  have HL := Lib.hid (rletter_any c wr hc8)
  have HD := Lib.hid (rdigit_any c wr hc8)
  have HM := Lib.hid (rsmall_any c hc8 wr)
  rw [ltL_eq] at HL
  rw [smI_low] at HM
  have hlow := low_lt hc8
  have hlow2 : lowL c = lowL c := rfl
  generalize hlc : lowL c = lc at *
  cases hv : iwL c with
  | true =>
   have hkq := hra.1 hv
   have hix : i0 + k < s.size := by omega
   have hsx := hgx hix
   have HSN := Lib.hid (hsn (by omega))
   have w7' : IntKind.i64.wrap ((i0 : Int) + (k : Int) + 1) = (i0 : Int) + (k : Int) + 1 := by rw [IntKind.wrap_i64]; omega
   have hll2 : ((l.take k).map lowL).length = k := by rw [List.length_map, List.length_take]; omega
   have HLC := Lib.hid hlc
   clear hra hgx hsn hlow2 hlc
   have hbd : bwL c = true ∨ (bwL c = false ∧ dgL c = true) := by
    unfold iwL at hv
    cases hbc : bwL c with
    | true => exact .inl rfl
    | false => rw [hbc] at hv; exact .inr ⟨rfl, hv⟩
   rcases hbd with h1 | ⟨h1, h2⟩
   ·rw [h1] at HL
    go_wp2_with (first | (go_at_call 118; refine HA.out.mono ?_; rintro e w' ⟨rfl, rfl⟩) | (go_at_call 117; refine HL.out.mono ?_; rintro e w' ⟨rfl, rfl⟩) | (go_at_call 119; refine HD.out.mono ?_; rintro e w' ⟨rfl, rfl⟩) | (go_at_call 120; refine HM.out.mono ?_; rintro e w' ⟨rfl, rfl⟩) | (at_builtin; refine wp_push rfl _ _ rfl (w.heap.size + 1) u8 ((l.take k).map lowL) rfl (HS.out.own.alloc _) ⟨wr.heap.size, 0, none⟩ 1 1 [lc] rfl rfl (news1' wr lc _ (by first | rfl | simp)) (by rw [hll2]; omega) (by have := HS.out.sz; simp; omega) ?_; intro v2 w2 own2 gr2; have HX2 := Lib.hid (And.intro own2 gr2); clear own2 gr2))
    have hb2 : Below w.heap.size w w2 := (HS.out.bel.alloc (by have := HS.out.sz; omega) _).grown HX2.out.2 (by have := HS.out.sz; simp; omega) (fun g hg => by have := (HS.out.own.lt g hg).1; omega)
    have bx2 := (HS.out.bx.below ((Below.refl _ _).alloc (Nat.le_refl _) (.cells #[.int .u8 (lc : Int)] 5))).grown HX2.out.2 (fun g hg => by have := (HS.out.own.lt g hg).1; omega)
    have hs2 := HX2.out.2.size
    have hs2' : w.heap.size + 1 ≤ w2.heap.size := by have := HS.out.sz; simp at hs2; omega
    refine ⟨⟨k + 1, by congr 1, ⟨?_, by rw [HQ.out]; exact hkq, hb2, hs2', bx2⟩⟩, by simp [intOf]; omega⟩
    rw [HSN.out, List.map_append]
    have := HX2.out.1
    rw [← HLC.out] at this
    exact this
   ·rw [h1] at HL
    rw [h2] at HD
    go_wp2_with (first | (go_at_call 118; refine HA.out.mono ?_; rintro e w' ⟨rfl, rfl⟩) | (go_at_call 117; refine HL.out.mono ?_; rintro e w' ⟨rfl, rfl⟩) | (go_at_call 119; refine HD.out.mono ?_; rintro e w' ⟨rfl, rfl⟩) | (go_at_call 120; refine HM.out.mono ?_; rintro e w' ⟨rfl, rfl⟩) | (at_builtin; refine wp_push rfl _ _ rfl (w.heap.size + 1) u8 ((l.take k).map lowL) rfl (HS.out.own.alloc _) ⟨wr.heap.size, 0, none⟩ 1 1 [lc] rfl rfl (news1' wr lc _ (by first | rfl | simp)) (by rw [hll2]; omega) (by have := HS.out.sz; simp; omega) ?_; intro v2 w2 own2 gr2; have HX2 := Lib.hid (And.intro own2 gr2); clear own2 gr2))
    have hb2 : Below w.heap.size w w2 := (HS.out.bel.alloc (by have := HS.out.sz; omega) _).grown HX2.out.2 (by have := HS.out.sz; simp; omega) (fun g hg => by have := (HS.out.own.lt g hg).1; omega)
    have bx2 := (HS.out.bx.below ((Below.refl _ _).alloc (Nat.le_refl _) (.cells #[.int .u8 (lc : Int)] 5))).grown HX2.out.2 (fun g hg => by have := (HS.out.own.lt g hg).1; omega)
    have hs2 := HX2.out.2.size
    have hs2' : w.heap.size + 1 ≤ w2.heap.size := by have := HS.out.sz; simp at hs2; omega
    refine ⟨⟨k + 1, by congr 1, ⟨?_, by rw [HQ.out]; exact hkq, hb2, hs2', bx2⟩⟩, by simp [intOf]; omega⟩
    rw [HSN.out, List.map_append]
    have := HX2.out.1
    rw [← HLC.out] at this
    exact this
  | false =>
   have hkq := hra.2 hv
   have hbd : bwL c = false ∧ dgL c = false := by
    unfold iwL at hv
    cases hbc : bwL c with
    | true => rw [hbc] at hv; cases hv
    | false => rw [hbc] at hv; exact ⟨rfl, hv⟩
   rw [hbd.1] at HL
   rw [hbd.2] at HD
   subst hkq
   have hll2 : ((l.take k).map lowL).length = k := by rw [List.length_map, List.length_take]; omega
   have hst := str_own HS.out.own
   obtain ⟨gv, capv, ev, _⟩ := HS.out.own.form
   rw [hll2] at ev
   subst ev
   have hP1 := HP.out
   rw [HWQ.out] at hP1
   have HSB := Lib.hid HS.out.bx
   have HBL := Lib.hid HS.out.bel
   obtain ⟨S, hS⟩ : ∃ S, strB ((l.take k).map lowL) = S := ⟨_, rfl⟩
   rw [hS] at hst
   clear hra hgx hsn HM hlow2 hbd
   by_cases c32 : k > 32
   ·have k32 : decide ((32 : Int) < (k : Int)) = true := by simp; omega
    rw [if_pos c32] at hP1
    have HX : Hid (∀ q : Int, P (.returned (.tuple #[Tkv 0 ⟨#[]⟩ 0 0, .int .i64 q, .int .i64 122])) ((((wr.setCell ⟨w.heap.size, 0, none⟩ (.int .i64 0)).setCell ⟨w.heap.size, 1, none⟩ (.string ⟨#[]⟩)).setCell ⟨w.heap.size, 2, none⟩ (.int .i64 0)).setCell ⟨w.heap.size, 3, none⟩ (.int .i64 0))) := Lib.hid (by
     intro q
     rw [← hP1]
     exact ⟨box4_below HBL.out (Nat.le_refl _) _ _ _ _, q, rfl⟩)
    clear hP1 hS hst HS hll2
    go_wp2_with (first | (go_at_call 118; refine HA.out.mono ?_; rintro e w' ⟨rfl, rfl⟩) | (go_at_call 117; refine HL.out.mono ?_; rintro e w' ⟨rfl, rfl⟩) | (go_at_call 119; refine HD.out.mono ?_; rintro e w' ⟨rfl, rfl⟩))
    exact rtok_ret Tryz.results47 (box_four HSB.out _ _ _ _) rfl rfl rfl rfl (HX.out _)
   ·have k32 : decide ((32 : Int) < (k : Int)) = false := by simp; omega
    rw [if_neg c32] at hP1
    have HX : Hid (P (.returned (.tuple #[Tkv 1 S 0 0, .int .i64 ((i0 : Int) + (k : Int)), .int .i64 0])) ((((wr.setCell ⟨w.heap.size, 0, none⟩ (.int .i64 1)).setCell ⟨w.heap.size, 1, none⟩ (.string S)).setCell ⟨w.heap.size, 2, none⟩ (.int .i64 0)).setCell ⟨w.heap.size, 3, none⟩ (.int .i64 0))) := Lib.hid (by
     rw [← hP1, ← hS]
     exact ⟨box4_below HBL.out (Nat.le_refl _) _ _ _ _, by congr 1⟩)
    clear hP1 hS HS hll2
    go_wp2_with (first | (go_at_call 118; refine HA.out.mono ?_; rintro e w' ⟨rfl, rfl⟩) | (go_at_call 117; refine HL.out.mono ?_; rintro e w' ⟨rfl, rfl⟩) | (go_at_call 119; refine HD.out.mono ?_; rintro e w' ⟨rfl, rfl⟩))
    exact rtok_ret Tryz.results47 (box_four HSB.out _ _ _ _) rfl rfl rfl rfl HX.out
end Go.Proofs.YtofnkfjhmjecjaaGreatDoor
