/-
  A token as it can be written (haspref12.Digits, Word): contracts over the translation.
  Conditions: none.
-/
import Derived.Test.YtlhipnklljjahaaDoorLx35
import Derived.Test.YtlhipnklljjahaaDoorLx28
import Derived.Laws.Strings3
namespace Go.Proofs.YtlhipnklljjahaaDoor
set_option maxRecDepth 100000
open Go.RowKit Go.Joins Go.ChangeShapes Go.WideShapes
set_option linter.unusedVariables false
set_option linter.unusedSimpArgs false

theorem strB_app (l r : List Nat) : strB l ++ strB r = strB (l ++ r) := by
  have h : (strB l ++ strB r).data.toList = (strB (l ++ r)).data.toList := by
    rw [ByteArray.data_append, Array.toList_append, strB_data, strB_data, strB_data, List.map_append]
  have h2 := Array.toList_inj.1 h
  cases hx : strB l ++ strB r with
  | mk d => cases hy : strB (l ++ r) with
    | mk e => rw [hx, hy] at h2; simp at h2; rw [h2]
theorem one_str (w : World) (x : Nat) (z : Int) (hz : z = (x : Int)) : (convert 27 9 (.slice (some ⟨w.heap.size, 0, none⟩) 1 1)).run Tryd.prog (w.alloc (.cells #[.int .u8 z] 5)) = .ok (.string (strB [x])) (w.alloc (.cells #[.int .u8 z] 5)) := by
  subst hz
  refine run_convert_bytes_arg (w.alloc (.cells #[.int .u8 (x : Int)] 5)) 27 5 Tryd.underlying27 Tryd.underlying5 w.heap.size 0 1 1 [(x : Int)] rfl (fun i hi => ?_) 9 Tryd.underlying9
  have : i = 0 := by omega
  subst this
  rw [cell_of_block (heap_alloc_new w _)]
  rfl
set_option maxHeartbeats 2000000 in
theorem rdigits_any (n : Nat) (hn : n ≤ 9223372036854775807) (w : World) : Calls Tryd.prog 13 #[.int .i64 (n : Int)] w fun e w' => e = .returned (.string (strB (digL n))) ∧ Below w.heap.size w w' := by
  obtain ⟨R, hR⟩ : ∃ R, strB (digL n) = R := ⟨_, rfl⟩
  rw [hR]
  have HR := Lib.hid hR
  have hln := digL_len 18 n (by omega)
  clear hR
  go_enter Tryd.func13, Tryd.ntmps13
  go_wp2_with fail
  go_loopw [0, 3] (fun v s wr => ∃ (m : Nat) (acc : List Nat), m ≤ 9223372036854775807 ∧ v = .int .i64 (m : Int) ∧ s = .string (strB acc) ∧ Hid (digL n = digL m ++ acc) ∧ Below w.heap.size w wr) (fun v _ _ => (intOf v).toNat)
  case atStart => exact ⟨n, [], hn, rfl, rfl, Lib.hid (by rw [List.append_nil]), Below.refl _ _⟩
  case round =>
    obtain ⟨m, acc, hm, rfl, rfl, HD, hb⟩ := hrel
    have HB := Lib.hid hb
    have hsw := hb.size
    clear hb
    have hal : (strB acc).size ≤ 19 := by
      have := congrArg List.length HD.out
      rw [List.length_append] at this
      rw [strB_len]
      omega
    by_cases h9 : m ≤ 9
    · have k9 : decide ((9 : Int) < (m : Int)) = false := by simp; omega
      have w1' : IntKind.i64.wrap (48 + (m : Int)) = 48 + (m : Int) := by rw [IntKind.wrap_i64]; omega
      have w2' : IntKind.u8.wrap (48 + (m : Int)) = 48 + (m : Int) := by rw [IntKind.wrap_u8]; omega
      have hone := one_str wr (48 + m) (48 + (m : Int)) (by omega)
      have hap : strB [48 + m] ++ strB acc = R := by rw [strB_app, ← HR.out, HD.out, digL_small h9]
      have HB2 := Lib.hid (HB.out.alloc hsw (.cells #[.int .u8 (48 + (m : Int))] 5))
      have hA1 : (strB [48 + m]).size = 1 := strB_len _
      have hns : ¬ 9223372036854775807 < (strB [48 + m]).size + (strB acc).size := by omega
      clear hA1 hal
      generalize strB [48 + m] = A at *
      generalize strB acc = C at *
      go_wp2_with fail
      go_ret
      exact ⟨by rw [← hap]; rfl, HB2.out⟩
    · have k9 : decide ((9 : Int) < (m : Int)) = true := by simp; omega
      have hone := one_str wr (48 + m % 10) (48 + (m : Int) % 10) (by omega)
      have hap : strB [48 + m % 10] ++ strB acc = strB ((48 + m % 10) :: acc) := strB_app _ _
      have HDD := Lib.hid (show digL n = digL (m / 10) ++ ((48 + m % 10) :: acc) by rw [HD.out, digL_big h9, List.append_assoc]; rfl)
      have HB2 := Lib.hid (HB.out.alloc hsw (.cells #[.int .u8 (48 + (m : Int) % 10)] 5))
      have hA1 : (strB [48 + m % 10]).size = 1 := strB_len _
      have hns : ¬ 9223372036854775807 < (strB [48 + m % 10]).size + (strB acc).size := by omega
      clear hA1 hal
      obtain ⟨A, hA⟩ : ∃ A, strB [48 + m % 10] = A := ⟨_, rfl⟩
      obtain ⟨C, hC⟩ : ∃ C, strB acc = C := ⟨_, rfl⟩
      rw [hA] at hone hap hns
      rw [hC] at hap hns ⊢
      clear hA hC
      go_wp2_with fail
      exact ⟨⟨m / 10, (48 + m % 10) :: acc, by omega, by congr 1, rfl, HDD, HB2.out⟩, by simp [intOf]; omega⟩

theorem slice_to (s : ByteArray) (n : Nat) (h : n ≤ s.size) (hi : Int) (hh : hi = (n : Int)) (w : World) :
    (Instr.slice 9 (.string s) none (some (.int .i64 hi)) none).run Tryd.prog w = .ok (.string (strB ((sl s).take n))) w := by
  subst hh
  rw [run_slice_string_to_if (P := Tryd.prog) (w := w) 9 s .i64 (n : Int) Tryd.underlying9, if_pos ⟨by omega, by omega⟩]
  have e := ext_strB s 0 n (by omega)
  rw [Nat.zero_add, List.drop_zero] at e
  rw [← e]
  rfl
theorem slice_from (s : ByteArray) (n : Nat) (h : n ≤ s.size) (lo : Int) (hl : lo = (n : Int)) (w : World) :
    (Instr.slice 9 (.string s) (some (.int .i64 lo)) none none).run Tryd.prog w = .ok (.string (strB ((sl s).drop n))) w := by
  subst hl
  rw [run_slice_string_from_if (P := Tryd.prog) (w := w) 9 s .i64 (n : Int) Tryd.underlying9, if_pos ⟨by omega, by omega⟩]
  have e := ext_strB s n (s.size - n) (by omega)
  rw [show n + (s.size - n) = s.size by omega, List.take_of_length_le (by rw [List.length_drop, sl_length]; exact Nat.le_refl _)] at e
  rw [← e]
  rfl
/-- how the loop of a text that is written stands -/
structure WdS (w wr : World) (T : List Nat) (v : Value) (acc : List Nat) (k : Nat) (kd nn ss : Int) (S : ByteArray) : Prop where
  own : OwB wr (w.heap.size + 1) v acc
  kl : k ≤ T.length
  eq : acc = 39 :: escL (T.take k)
  al : acc.length ≤ 2 * k + 1
  bel : Below w.heap.size w wr
  sz : w.heap.size + 1 ≤ wr.heap.size
  bx : TBox wr w.heap.size kd nn ss S
theorem escL_snoc (l : List Nat) (c : Nat) : escL (l ++ [c]) = escL l ++ (if c = 39 then [39, 39] else [c]) := by
  induction l with
  | nil =>
    show (if c = 39 then 39 :: 39 :: escL [] else c :: escL []) = _
    split <;> rfl
  | cons d r ih =>
    show (if d = 39 then 39 :: 39 :: escL (r ++ [c]) else d :: escL (r ++ [c])) = (if d = 39 then 39 :: 39 :: escL r else d :: escL r) ++ _
    rw [ih]
    split <;> rfl
set_option maxHeartbeats 4000000 in
theorem rwd_any (t : Tk) (ht : TkR t) (w : World) : Calls Tryd.prog 6 #[Tkv t.kind (strB t.text) t.num t.scale] w fun e w' => e = .returned (.string (strB (wordT t))) ∧ Below w.heap.size w w' := by
  obtain ⟨h5, hnum, hsc, htl, htb⟩ := ht
  obtain ⟨W1, hW1⟩ : ∃ W1, w.alloc (.cells #[.int .i64 (t.kind : Int), .string (strB t.text), .int .i64 (t.num : Int), .int .i64 (t.scale : Int)] 29) = W1 := ⟨_, rfl⟩
  have b1 : Below w.heap.size w W1 := by rw [← hW1]; exact (Below.refl _ _).alloc (Nat.le_refl _) _
  have n1 : TBox W1 w.heap.size (t.kind : Int) (t.num : Int) (t.scale : Int) (strB t.text) := by rw [← hW1]; exact heap_alloc_new w (.cells #[.int .i64 (t.kind : Int), .string (strB t.text), .int .i64 (t.num : Int), .int .i64 (t.scale : Int)] 29)
  obtain ⟨⟨c0, c1, c2, c3⟩, f0, f1, f2, f3⟩ := n1.cells
  have HB1 := Lib.hid (And.intro b1 n1)
  clear b1 n1
  have HD := Lib.hid (rdigits_any t.num hnum W1)
  unfold Tkv
  by_cases k2 : t.kind = 2
  · have hw : wordT t = digL t.num := by unfold wordT; rw [if_pos k2]
    rw [hw]
    have q2 : ((t.kind : Int) == 2) = true := by rw [k2]; rfl
    clear k2
    go_enter Tryd.func6, Tryd.ntmps6
    go_wp2_with fail
    try go_at_call 13
    refine HD.out.mono ?_
    rintro e w2 ⟨rfl, b2⟩
    have HB2 := Lib.hid (HB1.out.1.trans (b2.mono HB1.out.1.size))
    clear b2
    go_wp2_with fail
    go_ret
    exact ⟨rfl, HB2.out⟩
  · have q2 : ((t.kind : Int) == 2) = false := beq_eq_false_iff_ne.2 (by omega)
    by_cases k3 : t.kind = 3
    · have q3 : ((t.kind : Int) == 3) = true := by rw [k3]; rfl
      obtain ⟨n, hn⟩ : ∃ n, t.num = n := ⟨_, rfl⟩
      obtain ⟨sc, hs⟩ : ∃ sc, t.scale = sc := ⟨_, rfl⟩
      have hw : wordT t = (padL n sc).take ((padL n sc).length - sc) ++ 46 :: (padL n sc).drop ((padL n sc).length - sc) := by unfold wordT; rw [if_neg k2, if_pos k3, hn, hs]
      rw [hw]
      have hd19 := digL_len 18 n (by omega)
      rw [hn] at HD c2 hnum
      rw [hs] at c3 hsc
      have HW1 : W1 = W1 := rfl
      obtain ⟨kd, hkd⟩ : ∃ kd : Int, (t.kind : Int) = kd := ⟨_, rfl⟩
      rw [hkd] at q2 q3 c0
      rw [hn, hs, hkd] at hW1 ⊢
      have HBB := HB1
      rw [hn, hs, hkd] at HB1
      clear hw hn hs k3 k2 hkd HBB HW1
      go_enter Tryd.func6, Tryd.ntmps6
      go_wp2_with fail
      try go_at_call 13
      refine HD.out.mono ?_
      rintro e w2 ⟨rfl, b2⟩
      have c3' : w2.cell? ⟨w.heap.size, 3, none⟩ = some (.int .i64 (sc : Int)) := (b2.cell (p := ⟨w.heap.size, 3, none⟩) HB1.out.2.lt).trans c3
      have HB2 := Lib.hid (HB1.out.1.trans (b2.mono HB1.out.1.size))
      clear b2 c0 c1 c2 c3 f0 f1 f2 f3 hW1
      go_wp2_with fail
      go_loopw [3] (fun v wr => ∃ j : Nat, v = .string (strB (List.replicate j 48 ++ digL n)) ∧ (j = 0 ∨ j + (digL n).length ≤ sc + 1) ∧ w2 = wr) (fun v _ => sc + 20 - (match v with | .string s => s.size | _ => 0))
      case atStart => exact ⟨0, rfl, .inl rfl, by trivial⟩
      case round =>
        obtain ⟨j, rfl, hj, rfl⟩ := hrel
        have hl : (List.replicate j 48 ++ digL n).length = j + (digL n).length := by rw [List.length_append, List.length_replicate]
        have hsz : (strB (List.replicate j 48 ++ digL n)).size = j + (digL n).length := by rw [strB_len, hl]
        by_cases hle : j + (digL n).length ≤ sc
        · have hap : (⟨#[48]⟩ : ByteArray) ++ strB (List.replicate j 48 ++ digL n) = strB (List.replicate (j + 1) 48 ++ digL n) := by
            rw [show (⟨#[48]⟩ : ByteArray) = strB [48] from rfl, strB_app]
            rfl
          have hsz2 : (strB (List.replicate (j + 1) 48 ++ digL n)).size = j + 1 + (digL n).length := by rw [strB_len, List.length_append, List.length_replicate]
          have HZ2 := Lib.hid hsz2
          have HZ := Lib.hid hsz
          have hle2 : (((strB (List.replicate j 48 ++ digL n)).size : Nat) : Int) ≤ (sc : Int) := by rw [hsz]; omega
          have hns : ¬ 9223372036854775807 < (⟨#[48]⟩ : ByteArray).size + (strB (List.replicate j 48 ++ digL n)).size := by
            have : (⟨#[48]⟩ : ByteArray).size = 1 := rfl
            omega
          clear hsz hsz2
          obtain ⟨A, hA⟩ : ∃ A, strB (List.replicate j 48 ++ digL n) = A := ⟨_, rfl⟩
          rw [hA] at hap hle2 hns HZ ⊢
          have HA := Lib.hid hA
          clear hA hl
          go_wp2_with fail
          exact ⟨⟨j + 1, rfl, .inr (by omega), by trivial⟩, by show sc + 20 - (strB _).size < sc + 20 - A.size; rw [HZ2.out, HZ.out]; omega⟩
        · have hpad : List.replicate j 48 ++ digL n = padL n sc := by
            unfold padL
            rw [show sc + 1 - (digL n).length = j by omega]
          have hgt : ¬ ((((strB (List.replicate j 48 ++ digL n)).size : Nat) : Int) ≤ (sc : Int)) := by rw [hsz]; omega
          have hpl : (padL n sc).length = j + (digL n).length := by rw [← hpad]; exact hl
          have hpb : ∀ x ∈ padL n sc, x < 256 := fun x hx => by
            rw [← hpad] at hx
            rcases List.mem_append.1 hx with g | g
            · rw [List.eq_of_mem_replicate g]; decide
            · have := (dg_iff x).1 (digL_dg n x g); omega
          rw [hpad] at hsz hgt ⊢
          have hsl := sl_strB hpb
          obtain ⟨q, hq⟩ : ∃ q, (padL n sc).length - sc = q := ⟨_, rfl⟩
          have w1' : IntKind.i64.wrap (((strB (padL n sc)).size : Int) - (sc : Int)) = (q : Int) := by rw [IntKind.wrap_i64, hsz]; omega
          have hst := fun wx : World => slice_to (strB (padL n sc)) q (by omega) (q : Int) rfl wx
          have hsf := fun wx : World => slice_from (strB (padL n sc)) q (by omega) (q : Int) rfl wx
          rw [hsl] at hst hsf
          have hz1 : (strB ((padL n sc).take q)).size ≤ 40 := by rw [strB_len, List.length_take]; omega
          have hz2 : (strB ((padL n sc).drop q)).size ≤ 40 := by rw [strB_len, List.length_drop]; omega
          have hn1 : ¬ 9223372036854775807 < (strB ((padL n sc).take q)).size + (⟨#[46]⟩ : ByteArray).size := by
            have : (⟨#[46]⟩ : ByteArray).size = 1 := rfl
            omega
          have hn2 : ¬ 9223372036854775807 < (strB ((padL n sc).take q) ++ (⟨#[46]⟩ : ByteArray)).size + (strB ((padL n sc).drop q)).size := by
            rw [ByteArray.size_append]
            have : (⟨#[46]⟩ : ByteArray).size = 1 := rfl
            omega
          have hfin : strB ((padL n sc).take q) ++ (⟨#[46]⟩ : ByteArray) ++ strB ((padL n sc).drop q) = strB ((padL n sc).take ((padL n sc).length - sc) ++ 46 :: (padL n sc).drop ((padL n sc).length - sc)) := by
            rw [hq, show (⟨#[46]⟩ : ByteArray) = strB [46] from rfl, strB_app, strB_app, List.append_assoc]
            rfl
          have HF := Lib.hid hfin
          clear hfin hpad hpl hpb hsl hq hl hz1 hz2 hsz hj
          generalize strB ((padL n sc).take q) = A at *
          generalize strB ((padL n sc).drop q) = C at *
          generalize strB (padL n sc) = D at *
          go_wp2_with fail
          go_quiet (fail)
          go_wp2_with fail
          go_ret
          exact ⟨by rw [← HF.out]; rfl, HB2.out.trans ⟨rfl, rfl, rfl, Nat.le_refl _, fun _ _ => rfl⟩⟩
    · have q3 : ((t.kind : Int) == 3) = false := beq_eq_false_iff_ne.2 (by omega)
      by_cases k4 : t.kind = 4
      · have q4 : ((t.kind : Int) == 4) = true := by rw [k4]; rfl
        have hw : wordT t = 39 :: (escL t.text ++ [39]) := by unfold wordT; rw [if_neg k2, if_neg k3, if_pos k4]
        rw [hw]
        obtain ⟨T, hT⟩ : ∃ T, t.text = T := ⟨_, rfl⟩
        obtain ⟨kd, hkd⟩ : ∃ kd : Int, (t.kind : Int) = kd := ⟨_, rfl⟩
        obtain ⟨nn, hnn⟩ : ∃ nn : Int, (t.num : Int) = nn := ⟨_, rfl⟩
        obtain ⟨ss, hss⟩ : ∃ ss : Int, (t.scale : Int) = ss := ⟨_, rfl⟩
        rw [hT] at c1 htl htb
        rw [hkd] at q2 q3 q4 c0
        rw [hT, hkd, hnn, hss] at HB1 hW1 ⊢
        clear hw hT hkd hnn hss k2 k3 k4 HD
        have hTl : (strB T).size = T.length := strB_len T
        have hgx : ∀ (k : Nat) (h : k < (strB T).size), ((strB T)[k]'h).toNat = T.getD k 0 := fun k h => by rw [← slx_get _ _ h, sl_strB htb]
        have HGX := Lib.hid hgx
        have HTL := Lib.hid hTl
        have htb' : ∀ k, T.getD k 0 < 256 := fun k => by
          by_cases hk : k < T.length
          · rw [List.getD_eq_getElem?_getD, List.getElem?_eq_getElem hk]; exact htb _ (List.getElem_mem hk)
          · rw [getD_out T k hk]; decide
        generalize hS : strB T = S at *
        have hown0 : OwB (W1.alloc (.cells #[.int .u8 39] 5)) (w.heap.size + 1) (.slice (some ⟨W1.heap.size, 0, none⟩) 1 1) [39] :=
          ⟨⟨rfl, .inr ⟨W1.heap.size, 1, #[.int .u8 39], rfl, HB1.out.2.lt, heap_alloc_new W1 (.cells #[.int .u8 39] 5), Nat.le_refl _, by decide, rfl, rfl⟩⟩, by simp⟩
        have HS0 : Hid (WdS w (W1.alloc (.cells #[.int .u8 39] 5)) T (.slice (some ⟨W1.heap.size, 0, none⟩) 1 1) [39] 0 kd nn ss S) := Lib.hid ⟨hown0, Nat.zero_le _, by simp [escL], by simp, HB1.out.1.alloc HB1.out.1.size _, by have := HB1.out.2.lt; simp; omega, HB1.out.2.below ((Below.refl _ _).alloc (Nat.le_refl _) _)⟩
        clear hown0 hTl hgx c0 c1 c2 c3 f0 f1 f2 f3
        obtain ⟨⟨c0, c1, c2, c3⟩, f0, f1, f2, f3⟩ := HB1.out.2.cells
        go_enter Tryd.func6, Tryd.ntmps6
        go_wp2_with fail
        go_loopw [4, 5] (fun v i wr => ∃ (k : Nat) (acc : List Nat), i = .int .i64 (k : Int) ∧ WdS w wr T v acc k kd nn ss S) (fun _ i _ => T.length - (intOf i).toNat)
        case atStart => exact ⟨0, [39], rfl, HS0.out⟩
        case round =>
          obtain ⟨k, acc, rfl, hs⟩ := hrel
          have HS := Lib.hid hs
          have hkl := hs.kl
          obtain ⟨⟨x0, x1, x2, x3⟩, y0, y1, y2, y3⟩ := hs.bx.cells
          clear hs c0 c1 c2 c3 f0 f1 f2 f3
          by_cases hk : k < T.length
          · have hkS : k < S.size := by rw [HTL.out]; exact hk
            have hki : (k : Int) < (S.size : Int) := by omega
            have hsx := HGX.out k hkS
            have hc8 := htb' k
            have hsn := take_snoc T k hk
            generalize T.getD k 0 = c at *
            have HSN := Lib.hid hsn
            have w5' : IntKind.i64.wrap ((k : Int) + 1) = (k : Int) + 1 := by rw [IntKind.wrap_i64]; omega
            clear hsn
            by_cases h39 : c = 39
            · subst h39
              go_wp2_with (first | (at_builtin; refine wp_push rfl _ _ rfl (w.heap.size + 1) u4 acc rfl (HS.out.own.alloc _) ⟨wr.heap.size, 0, none⟩ 1 1 [39] rfl rfl (news1' wr 39 _ (by first | rfl | simp)) (by have := HS.out.al; omega) (by have := HS.out.sz; simp; omega) ?_; intro v2 w2 own2 gr2; have HX2 := Lib.hid (And.intro own2 gr2); have HX3 := Lib.hid (And.intro ((HS.out.bel.alloc (by have := HS.out.sz; omega) (.cells #[.int .u8 (39 : Int)] 5)).grown gr2 (by have := HS.out.sz; simp; omega) (fun g hg => by have := (HS.out.own.lt g hg).1; omega)) ((HS.out.bx.below ((Below.refl _ _).alloc (Nat.le_refl _) (.cells #[.int .u8 (39 : Int)] 5))).grown gr2 (fun g hg => by have := (HS.out.own.lt g hg).1; omega))); have hs2 : w.heap.size + 1 ≤ w2.heap.size := (by have h1 := gr2.size; have h2 := HS.out.sz; simp at h1; omega); obtain ⟨⟨z0, z1, z2, z3⟩, _⟩ := HX3.out.2.cells; clear own2 gr2) | (at_builtin; refine wp_push rfl _ _ rfl (w.heap.size + 1) v2 (acc ++ [39]) rfl (HX2.out.1.alloc _) ⟨w2.heap.size, 0, none⟩ 1 1 [39] rfl rfl (news1' w2 39 _ (by first | rfl | simp)) (by have := HS.out.al; simp; omega) (by simp; omega) ?_; intro v5 w5 own5 gr5; have HX5 := Lib.hid (And.intro own5 gr5); clear own5 gr5))
              have hs5 := HX5.out.2.size
              refine ⟨⟨k + 1, acc ++ [39] ++ [39], by congr 1, ⟨HX5.out.1, by omega, ?_, by have := HS.out.al; simp; omega, ?_, by simp at hs5; omega, ?_⟩⟩, by simp [intOf]; omega⟩
              · rw [HSN.out, escL_snoc, if_pos rfl, HS.out.eq]; simp
              · exact (HX3.out.1.alloc (by omega) _).grown HX5.out.2 (by simp; omega) (fun g hg => by have := (HX2.out.1.lt g hg).1; omega)
              · exact (HX3.out.2.below ((Below.refl _ _).alloc (Nat.le_refl _) _)).grown HX5.out.2 (fun g hg => by have := (HX2.out.1.lt g hg).1; omega)
            · have q39 : ((c : Int) == 39) = false := beq_eq_false_iff_ne.2 (by omega)
              go_wp2_with (first | (at_builtin; refine wp_push rfl _ _ rfl (w.heap.size + 1) u4 acc rfl (HS.out.own.alloc _) ⟨wr.heap.size, 0, none⟩ 1 1 [c] rfl rfl (news1' wr c _ (by first | rfl | simp)) (by have := HS.out.al; omega) (by have := HS.out.sz; simp; omega) ?_; intro v2 w2 own2 gr2; have HX2 := Lib.hid (And.intro own2 gr2); have HX3 := Lib.hid (And.intro ((HS.out.bel.alloc (by have := HS.out.sz; omega) (.cells #[.int .u8 (c : Int)] 5)).grown gr2 (by have := HS.out.sz; simp; omega) (fun g hg => by have := (HS.out.own.lt g hg).1; omega)) ((HS.out.bx.below ((Below.refl _ _).alloc (Nat.le_refl _) (.cells #[.int .u8 (c : Int)] 5))).grown gr2 (fun g hg => by have := (HS.out.own.lt g hg).1; omega))); have hs2 : w.heap.size + 1 ≤ w2.heap.size := (by have h1 := gr2.size; have h2 := HS.out.sz; simp at h1; omega); obtain ⟨⟨z0, z1, z2, z3⟩, _⟩ := HX3.out.2.cells; clear own2 gr2))
              refine ⟨⟨k + 1, acc ++ [c], by congr 1, ⟨HX2.out.1, by omega, ?_, by have := HS.out.al; simp; omega, HX3.out.1, hs2, HX3.out.2⟩⟩, by simp [intOf]; omega⟩
              rw [HSN.out, escL_snoc, if_neg h39, HS.out.eq]; simp
          · have hki : decide ((k : Int) < (S.size : Int)) = false := by rw [HTL.out]; simp; omega
            have hki2 : decide (k < S.size) = false := by rw [HTL.out]; simp; omega
            have hki3 : ¬ k < S.size := by rw [HTL.out]; omega
            have hki4 : ¬ (k : Int) < (S.size : Int) := by rw [HTL.out]; omega
            have heq := HS.out.eq
            rw [List.take_of_length_le (by omega)] at heq
            have HEQ := Lib.hid heq
            clear heq
            go_wp2_with (first | (at_builtin; refine wp_push rfl _ _ rfl (w.heap.size + 1) u4 acc rfl (HS.out.own.alloc _) ⟨wr.heap.size, 0, none⟩ 1 1 [39] rfl rfl (news1' wr 39 _ (by first | rfl | simp)) (by have := HS.out.al; omega) (by have := HS.out.sz; simp; omega) ?_; intro v2 w2 own2 gr2; have HX2 := Lib.hid (And.intro own2 ((HS.out.bel.alloc (by have := HS.out.sz; omega) (.cells #[.int .u8 (39 : Int)] 5)).grown gr2 (by have := HS.out.sz; simp; omega) (fun g hg => by have := (HS.out.own.lt g hg).1; omega))); have hstr := str_own own2; clear own2 gr2))
            go_ret
            exact ⟨by rw [HEQ.out]; rfl, HX2.out.2⟩
      · have q4 : ((t.kind : Int) == 4) = false := beq_eq_false_iff_ne.2 (by omega)
        have hw : wordT t = t.text := by unfold wordT; rw [if_neg k2, if_neg k3, if_neg k4]
        rw [hw]
        generalize strB t.text = S at *
        go_enter Tryd.func6, Tryd.ntmps6
        go_wp2_with fail
        go_ret
        exact ⟨rfl, HB1.out.1⟩

end Go.Proofs.YtlhipnklljjahaaDoor
