/-
  Package rows over the translation: Decode.
  Conditions: the columns and the bytes lie in memory.
-/
import Derived.Test.YtpknoclnmhomiabRs5
import Derived.OwnWalk
namespace Go.Proofs.Ytpknoclnmhomiab
open Go.RowKit Go.Joins Go.ChangeShapes Go.WideShapes
set_option linter.unusedVariables false

theorem sl_lo (A : Option Addr) (n C q : Nat) (hq : q ≤ C) (w : World) :
    (Instr.slice 27 (.slice A n C) none (some (.int .i64 (q : Int))) none).run Try.prog w = .ok (.slice (if C = 0 then A else A.map (·.add 0)) q C) w := by
  have hs : (sizeOf (Try.prog.elem 27)).run Try.prog w = .ok 1 w := by first | rfl | kernel_rfl
  rw [run_slice_h w 27 A n C (by kernel_rfl) .i64 (q : Int) (by omega) (by omega), hs]
  simp only [Result.andThen, sliced, Nat.zero_mul]
  simp
theorem sl_hi (A : Option Addr) (n C q : Nat) (hq : q ≤ n) (w : World) :
    (Instr.slice 27 (.slice A n C) (some (.int .i64 (q : Int))) none none).run Try.prog w = .ok (.slice (if C = q then A else A.map (·.add q)) (n - q) (C - q)) w := by
  have hs : (sizeOf (Try.prog.elem 27)).run Try.prog w = .ok 1 w := by first | rfl | kernel_rfl
  rw [run_slice_l w 27 A n C (by kernel_rfl) .i64 (q : Int) (by omega) (by omega), hs]
  simp only [Result.andThen, sliced, Int.toNat_natCast, Nat.mul_one]
theorem add_off (b off q : Nat) : (⟨b, off, none⟩ : Addr).add q = ⟨b, off + q, none⟩ := by unfold Addr.add; split <;> simp_all
theorem bitN_take (l : List Nat) (q i : Nat) (h : i / 8 < q) : bitN (l.take q) i = bitN l i := by
  unfold bitN
  rw [List.getD_eq_getElem?_getD, List.getD_eq_getElem?_getD, List.getElem?_take, if_pos h]

theorem vlcells_set (l : List Vt) (i : Nat) (h : i < l.length) (k n : Int) (s : ByteArray) :
    (((vlcells l).set (i * 3) (.int .i64 k)).set (i * 3 + 1) (.int .i64 n)).set (i * 3 + 2) (.string s) = vlcells (l.set i (k, n, s)) := by
  induction l generalizing i with
  | nil => simp at h
  | cons v l ih =>
    cases i with
    | zero => rfl
    | succ i =>
      have := ih i (by simpa using h)
      rw [show (i + 1) * 3 = i * 3 + 3 by omega]
      show Value.int .i64 v.1 :: .int .i64 v.2.1 :: .string v.2.2 :: (((vlcells l).set (i * 3) (.int .i64 k)).set (i * 3 + 1) (.int .i64 n)).set (i * 3 + 2) (.string s) = _
      rw [this]
      rfl
theorem set_next (acc : List Vt) (r : Nat) (v z : Vt) : (acc ++ List.replicate (r + 1) z).set acc.length v = (acc ++ [v]) ++ List.replicate r z := by
  rw [List.set_append_right _ _ (Nat.le_refl _), Nat.sub_self, List.append_assoc]
  rfl

/-- a row that is being read -/
structure Dr (W wr : World) (g m : Nat) (acc : List Vt) : Prop where
  own : wr.ownsRow W.heap.size 43 3 (.slice (some ⟨g, 0, none⟩) m m) m (vlcells (acc ++ List.replicate (m - acc.length) (0, 0, Em)))
  bel : Below W.heap.size W wr
  sz : W.heap.size ≤ wr.heap.size
theorem Dr.step {W wr w1 : World} {g m : Nat} {acc : List Vt} (h : Dr W wr g m acc) (hb : Below wr.heap.size wr w1) : Dr W w1 g m acc := ⟨rowBelow h.own hb, h.bel.trans (hb.mono h.sz), Nat.le_trans h.sz hb.size⟩
theorem Dr.cells {W wr : World} {g m : Nat} {acc : List Vt} (h : Dr W wr g m acc) (hk : acc.length < m) : (∃ v0, wr.cell? ⟨g, acc.length * 3, none⟩ = some v0) ∧ (∃ v1, wr.cell? ⟨g, acc.length * 3 + 1, none⟩ = some v1) ∧ (∃ v2, wr.cell? ⟨g, acc.length * 3 + 2, none⟩ = some v2) ∧
    wr.frozen? ⟨g, acc.length * 3, none⟩ = false ∧ wr.frozen? ⟨g, acc.length * 3 + 1, none⟩ = false ∧ wr.frozen? ⟨g, acc.length * 3 + 2, none⟩ = false := by
  have hl := h.own.1
  have q0 := h.own.cellAt (acc.length * 3) (by omega)
  have q1 := h.own.cellAt (acc.length * 3 + 1) (by omega)
  have q2 := h.own.cellAt (acc.length * 3 + 2) (by omega)
  rw [List.getElem?_eq_getElem (by omega)] at q0 q1 q2
  exact ⟨⟨_, q0⟩, ⟨_, q1⟩, ⟨_, q2⟩, h.own.frozenAt _, h.own.frozenAt _, h.own.frozenAt _⟩
theorem Dr.set {W wr : World} {g m : Nat} {acc : List Vt} (h : Dr W wr g m acc) (hk : acc.length < m) (k n : Int) (s : ByteArray) :
    Dr W (((wr.setCell ⟨g, acc.length * 3, none⟩ (.int .i64 k)).setCell ⟨g, acc.length * 3 + 1, none⟩ (.int .i64 n)).setCell ⟨g, acc.length * 3 + 2, none⟩ (.string s)) g m (acc ++ [(k, n, s)]) := by
  have hg : W.heap.size ≤ g := (h.own.lt g rfl).1
  have hs0 := h.own.stored (acc.length * 3) (.int .i64 k)
  have hs1 := hs0.1.stored (acc.length * 3 + 1) (.int .i64 n)
  have hs2 := hs1.1.stored (acc.length * 3 + 2) (.string s)
  refine ⟨?_, ((h.bel.setCell (p := ⟨g, _, none⟩) hg _).setCell (p := ⟨g, _, none⟩) hg _).setCell (p := ⟨g, _, none⟩) hg _, by simpa [World.setCell] using h.sz⟩
  have e := hs2.1
  rw [vlcells_set _ _ (by simp; omega)] at e
  rw [show m - acc.length = (m - (acc ++ [(k, n, s)]).length) + 1 by simp; omega, set_next] at e
  exact e
theorem Dr.cells' {W wr : World} {g m k : Nat} {acc : List Vt} (h : Dr W wr g m acc) (hal : acc.length = k) (hk : k < m) : (∃ v0, wr.cell? ⟨g, k * 3, none⟩ = some v0) ∧ (∃ v1, wr.cell? ⟨g, k * 3 + 1, none⟩ = some v1) ∧ (∃ v2, wr.cell? ⟨g, k * 3 + 2, none⟩ = some v2) ∧
    wr.frozen? ⟨g, k * 3, none⟩ = false ∧ wr.frozen? ⟨g, k * 3 + 1, none⟩ = false ∧ wr.frozen? ⟨g, k * 3 + 2, none⟩ = false := by
  subst hal
  exact h.cells hk
theorem Dr.set' {W wr : World} {g m i : Nat} {acc : List Vt} (h : Dr W wr g m acc) (hal : acc.length = i) (hk : i < m) (k n : Int) (s : ByteArray) :
    Dr W (((wr.setCell ⟨g, i * 3, none⟩ (.int .i64 k)).setCell ⟨g, i * 3 + 1, none⟩ (.int .i64 n)).setCell ⟨g, i * 3 + 2, none⟩ (.string s)) g m (acc ++ [(k, n, s)]) := by
  subst hal
  exact h.set hk k n s
theorem Dr.owV {W wr : World} {g m : Nat} {acc : List Vt} (h : Dr W wr g m acc) (hk : acc.length = m) : OutV wr W.heap.size (.slice (some ⟨g, 0, none⟩) m m) acc := by
  have := h.own
  rw [hk, Nat.sub_self, List.replicate_zero, List.append_nil] at this
  right
  refine ⟨?_, by simp⟩
  rw [hk]
  exact this
theorem zerosV (m : Nat) : (madeCells (Value.agg #[.int .i64 0, .int .i64 0, .string ⟨#[]⟩]).cells (m * 3)).toList = vlcells ([] ++ List.replicate (m - ([] : List Vt).length) (0, 0, Em)) := by
  show _ = vlcells (List.replicate m (0, 0, Em))
  have hat : ∀ m i, i < m * 3 → (vlcells (List.replicate m (0, 0, Em)))[i]? = some ((#[Value.int .i64 0, .int .i64 0, .string ⟨#[]⟩] : Array Value)[i % 3]!) := by
    intro m
    induction m with
    | zero => intro i h; omega
    | succ m ih =>
      intro i h
      rw [List.replicate_succ]
      show (Value.int .i64 0 :: .int .i64 0 :: .string Em :: vlcells (List.replicate m (0, 0, Em)))[i]? = _
      match i with
      | 0 => rfl
      | 1 => rfl
      | 2 => rfl
      | i + 3 =>
        rw [List.getElem?_cons_succ, List.getElem?_cons_succ, List.getElem?_cons_succ, ih i (by omega), Nat.add_mod_right]
  apply List.ext_getElem?
  intro i
  by_cases h : i < m * 3
  · rw [hat m i h, List.getElem?_eq_getElem (by simp [madeCells]; exact h)]
    simp [madeCells]
    rw [show (Value.agg #[Value.int IntKind.i64 0, Value.int IntKind.i64 0, Value.string { data := #[] }]).cells.size = 3 from rfl]
    have h3 : i % 3 = 0 ∨ i % 3 = 1 ∨ i % 3 = 2 := by omega
    rcases h3 with e | e | e <;> rw [e] <;> rfl
  · rw [List.getElem?_eq_none (by simp [madeCells]; omega), List.getElem?_eq_none (by rw [vlcells_length]; simp; omega)]

theorem rdecF_step (tf : Nat → Int) (qf : Nat → Bool) (l : List Nat) (r k p : Nat) (hp : p ≤ l.length) :
    rdecF tf qf l (r + 1) k p = if (rdX (tf k) (qf k) (bitN l k) (l.drop p)).1 = 0 then rcons (rdX (tf k) (qf k) (bitN l k) (l.drop p)).2.1 (rdecF tf qf l r (k + 1) (p + (rdX (tf k) (qf k) (bitN l k) (l.drop p)).2.2)) else ([], (rdX (tf k) (qf k) (bitN l k) (l.drop p)).1) := by
  have h0 := rone_0 (tf k) l p hp
  show (if bitN l k = true then (if qf k = true then ([], 60) else rcons (0, 0, Em) (rdecF tf qf l r (k + 1) p)) else
    if (rone (tf k) l p).1 = 0 then rcons (rone (tf k) l p).2.1 (rdecF tf qf l r (k + 1) (rone (tf k) l p).2.2) else ([], (rone (tf k) l p).1)) = _
  unfold rdX
  by_cases c : bitN l k = true
  · rw [if_pos c]
    simp only [c, if_true]
    by_cases q : qf k = true
    · simp only [q, if_true]
      rfl
    · simp only [q, if_false, Bool.false_eq_true]
      simp
  · rw [if_neg c, h0]
    simp only [c, if_false, Bool.false_eq_true]
theorem rdX_le (t : Int) (q nl : Bool) (R : List Nat) (h : (rdX t q nl R).1 = 0) : (rdX t q nl R).2.2 ≤ R.length := by
  unfold rdX at h ⊢
  by_cases c : nl = true
  · rw [if_pos c] at h ⊢
    split <;> exact Nat.zero_le _
  · rw [if_neg c] at h ⊢
    exact rone_le t R 0 h

set_option maxRecDepth 100000 in
set_option maxHeartbeats 4000000 in
theorem dec_r (a a' : Option Addr) (b off m cap b' off' cap' : Nat) (l : List Nat) (mf : Nat → ByteArray) (tf : Nat → Int) (qf : Nat → Bool) (hm : m ≤ 4194304) (hln : l.length ≤ 4294967296) (hcap : l.length ≤ cap') (hcm : cap' ≤ maxLen) (w : World)
    (ha : m = 0 ∨ a = some ⟨b, off, none⟩) (ha' : l.length = 0 ∨ a' = some ⟨b', off', none⟩) (hA : IsC w b off m mf tf qf) (hB : IsB w b' off' l) :
    Calls Try.prog 17 #[.slice a m cap, .slice a' l.length cap'] w fun e w' => DecR w (rdec m tf qf l) e w' := by
  obtain ⟨T, hT⟩ : ∃ T, rdec m tf qf l = T := ⟨_, rfl⟩
  rw [hT]
  generalize hP : (fun (e : Ending) (w' : World) => DecR w T e w') = P
  have hbad : ∀ (e : Int) (w' : World), T = ([], e) → e ≠ 0 → Below w.heap.size w w' → P (.returned (.tuple #[.slice none 0 0, .int .i64 e])) w' := by
    intro e w' h1 h3 h4
    rw [← hP, h1]
    exact ⟨_, rfl, fun h => absurd h h3, fun _ => ⟨_, _, rfl⟩, h4⟩
  have hgood : ∀ (acc : List Vt) (v : Value) (w' : World), T = (acc, 0) → OutV w' w.heap.size v acc → Below w.heap.size w w' → P (.returned (.tuple #[v, .int .i64 0])) w' := by
    intro acc v w' h1 h2 h3
    rw [← hP, h1]
    exact ⟨_, rfl, fun _ => h2, fun h => absurd rfl h, h3⟩
  have HBAD := Lib.hid hbad
  have HGOOD := Lib.hid hgood
  have HB := Lib.hid hB
  have HC := Lib.hid hA
  have HA := Lib.hid ha
  have HA' := Lib.hid ha'
  have HT := Lib.hid hT
  clear hbad hgood hP hA hB hT ha' ha
  obtain ⟨n, en⟩ : ∃ n, l.length = n := ⟨_, rfl⟩
  have EN := Lib.hid en
  rw [en] at hcap hln ⊢
  clear en
  obtain ⟨q, hq⟩ : ∃ q, (m + 7) / 8 = q := ⟨_, rfl⟩
  have HBB := bitbytes_any m (by omega)
  rw [hq] at HBB
  have HBB := Lib.hid HBB
  have HQ := Lib.hid hq
  have hq1 : q ≤ 524288 := by omega
  clear hq
  by_cases c2 : n < q
  · have c3 : (n : Int) < (q : Int) := by omega
    have HX := Lib.hid (show T = ([], 3) by rw [← HT.out]; unfold rdec; rw [EN.out, HQ.out, if_pos c2])
    clear c2
    go_enter Try.func17, Try.ntmps17
    go_wp2_with (first | (go_at_call 19; refine (HBB.out _).mono ?_; rintro e w' ⟨rfl, rfl⟩))
    exact HBAD.out 3 _ HX.out (by decide) (Below.refl _ _)
  have c3 : decide ((n : Int) < (q : Int)) = false := by simp; omega
  have c3' : ¬ (n : Int) < (q : Int) := by omega
  have c3n : decide (n < q) = false := by simp; omega
  have hqn : q ≤ n := by omega
  have hs1 := sl_lo a' n cap' q (by omega)
  have hs2 := sl_hi a' n cap' q hqn
  obtain ⟨A1, hA1⟩ : ∃ A, (if cap' = 0 then a' else a'.map (·.add 0)) = A := ⟨_, rfl⟩
  obtain ⟨A2, hA2⟩ : ∃ A, (if cap' = q then a' else a'.map (·.add q)) = A := ⟨_, rfl⟩
  rw [hA1] at hs1
  rw [hA2] at hs2
  have G1 := Lib.hid (show 0 < q → A1 = some ⟨b', off', none⟩ from fun h => by
    rcases HA'.out with g | g
    · have := EN.out; omega
    · rw [← hA1, g, Option.map_some, add_off]; simp)
  have G2 := Lib.hid (show n - q = 0 ∨ A2 = some ⟨b', off' + q, none⟩ by
    by_cases h : n - q = 0
    · exact .inl h
    · right
      rcases HA'.out with g | g
      · have := EN.out; omega
      · rw [← hA2, g, Option.map_some, add_off, if_neg (by omega)])
  clear hA1 hA2 c2
  have HBT := Lib.hid (fun (i : Nat) (h : i / 8 < q) w0 (h0 : IsB w0 b' off' l) => isset_any b' off' cap' (l.take q) i (by rw [List.length_take, EN.out]; omega) (by omega) (by rw [List.length_take, EN.out]; unfold maxLen; omega) w0 (h0.take q))
  have hlq : (l.take q).length = q := by rw [List.length_take, EN.out]; omega
  rw [hlq] at HBT
  have HBTF := Lib.hid (bitN_take l q)
  have HRD := Lib.hid read_any
  have hq8 : 8 * (q : Int) ≤ 4194312 := by have := HQ.out; omega
  go_enter Try.func17, Try.ntmps17
  go_wp2_with (first | (go_at_call 19; refine (HBB.out _).mono ?_; rintro e w' ⟨rfl, rfl⟩))
  go_quiet (fail)
  go_wp2_with fail
  have HBD := Lib.hid (show Below w.heap.size w (w.drewN nq) from ⟨rfl, rfl, rfl, Nat.le_refl _, fun _ _ => rfl⟩)
  generalize w.drewN nq = wd at *
  have HBX := Lib.hid (HB.out.below HBD.out)
  go_loopw [9] (fun x wr => ∃ i : Nat, m ≤ i ∧ i ≤ 8 * q + 7 ∧ x = .int .i64 i ∧ Hid (∀ j, m ≤ j → j < i → bitN l j = false) ∧ wd = wr) (fun x _ => 8 * q + 7 - (intOf x).toNat)
  case atStart => exact ⟨m, Nat.le_refl _, by have := HQ.out; omega, rfl, Lib.hid (fun j h1 h2 => absurd h2 (by omega)), rfl⟩
  case round =>
    obtain ⟨i, hi, hi2, rfl, HZ, rfl⟩ := hrel
    have e8 : IntKind.i64.wrap (8 * (q : Int)) = 8 * (q : Int) := by rw [IntKind.wrap_i64]; omega
    by_cases d : i < 8 * q
    · have d1 : (i : Int) < 8 * (q : Int) := by omega
      obtain rfl := G1.out (by omega)
      have hbt := HBT.out i (by omega) wd HBX.out
      rw [HBTF.out i (by omega)] at hbt
      by_cases hbz : bitN l i = true
      · have HX : Hid (T = ([], 2)) := Lib.hid (by
          rw [← HT.out]
          unfold rdec
          rw [EN.out, HQ.out, if_neg (by omega), if_pos]
          rw [List.any_eq_true]
          exact ⟨i, List.mem_range.2 d, by rw [hbz]; simpa using hi⟩)
        rw [hbz] at hbt
        have HT1 := Lib.hid hbt
        clear hbt
        go_wp2_with (first | (go_at_call 23; refine HT1.out.mono ?_; rintro x w1 ⟨rfl, rfl⟩))
        exact HBAD.out 2 _ HX.out (by decide) HBD.out
      · have hbf : bitN l i = false := by simpa using hbz
        rw [hbf] at hbt
        have HT1 := Lib.hid hbt
        have HZ2 : Hid (∀ j, m ≤ j → j < i + 1 → bitN l j = false) := Lib.hid (fun j h1 h2 => by
          by_cases e : j = i
          · rw [e]; exact hbf
          · exact HZ.out j h1 (by omega))
        clear hbt hbz hbf HZ
        go_wp2_with (first | (go_at_call 23; refine HT1.out.mono ?_; rintro x w1 ⟨rfl, rfl⟩))
        go_roundw
        case rel => exact ⟨i + 1, by omega, by omega, by go_num, HZ2, by trivial⟩
        case measure => simp [intOf]; omega
    · have d1 : ¬ (i : Int) < 8 * (q : Int) := by omega
      have HX : Hid (T = rapp [] (rdecF tf qf l m 0 q)) := Lib.hid (by
        rw [← HT.out, rapp_nil]
        unfold rdec
        rw [EN.out, HQ.out, if_neg (by omega), if_neg]
        rw [List.any_eq_true]
        rintro ⟨j, h1, h2⟩
        have h3 := List.mem_range.1 h1
        by_cases h4 : m ≤ j
        · rw [HZ.out j h4 (by omega)] at h2; simp at h2
        · simp [h4] at h2)
      clear HZ
      obtain ⟨iv, hiv, hz0, hz1, hz2⟩ := info_parts infoV
      go_wp2_with (first | (refine wpList_make_full wd rfl _ _ 23 rfl w.heap.size 43 iv _ 3 Try.underlying23 hiv hz0 hz1 .i64 .i64 _ _ m rfl rfl rfl rfl (by rw [hz2]; omega) (by unfold maxLen; omega) HBD.out.size ?_; intro w2 hown2 hgrow2))
      have hdr := show Dr w w2 wd.heap.size m [] from ⟨by rw [← zerosV]; exact hown2, HBD.out.grown hgrow2 HBD.out.size (fun k hk => by cases hk), Nat.le_trans HBD.out.size hgrow2.size⟩
      generalize wd.heap.size = g at *
      have HDR := Lib.hid hdr
      clear hdr hown2 hgrow2 d1 d hi hi2
      go_loopw [8, 44] (fun v i wr => ∃ (k p : Nat) (acc : List Vt) (A : Option Addr) (C : Nat), k ≤ m ∧ p ≤ n ∧ i = .int .i64 k ∧ v = .slice A (n - p) C ∧ (n - p = 0 ∨ A = some ⟨b', off' + p, none⟩) ∧ n - p ≤ C ∧ C ≤ maxLen ∧ Dr w wr g m acc ∧ acc.length = k ∧ Hid (T = rapp acc (rdecF tf qf l (m - k) k p))) (fun _ i _ => m - (intOf i).toNat)
      case atStart => exact ⟨0, q, [], A2, cap' - q, Nat.zero_le _, hqn, rfl, rfl, G2.out, by omega, by omega, HDR.out, rfl, HX⟩
      clear HX
      case round =>
        obtain ⟨k, p, acc, A, C, hk, hp, rfl, rfl, hA, hC1, hC2, hdr, hal, HTT⟩ := hrel
        have HDR2 := Lib.hid hdr
        have HAD := Lib.hid hA
        have HAL := Lib.hid hal
        clear hdr hA hal
        by_cases d : k < m
        · have d1 : (k : Int) < (m : Int) := by omega
          obtain rfl : a = some ⟨b, off, none⟩ := by rcases HA.out with h | h; omega; exact h
          have hq0 : 0 < q := by have := HQ.out; omega
          obtain rfl := G1.out hq0
          have hcl := HC.out.below HDR2.out.bel
          have c0' := hcl.c0 k d
          have c1' := hcl.c1 k d
          have c2' := hcl.c2 k d
          have hdx := HDR2.out.step ((Below.refl _ wr).alloc (Nat.le_refl _) (.cells #[.string (mf k), .int .i64 (tf k), .bool (qf k)] 47))
          have bx := boxC_new wr (mf k) (tf k) (qf k)
          have hst := rdecF_step tf qf l (m - (k + 1)) k p (by rw [EN.out]; exact hp)
          rw [show m - (k + 1) + 1 = m - k by omega] at hst
          have hle := rdX_le (tf k) (qf k) (bitN l k) (l.drop p)
          rw [List.length_drop, EN.out] at hle
          have hrd := fun wx (h : IsB wx b' off' l) => HRD.out (mf k) (tf k) (qf k) (bitN l k) A b' (off' + p) C (l.drop p) (by rw [List.length_drop, EN.out]; exact hC1) hC2 (by rw [List.length_drop, EN.out]; omega) wx (by rw [List.length_drop, EN.out]; exact HAD.out) (h.drop p)
          rw [List.length_drop, EN.out] at hrd
          have hbt := fun wx (h : IsB wx b' off' l) => HBT.out k (by have := HQ.out; omega) wx h
          rw [HBTF.out k (by have := HQ.out; omega)] at hbt
          generalize bitN l k = nl at *
          generalize rdX (tf k) (qf k) nl (l.drop p) = X at *
          have HBTK := Lib.hid hbt
          have HRDK := Lib.hid hrd
          have HST := Lib.hid hst
          have HLE := Lib.hid hle
          unfold Cc at HRDK
          have hgk := (Nat.lt_of_lt_of_le (hdx.own.lt g rfl).2 (Nat.le_refl _))
          clear hcl hbt hrd hst hle
          go_upto_region 15 with fail
          generalize (wr.alloc (.cells #[.string (mf k), .int .i64 (tf k), .bool (qf k)] 47)) = wx at *
          generalize wr.heap.size = gc at *
          obtain ⟨x0, x1, x2⟩ := bx.cells
          have HDX := Lib.hid hdx
          clear c0' c1' c2' bx hdx
          have hbwx := HB.out.below HDX.out.bel
          have HBW := Lib.hid (hbwx.below (Below.refl _ _).drew)
          clear hbwx
          have hgx := (HDX.out.own.lt g rfl).2
          obtain ⟨xe, ⟨xk, xn, xs⟩, xq⟩ := X
          by_cases he : xe = 0
          · subst he
            have hrs := HST.out
            rw [if_pos rfl] at hrs
            have hxq : xq ≤ n - p := HLE.out rfl
            have HX : Hid (T = rapp (acc ++ [(xk, xn, xs)]) (rdecF tf qf l (m - (k + 1)) (k + 1) (p + xq))) := Lib.hid (by rw [HTT.out, hrs, rapp_cons])
            have hs3 := sl_hi A (n - p) C xq hxq
            obtain ⟨A3, hA3⟩ : ∃ Z, (if C = xq then A else A.map (·.add xq)) = Z := ⟨_, rfl⟩
            rw [hA3] at hs3
            have G3 := Lib.hid (show n - (p + xq) = 0 ∨ A3 = some ⟨b', off' + (p + xq), none⟩ by
              by_cases h : n - (p + xq) = 0
              · exact .inl h
              · right
                rcases HAD.out with g | g
                · omega
                · rw [← hA3, g, Option.map_some, add_off, if_neg (by omega), Nat.add_assoc])
            have HSZ := Lib.hid (And.intro hxq hC2)
            have hnp : n - p - xq = n - (p + xq) := Nat.sub_sub ..
            clear hrs hA3
            go_region_with (first
            | (go_at_call 23; refine (HBTK.out _ HBW.out).mono ?_; rintro e w' ⟨rfl, rfl⟩)
            | (go_at_call 24; refine (HRDK.out _ HBW.out).mono ?_; rintro e w3 ⟨v3, q3, rfl, hok, ⟨k3, n3, s3, rfl⟩, b3⟩; have HOK := Lib.hid hok; have HD3 := Lib.hid ((HDX.out.step (Below.refl _ _).drew).step b3); obtain ⟨⟨o0, hc0⟩, ⟨o1, hc1⟩, ⟨o2, hc2⟩, fz0, fz1, fz2⟩ := HD3.out.cells' HAL.out d; clear hok b3; unfold Vv))
            all_goals
              have hv : Vv k3 n3 s3 = Vv xk xn xs ∧ q3 = xq := by first | exact HOK.out trivial | exact HOK.out rfl
              obtain ⟨hv1, rfl⟩ := hv
              unfold Vv at hv1
              injection hv1 with hv1
              simp at hv1
              obtain ⟨rfl, rfl, rfl⟩ := hv1
              have HD4 := Lib.hid (HD3.out.set' HAL.out d k3 n3 s3)
              go_wp2_with fail
              go_roundw
              case rel => exact ⟨k + 1, p + q3, acc ++ [(k3, n3, s3)], A3, C - q3, by omega, by have := HSZ.out.1; omega, by go_num, by rw [← hnp], G3.out, by have := HSZ.out; omega, by have := HSZ.out; omega, HD4.out, by rw [List.length_append, HAL.out]; rfl, HX⟩
              case measure => simp [intOf]; omega
          · have hrs := HST.out
            rw [if_neg he] at hrs
            have HX : Hid (T = ([], xe)) := Lib.hid (by rw [HTT.out, hrs]; unfold rapp; rw [if_neg he])
            have HNE := Lib.hid he
            have he2 : (xe != 0) = true := by simpa using he
            clear hrs he
            go_region_with (first
            | (go_at_call 23; refine (HBTK.out _ HBW.out).mono ?_; rintro e w' ⟨rfl, rfl⟩)
            | (go_at_call 24; refine (HRDK.out _ HBW.out).mono ?_; rintro e w3 ⟨v3, q3, rfl, hok, ⟨k3, n3, s3, rfl⟩, b3⟩; have HOK := Lib.hid hok; have HD3 := Lib.hid ((HDX.out.step (Below.refl _ _).drew).step b3); obtain ⟨⟨o0, hc0⟩, ⟨o1, hc1⟩, ⟨o2, hc2⟩, fz0, fz1, fz2⟩ := HD3.out.cells' HAL.out d; clear hok b3; unfold Vv))
            all_goals
              have HD4 := Lib.hid (HD3.out.set' HAL.out d k3 n3 s3)
              go_wp2_with fail
              exact HBAD.out xe _ HX.out HNE.out HD4.out.bel
        · have d1 : ¬ (k : Int) < (m : Int) := by omega
          obtain rfl : k = m := by omega
          have hrs : rdecF tf qf l (k - k) k p = if p < n then ([], 4) else ([], 0) := by rw [Nat.sub_self, ← EN.out]; rfl
          by_cases e : p < n
          · have e1 : (0 : Int) < ((n - p : Nat) : Int) := by omega
            have e2 : 0 < n - p := by omega
            rw [if_pos e] at hrs
            have HX : Hid (T = ([], 4)) := Lib.hid (by rw [HTT.out, hrs]; rfl)
            clear hrs
            generalize n - p = np at *
            go_wp2_with fail
            exact HBAD.out 4 _ HX.out (by decide) HDR2.out.bel
          · have e0 : n - p = 0 := by omega
            rw [if_neg e] at hrs
            have HX : Hid (T = (acc, 0)) := Lib.hid (by rw [HTT.out, hrs]; unfold rapp; rw [if_pos rfl, List.append_nil])
            clear hrs
            rw [e0]
            go_wp2_with fail
            exact HGOOD.out acc _ _ HX.out (HDR2.out.owV HAL.out) HDR2.out.bel

end Go.Proofs.Ytpknoclnmhomiab
