/-
  The order of keys, and the place of a key in a node: contracts over the translation (find, child, isLeaf).
  Conditions: where a lemma says so, that the node lies in memory and its keys rise.
-/
import Derived.Test.YtncganfjbalkgaaTr3
import Derived.Test.YtncganfjbalkgaaEn1
namespace Go.Proofs.Ytncganfjbalkgaa
open Go.RowKit Go.Joins Go.ChangeShapes Go.WideShapes
set_option linter.unusedVariables false

theorem ob_turn : ∀ (l r : List Nat), ordB r l = -ordB l r
  | [], [] => rfl
  | [], _ :: _ => rfl
  | _ :: _, [] => rfl
  | a :: l, b :: r => by
    have := ob_turn l r
    unfold ordB
    rcases Nat.lt_trichotomy a b with h | h | h
    · rw [if_neg (by omega), if_pos h, if_pos h]; rfl
    · subst h; simp only [Nat.lt_irrefl, if_false]; exact this
    · rw [if_pos h, if_neg (by omega), if_pos h]
theorem ob_vals (l r : List Nat) : ordB l r = -1 ∨ ordB l r = 0 ∨ ordB l r = 1 := by
  induction l generalizing r with
  | nil => cases r <;> simp [ordB]
  | cons a l ih =>
    cases r with
    | nil => simp [ordB]
    | cons b r =>
      unfold ordB
      split
      · exact .inl rfl
      · split
        · exact .inr (.inr rfl)
        · exact ih r
theorem ob_zero : ∀ (l r : List Nat), ordB l r = 0 → l = r
  | [], [], _ => rfl
  | [], _ :: _, h => by simp [ordB] at h
  | _ :: _, [], h => by simp [ordB] at h
  | a :: l, b :: r, h => by
    unfold ordB at h
    split at h
    · cases h
    · split at h
      · cases h
      · have : a = b := by omega
        rw [this, ob_zero l r h]
theorem ob_self (l : List Nat) : ordB l l = 0 := by have := ob_turn l l; omega
def klt (a b : List Nat) : Prop := ordB a b < 0
theorem klt_trans : ∀ {a b c : List Nat}, klt a b → klt b c → klt a c
  | [], [], _, h, _ => by simp [klt, ordB] at h
  | _ :: _, [], _, h, _ => by simp [klt, ordB] at h
  | [], _ :: _, [], _, h => by simp [klt, ordB] at h
  | _ :: _, _ :: _, [], _, h => by simp [klt, ordB] at h
  | [], _ :: _, _ :: _, _, _ => by simp [klt, ordB]
  | a :: l, b :: r, c :: s, h, g => by
    unfold klt ordB at *
    by_cases h1 : a < b
    · by_cases g1 : b < c
      · rw [if_pos (by omega)]; decide
      · rw [if_neg g1] at g
        by_cases g2 : c < b
        · rw [if_pos g2] at g; exact absurd g (by decide)
        · rw [if_pos (by omega)]; decide
    · rw [if_neg h1] at h
      by_cases h2 : b < a
      · rw [if_pos h2] at h; exact absurd h (by decide)
      · rw [if_neg h2] at h
        obtain rfl : a = b := by omega
        by_cases g1 : a < c
        · rw [if_pos g1]; decide
        · rw [if_neg g1] at g ⊢
          by_cases g2 : c < a
          · rw [if_pos g2] at g; exact absurd g (by decide)
          · rw [if_neg g2] at g ⊢
            exact klt_trans (a := l) (b := r) (c := s) h g
theorem klt_irr (a : List Nat) : ¬ klt a a := by unfold klt; rw [ob_self]; decide
theorem klt_asym {a b : List Nat} (h : klt a b) : ¬ klt b a := fun g => klt_irr a (klt_trans h g)
theorem klt_or (a b : List Nat) : klt a b ∨ a = b ∨ klt b a := by
  unfold klt
  rcases ob_vals a b with h | h | h
  · exact .inl (by omega)
  · exact .inr (.inl (ob_zero _ _ h))
  · exact .inr (.inr (by rw [ob_turn]; omega))
theorem not_klt {a b : List Nat} : 0 ≤ ordB a b ↔ ¬ klt a b := by unfold klt; omega
theorem klt_of_not {a b c : List Nat} (h : ¬ klt b a) (g : klt b c) : klt a c := by
  rcases klt_or a b with h1 | h1 | h1
  · exact klt_trans h1 g
  · rw [h1]; exact g
  · exact absurd h1 h
theorem klt_of_not' {a b c : List Nat} (h : klt a b) (g : ¬ klt c b) : klt a c := by
  rcases klt_or b c with h1 | h1 | h1
  · exact klt_trans h h1
  · rw [← h1]; exact h
  · exact absurd h1 g
theorem nklt_trans {a b c : List Nat} (h : ¬ klt a b) (g : ¬ klt b c) : ¬ klt a c := fun e => by
  rcases klt_or a b with h1 | h1 | h1
  · exact h h1
  · rw [h1] at e; exact g e
  · exact g (klt_trans h1 e)
theorem sc_ob : ∀ (l r : List UInt8), Lib.compareBytes l r = ordB (l.map fun b => b.toNat) (r.map fun b => b.toNat)
  | [], [] => rfl
  | [], _ :: _ => rfl
  | _ :: _, [] => rfl
  | a :: l, b :: r => by
    simp only [Lib.compareBytes, List.map_cons, ordB, UInt8.lt_iff_toNat_lt, sc_ob l r]
theorem scmp_ob (s t : ByteArray) : SCmp s t = ordB (sl s) (sl t) := sc_ob _ _

/-- what a node's parts are, as entries -/
def ents (ps : List Pv) : List Ent := ps.map fun p => (sl p.1, p.2.1)
/-- keys rise -/
def Srt (l : List Ent) : Prop := l.Pairwise fun a b => klt a.1 b.1
theorem ePlN_at (k : List Nat) : ∀ (l : List Ent) (s i : Nat), (∀ j, j < i → ∀ e, l[j]? = some e → klt e.1 k) → i ≤ l.length → (∀ e, l[i]? = some e → ¬ klt e.1 k) →
    ePlN l k s = (s + i, match l[i]? with | some e => decide (ordB e.1 k = 0) | none => false)
  | [], s, i, _, h2, _ => by
    have : i = 0 := by simpa using h2
    subst this
    rfl
  | x :: l, s, 0, _, _, h3 => by
    unfold ePlN
    rw [if_pos (not_klt.2 (h3 x rfl))]
    rfl
  | x :: l, s, i + 1, h1, h2, h3 => by
    unfold ePlN
    have := h1 0 (by omega) x rfl
    unfold klt at this
    rw [if_neg (by omega), ePlN_at k l (s + 1) i (fun j hj e he => h1 (j + 1) (by omega) e he) (by simpa using h2) (fun e he => h3 e he)]
    rw [List.getElem?_cons_succ, show s + 1 + i = s + (i + 1) by omega]
theorem ePl_at {k : List Nat} {l : List Ent} {i : Nat} (h1 : ∀ j, j < i → ∀ e, l[j]? = some e → klt e.1 k) (h2 : i ≤ l.length) (h3 : ∀ e, l[i]? = some e → ¬ klt e.1 k) :
    ePl l k = (i, match l[i]? with | some e => decide (ordB e.1 k = 0) | none => false) := by
  have := ePlN_at k l 0 i h1 h2 h3
  rw [Nat.zero_add] at this
  exact this

set_option maxHeartbeats 1000000 in
theorem cmp1_any (a b : ByteArray) (n : Int) (k : Option Nat) (w : World) :
    Calls Try.prog 49 #[.agg #[.string a, .int .i64 n, kp k], .string b] w fun e w' => e = .returned (.int .i64 (ordB (sl a) (sl b))) ∧ Below w.heap.size w w' := by
  have h := scmp_ob a b
  generalize ordB (sl a) (sl b) = z at *
  have H := Lib.hid h
  clear h
  go_enter Try.func49, Try.ntmps49
  go_wp2_with (go_at_call 50; refine (strcmp_any _ _ _).mono ?_; rintro e w' ⟨rfl, rfl⟩)
  go_ret
  exact ⟨ret_i H.out, (Below.refl _ _).alloc (Nat.le_refl _) _⟩

/-- a node in memory -/
structure NdAt (B : Nat) (w : World) (g : Nat) (v : Value) (ps : List Pv) : Prop where
  hd : w.heap[g]? = some (.cells #[v] 69 (0, 0))
  own : OwP w B v ps
  bg : B ≤ g
theorem NdAt.cell {B : Nat} {w : World} {g : Nat} {v : Value} {ps : List Pv} (h : NdAt B w g v ps) : w.cell? ⟨g, 0, none⟩ = some v ∧ w.frozen? ⟨g, 0, none⟩ = false := ⟨by rw [cell_of_block h.hd]; rfl, unfrozen_of_block h.hd 0⟩
theorem NdAt.lt {B : Nat} {w : World} {g : Nat} {v : Value} {ps : List Pv} (h : NdAt B w g v ps) : g < w.heap.size := (Array.getElem?_eq_some_iff.1 h.hd).1
theorem NdAt.ne {B : Nat} {w : World} {g : Nat} {v : Value} {ps : List Pv} (h : NdAt B w g v ps) : v.ownBlock ≠ some g := own_ne h.own h.hd (by decide)
theorem NdAt.step {B : Nat} {w w1 : World} {g : Nat} {v : Value} {ps : List Pv} {F : Bl} (h : NdAt B w g v ps) (hf : Frm F w w1) (h1 : ¬ F g) (h2 : ∀ k, v.ownBlock = some k → ¬ F k) : NdAt B w1 g v ps :=
  ⟨(hf.heap h.lt h1).trans h.hd, hf.owP h.own h2, h.bg⟩
theorem NdAt.below {B : Nat} {w w1 : World} {g : Nat} {v : Value} {ps : List Pv} (h : NdAt B w g v ps) (hb : Below w.heap.size w w1) : NdAt B w1 g v ps :=
  h.step (Frm.of_below (F := fun _ => False) hb) (fun h => h) (fun _ _ h => h)
theorem NdAt.form {B : Nat} {w : World} {g : Nat} {v : Value} {ps : List Pv} (h : NdAt B w g v ps) : ∃ a cap, v = .slice a ps.length cap ∧ ps.length ≤ cap := by
  rcases h.own.cases with ⟨rfl, rfl⟩ | ⟨g', cap, cur, rfl, hb, hg, hn, hc, hs, ht⟩
  · exact ⟨none, 0, rfl, Nat.le_refl _⟩
  · exact ⟨_, cap, rfl, hn⟩

set_option maxHeartbeats 1000000 in
theorem isleaf_nil (B : Nat) (w : World) (g : Nat) (v : Value) (h : NdAt B w g v []) :
    Calls Try.prog 35 #[.pointer (some ⟨g, 0, none⟩)] w fun e w' => e = .returned (.bool true) ∧ w = w' := by
  obtain ⟨c0, -⟩ := h.cell
  obtain ⟨a, cap, rfl, -⟩ := h.form
  clear h
  go_enter Try.func35, Try.ntmps35
  go_wp2
  go_ret
  exact ⟨rfl, rfl⟩
set_option maxHeartbeats 1000000 in
theorem isleaf_cons (B : Nat) (w : World) (g : Nat) (v : Value) (p : Pv) (ps : List Pv) (h : NdAt B w g v (p :: ps)) (hn : ps.length ≤ 4294967296) :
    Calls Try.prog 35 #[.pointer (some ⟨g, 0, none⟩)] w fun e w' => e = .returned (.bool p.2.2.isNone) ∧ w = w' := by
  obtain ⟨c0, -⟩ := h.cell
  obtain ⟨gb, cap, rfl, h1, h2, d0, d1, d2, d3⟩ := h.own.at (i := 0) (p := p) rfl
  obtain ⟨n, en⟩ : ∃ n, (p :: ps).length = n + 1 := ⟨ps.length, rfl⟩
  rw [en] at c0 h1
  have hnn : n ≤ 4294967296 := by simp at en; omega
  obtain ⟨pa, pb, pc⟩ := p
  clear h en d0 d1 d3
  dsimp only at d2 ⊢
  cases pc with
  | none =>
    simp only [kp, Option.map_none] at d2
    go_enter Try.func35, Try.ntmps35
    go_wp2
    go_ret
    exact ⟨rfl, rfl⟩
  | some z =>
    simp only [kp, Option.map_some] at d2
    go_enter Try.func35, Try.ntmps35
    go_wp2
    go_ret
    exact ⟨rfl, rfl⟩

set_option maxHeartbeats 1000000 in
set_option maxRecDepth 100000 in
theorem search_any (B : Nat) (w : World) (v : Value) (ps : List Pv) (hown : OwP w B v ps) (hs : Srt (ents ps)) (hn : ps.length ≤ 4294967296) (s : ByteArray) :
    Calls Try.prog 48 #[v, .string s, .func (.func 49) #[] #[]] w fun e w' =>
      e = .returned (.tuple #[.int .i64 ((ePl (ents ps) (sl s)).1 : Nat), .bool (ePl (ents ps) (sl s)).2]) ∧ Below w.heap.size w w' := by
  obtain ⟨T, hT⟩ : ∃ T, ePl (ents ps) (sl s) = T := ⟨_, rfl⟩
  rw [hT]
  obtain ⟨T1, T2⟩ := T
  have HT := Lib.hid hT
  have HO := Lib.hid hown
  have HS := Lib.hid hs
  have hf : ∃ a cap, v = .slice a ps.length cap ∧ ps.length ≤ cap := by
    rcases hown.cases with ⟨rfl, rfl⟩ | ⟨g', cap, cur, rfl, hb, hg, hn, hc, hs, ht⟩
    · exact ⟨none, 0, rfl, Nat.le_refl _⟩
    · exact ⟨_, cap, rfl, hn⟩
  obtain ⟨a, cap, rfl, hcap⟩ := hf
  obtain ⟨n, en⟩ : ∃ n, ps.length = n := ⟨_, rfl⟩
  have EN := Lib.hid en
  have EE := Lib.hid (show (ents ps).length = n by unfold ents; rw [List.length_map]; exact en)
  rw [en] at hn hcap HO ⊢
  clear hT hown hs en
  go_enter Try.func48, Try.ntmps48
  go_wp2
  go_loopw [9, 10] (fun i j wr => ∃ x y : Nat, i = .int .i64 x ∧ j = .int .i64 y ∧ x ≤ y ∧ y ≤ n ∧ Hid (∀ t, t < x → ∀ e, (ents ps)[t]? = some e → klt e.1 (sl s)) ∧ Hid (∀ t, y ≤ t → ∀ e, (ents ps)[t]? = some e → ¬ klt e.1 (sl s)) ∧ Below w.heap.size w wr) (fun i j _ => (intOf j).toNat - (intOf i).toNat)
  case atStart => exact ⟨0, n, rfl, rfl, Nat.zero_le _, Nat.le_refl _, fun t ht => absurd ht (by omega), (fun t ht e he => by
    rw [List.getElem?_eq_none (by rw [EE.out]; exact ht)] at he; cases he), Below.refl _ _⟩
  case round =>
    obtain ⟨x, y, rfl, rfl, hxy, hyn, HL, HR, hb⟩ := hrel
    by_cases c : x < y
    · have c1 : (x : Int) < (y : Int) := by omega
      have hw1 : IntKind.i64.wrap ((x : Int) + (y : Int)) = (x : Int) + (y : Int) := IntWalk.i64_in _ (by omega)
      have hw2 : IntKind.u64.wrap ((x : Int) + (y : Int)) = (x : Int) + (y : Int) := by rw [IntKind.wrap_u64]; omega
      obtain ⟨m, hm⟩ : ∃ m : Nat, (x + y) / 2 = m := ⟨_, rfl⟩
      have hm1 : ((x : Int) + (y : Int)) / 2 = (m : Int) := by omega
      have hm2 : m < n := by omega
      have hm3 : x ≤ m := by omega
      have hm4 : m < y := by omega
      have hm5 : (m : Int) < (n : Int) := by omega
      have hp : ps[m]? = some (ps[m]'(by rw [EN.out]; exact hm2)) := List.getElem?_eq_getElem _
      generalize ps[m]'(by rw [EN.out]; exact hm2) = p at *
      obtain ⟨g, cap', e1, -, -, d0, d1, d2, d3⟩ := OwP.at (w := wr) (B := B) (v := .slice a n cap) (l := ps) (Frm.owP (Frm.of_below (F := fun _ => False) hb) HO.out (fun _ _ h => h)) hp
      injection e1 with e1 e2 e3
      subst e1
      have he : (ents ps)[m]? = some (sl p.1, p.2.1) := by unfold ents; rw [List.getElem?_map, hp]; rfl
      obtain ⟨pa, pb, pc⟩ := p
      dsimp only at d0 d1 d2 he
      have HC := Lib.hid (fun wx => cmp1_any pa s pb pc wx)
      have HE := Lib.hid he
      have HB := Lib.hid hb
      have HM := Lib.hid hm
      have HW1 := Lib.hid hw2
      clear e2 e3 hp he hb hm d3
      obtain ⟨z, hz⟩ : ∃ z, ordB (sl pa) (sl s) = z := ⟨_, rfl⟩
      rw [hz] at HC
      have HZ := Lib.hid hz
      clear hz
      by_cases q : z < 0
      · go_wp2_with (first | (go_at_call 49; refine (HC.out _).mono ?_; rintro e w1 ⟨rfl, b1⟩; have HB1 := Lib.hid b1; clear b1))
        go_roundw
        case rel => exact ⟨m + 1, y, by go_num, rfl, by omega, hyn, (fun t ht e he => by
          rcases Nat.lt_or_ge t m with h | h
          · have h2 := (List.pairwise_iff_getElem.1 HS.out) t m (by rw [EE.out]; omega) (by rw [EE.out]; omega) h
            obtain ⟨l1, e1⟩ := List.getElem?_eq_some_iff.1 he
            obtain ⟨l2, e2⟩ := List.getElem?_eq_some_iff.1 HE.out
            rw [e1, e2] at h2
            exact klt_trans h2 (by unfold klt; rw [HZ.out]; exact q)
          · obtain rfl : t = m := by omega
            rw [HE.out] at he
            cases he
            unfold klt; rw [HZ.out]; exact q), HR, stepB HB.out HB1.out⟩
        case measure => simp [intOf]; omega
      · have q1 : decide (z < 0) = false := by simpa using q
        go_wp2_with (first | (go_at_call 49; refine (HC.out _).mono ?_; rintro e w1 ⟨rfl, b1⟩; have HB1 := Lib.hid b1; clear b1))
        go_roundw
        case rel => exact ⟨x, m, rfl, by go_num, by omega, by omega, HL, (fun t ht e he => by
          rcases Nat.lt_or_ge m t with h | h
          · have hl := (List.getElem?_eq_some_iff.1 he).1
            have h2 := (List.pairwise_iff_getElem.1 HS.out) m t (by rw [EE.out]; omega) hl h
            obtain ⟨l1, e1⟩ := List.getElem?_eq_some_iff.1 he
            obtain ⟨l2, e2⟩ := List.getElem?_eq_some_iff.1 HE.out
            rw [e1, e2] at h2
            exact fun hk => (show ¬ klt (sl pa) (sl s) by unfold klt; rw [HZ.out]; omega) (klt_trans h2 hk)
          · obtain rfl : t = m := by omega
            rw [HE.out] at he
            cases he
            unfold klt; rw [HZ.out]; omega), stepB HB.out HB1.out⟩
        case measure => simp [intOf]; omega
    · obtain rfl : x = y := by omega
      have hpl := ePl_at HL.out (by rw [EE.out]; exact hyn) (fun e he => HR.out x (Nat.le_refl _) e he)
      rw [HT.out] at hpl
      have HB := Lib.hid hb
      by_cases d : x < n
      · have d9 : (x : Int) < (n : Int) := by omega
        have hp : ps[x]? = some (ps[x]'(by rw [EN.out]; exact d)) := List.getElem?_eq_getElem _
        generalize ps[x]'(by rw [EN.out]; exact d) = p at *
        obtain ⟨g, cap', e1, -, -, d0, d1, d2, d3⟩ := OwP.at (w := wr) (B := B) (v := .slice a n cap) (l := ps) (Frm.owP (Frm.of_below (F := fun _ => False) hb) HO.out (fun _ _ h => h)) hp
        injection e1 with e1 e2 e3
        subst e1
        have he : (ents ps)[x]? = some (sl p.1, p.2.1) := by unfold ents; rw [List.getElem?_map, hp]; rfl
        obtain ⟨pa, pb, pc⟩ := p
        rw [he] at hpl
        dsimp only at d0 d1 d2 hpl
        have HC := Lib.hid (fun wx => cmp1_any pa s pb pc wx)
        injection hpl with h1 h2
        subst h1
        obtain ⟨z, hz⟩ : ∃ z, ordB (sl pa) (sl s) = z := ⟨_, rfl⟩
        rw [hz] at HC h2
        have H2 := Lib.hid h2
        clear e2 e3 hp he hb d3 h2 hz
        go_wp2_with (first | (go_at_call 49; refine (HC.out _).mono ?_; rintro e w1 ⟨rfl, b1⟩; have HB1 := Lib.hid b1; clear b1))
        all_goals
          go_ret2
          refine ⟨?_, stepB HB.out HB1.out⟩
          rw [H2.out]
          first | rfl | simp [*]
      · obtain rfl : x = n := by omega
        rw [List.getElem?_eq_none (by rw [EE.out]; exact Nat.le_refl _)] at hpl
        injection hpl with h1 h2
        subst h1 h2
        clear hb
        go_wp2
        go_ret2
        exact ⟨rfl, HB.out⟩

set_option maxHeartbeats 1000000 in
theorem find_any (B : Nat) (w : World) (g : Nat) (v : Value) (ps : List Pv) (h : NdAt B w g v ps) (hs : Srt (ents ps)) (hn : ps.length ≤ 4294967296) (s : ByteArray) :
    Calls Try.prog 41 #[.pointer (some ⟨g, 0, none⟩), .string s] w fun e w' =>
      e = .returned (.tuple #[.int .i64 ((ePl (ents ps) (sl s)).1 : Nat), .bool (ePl (ents ps) (sl s)).2]) ∧ Below w.heap.size w w' := by
  have HS := Lib.hid (search_any B w v ps h.own hs hn s)
  obtain ⟨c0, -⟩ := h.cell
  generalize ePl (ents ps) (sl s) = T at *
  obtain ⟨T1, T2⟩ := T
  clear h hs
  go_enter Try.func41, Try.ntmps41
  go_wp2_with (first | (go_at_call 48; refine HS.out.mono ?_; rintro e w1 ⟨rfl, b1⟩; have HB1 := Lib.hid b1; clear b1))
  go_ret2
  exact ⟨rfl, HB1.out⟩

/-- the child in which a key belongs -/
def chI (l : List Ent) (k : List Nat) : Int := if (ePl l k).2 then ((ePl l k).1 : Nat) else ((ePl l k).1 : Nat) - 1
set_option maxHeartbeats 1000000 in
theorem child_any (B : Nat) (w : World) (g : Nat) (v : Value) (ps : List Pv) (h : NdAt B w g v ps) (hs : Srt (ents ps)) (hn : ps.length ≤ 4294967296) (s : ByteArray) :
    Calls Try.prog 43 #[.pointer (some ⟨g, 0, none⟩), .string s] w fun e w' =>
      e = .returned (.int .i64 (chI (ents ps) (sl s))) ∧ Below w.heap.size w w' := by
  have HS := Lib.hid (find_any B w g v ps h hs hn s)
  have hle := ePl_le (ents ps) (sl s)
  have hl : (ents ps).length = ps.length := by unfold ents; rw [List.length_map]
  unfold chI
  generalize ePl (ents ps) (sl s) = T at *
  obtain ⟨T1, T2⟩ := T
  dsimp only at hle HS ⊢
  rw [hl] at hle
  have hle1 := hle.1
  clear h hs hle hl
  cases T2
  · go_enter Try.func43, Try.ntmps43
    go_wp2_with (first | (go_at_call 41; refine HS.out.mono ?_; rintro e w1 ⟨rfl, b1⟩; have HB1 := Lib.hid b1; clear b1))
    go_ret
    exact ⟨rfl, HB1.out⟩
  · go_enter Try.func43, Try.ntmps43
    go_wp2_with (first | (go_at_call 41; refine HS.out.mono ?_; rintro e w1 ⟨rfl, b1⟩; have HB1 := Lib.hid b1; clear b1))
    go_ret
    exact ⟨rfl, HB1.out⟩

end Go.Proofs.Ytncganfjbalkgaa
