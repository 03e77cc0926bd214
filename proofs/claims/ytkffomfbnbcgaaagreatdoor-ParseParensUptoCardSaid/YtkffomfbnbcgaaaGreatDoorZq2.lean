/-
  Texts of mine put together, in build order.
  Conditions: as each declaration says.
-/
import Derived.Deep.RegionHeld3
import Derived.Test.YtkffomfbnbcgaaaGreatDoorZq1
namespace Go.Proofs.YtkffomfbnbcgaaaGreatDoor
set_option maxRecDepth 100000
open Go.RowKit Go.Joins Go.ChangeShapes Go.WideShapes
set_option linter.unusedVariables false
set_option linter.unusedSimpArgs false

theorem depL_snoc : ∀ (l : List Ex) (e : Ex), depL (l ++ [e]) = max (depL l) (depR e + 1)
  | [], e => by simp [depL]
  | a :: r, e => by rw [List.cons_append, depL, depL, depL_snoc r e]; omega
theorem depL_take {l : List Ex} {k : Nat} {e : Ex} (h : l[k]? = some e) : depL (l.take (k + 1)) = max (depL (l.take k)) (depR e + 1) := by
  rw [List.take_add_one, h]
  exact depL_snoc _ e
theorem depL_le : ∀ (l : List Ex) (k : Nat), depL (l.take k) ≤ depL l
  | [], k => by simp [depL]
  | a :: r, 0 => by simp [depL]
  | a :: r, k + 1 => by rw [List.take_succ_cons, depL, depL]; have := depL_le r k; omega
theorem depL_at {l : List Ex} {k : Nat} {e : Ex} (h : l[k]? = some e) : depR e + 1 ≤ depL l := by
  have h1 := depL_take h
  have h2 := depL_le l (k + 1)
  omega
set_option maxHeartbeats 8000000 in
theorem rdep_any : ∀ (N : Nat) {K : Bl} {w : World} (x : XE), depR x.er < N → depR x.er ≤ 4294967296 → XE.Mem K w x →
    Calls Tryz.prog 19 #[x.val] w fun e w' => e = .returned (.int .i64 (depR x.er : Int)) ∧ Below w.heap.size w w'
  | 0, K, w, x, h, _, _ => absurd h (by omega)
  | N + 1, K, w, .mk op kind num scale text qual a cap args, h, hd, hm => by
    have HI := Lib.hid (fun (w : World) (x : XE) => rdep_any N (K := K) (w := w) x)
    simp only [XE.er] at h hd ⊢
    rw [depR] at h hd ⊢
    obtain ⟨l, hl⟩ : ∃ l, XE.erL args = l := ⟨_, rfl⟩
    rw [hl] at h hd ⊢
    obtain ⟨D, hD⟩ : ∃ D, depL l = D := ⟨_, rfl⟩
    rw [hD] at h hd ⊢
    generalize hP : (fun (e : Ending) (w' : World) => e = .returned (.int .i64 (D : Int)) ∧ Below w.heap.size w w') = P
    have HP := Lib.hid hP
    have b1 : Below w.heap.size w (w.alloc (.cells #[.int .i64 op, .slice a args.length cap, .int .i64 kind, .int .i64 num, .int .i64 scale, .string text, .string qual] 30)) := (Below.refl _ _).alloc (Nat.le_refl _) _
    have hn1 := Bx.new w #[.int .i64 op, .slice a args.length cap, .int .i64 kind, .int .i64 num, .int .i64 scale, .string text, .string qual] 30
    obtain ⟨n, hn⟩ : ∃ n, args.length = n := ⟨_, rfl⟩
    have hnl : l.length = n := by rw [← hl, XE.erL_length]; exact hn
    have hnc : n ≤ cap := by rw [← hn]; unfold XE.Mem at hm; exact hm.1
    have hcm : cap ≤ maxLen := by unfold XE.Mem at hm; exact hm.2.1
    have HM0 := hm.below b1
    rw [hn] at b1 hn1 HM0
    obtain ⟨wa, hwa⟩ : ∃ wa, w.alloc (.cells #[.int .i64 op, .slice a n cap, .int .i64 kind, .int .i64 num, .int .i64 scale, .string text, .string qual] 30) = wa := ⟨_, rfl⟩
    rw [hwa] at b1 hn1 HM0
    have HM := Lib.hid (And.intro HM0 (And.intro hn (And.intro hl (And.intro hD hnl))))
    have HN := Lib.hid hn1
    have HB := Lib.hid b1
    simp only [XE.val]
    rw [hn]
    clear hP b1 hn1 hm HM0 hn hl hD hnl
    go_enter Tryz.func19, Tryz.ntmps19
    go_wp2_with fail
    go_loopw [3, 4] (fun d i wr => ∃ (k : Nat) (m : Nat), k ≤ n ∧ d = .int .i64 (m : Int) ∧ i = .int .i64 (k : Int) ∧ Hid (Below wa.heap.size wa wr ∧ depL (l.take k) = m)) (fun _ i _ => n - (intOf i).toNat)
    case atStart => exact ⟨0, 0, Nat.zero_le _, rfl, rfl, Lib.hid ⟨Below.refl _ _, by rw [List.take_zero, depL]⟩⟩
    case round =>
      obtain ⟨k, m, hk, rfl, rfl, HR⟩ := hrel
      obtain ⟨⟨y0, y1, y2, y3, y4, y5, y6⟩, -⟩ := (HN.out.below HR.out.1).seven
      by_cases c : k < n
      · have c1 : (k : Int) < (n : Int) := by omega
        have hx : args[k]? = some (args[k]'(by rw [HM.out.2.1]; exact c)) := List.getElem?_eq_getElem _
        generalize args[k]'(by rw [HM.out.2.1]; exact c) = x at *
        obtain ⟨b, off, rfl, -, hb, hcell, hmx⟩ := XE.Mem.at (HM.out.1.below HR.out.1) hx
        have hle : l[k]? = some x.er := by rw [← HM.out.2.2.1, XE.erL_map, List.getElem?_map, hx]; rfl
        have hat := depL_at hle
        rw [HM.out.2.2.2.1] at hat
        have htk := depL_take hle
        rw [HR.out.2] at htk
        obtain ⟨q, hq⟩ : ∃ q, depR x.er = q := ⟨_, rfl⟩
        have HCA := Lib.hid (HI.out wr x (by omega) (by omega) hmx)
        rw [hq] at HCA htk hat
        have HT := Lib.hid htk
        have hmD : m ≤ D := by rw [← HR.out.2, ← HM.out.2.2.2.1]; exact depL_le _ _
        obtain ⟨op1, kind1, num1, scale1, text1, qual1, a1, cap1, args1⟩ := x
        have q0 := hcell 0 _ rfl
        have q1 := hcell 1 _ rfl
        have q2 := hcell 2 _ rfl
        have q3 := hcell 3 _ rfl
        have q4 := hcell 4 _ rfl
        have q5 := hcell 5 _ rfl
        have q6 := hcell 6 _ rfl
        rw [Nat.add_zero] at q0
        simp only [XE.val] at HCA
        have hwk : wrap64 ((k : Int) + 1) = ((k + 1 : Nat) : Int) := by unfold wrap64 maxLen at *; omega
        obtain ⟨q1, hq1⟩ : ∃ q1, q + 1 = q1 := ⟨_, rfl⟩
        have hwq : wrap64 ((q : Int) + 1) = (q1 : Int) := by unfold wrap64; omega
        rw [hq1] at htk
        have HT2 := Lib.hid htk
        clear hx hcell hmx hle htk hq hat hmD HT hq1
        go_wp2_with fail
        try go_at_call 19
        refine HCA.out.mono ?_
        rintro e w3 ⟨rfl, b3⟩
        have HB3 := Lib.hid (HR.out.1.trans (b3.mono HR.out.1.size))
        clear b3
        by_cases cm : m < q1
        · have cm1 : (m : Int) < (q1 : Int) := by omega
          go_wp2_with fail
          refine ⟨⟨k + 1, q1, Nat.succ_le_of_lt c, by rw [hwq], by rw [hwk], Lib.hid ⟨HB3.out, by rw [HT2.out]; omega⟩⟩, ?_⟩
          rw [hwk]
          simp [intOf]
          omega
        · have cm1 : decide ((m : Int) < (q1 : Int)) = false := by simp; omega
          go_wp2_with fail
          refine ⟨⟨k + 1, m, Nat.succ_le_of_lt c, rfl, by rw [hwk], Lib.hid ⟨HB3.out, by rw [HT2.out]; omega⟩⟩, ?_⟩
          rw [hwk]
          simp [intOf]
          omega
      · have c2 : decide ((k : Int) < (n : Int)) = false := by simp; omega
        obtain rfl : k = n := by omega
        have hmD : m = D := by rw [← HR.out.2, ← HM.out.2.2.2.1, List.take_of_length_le (by rw [HM.out.2.2.2.2]; exact Nat.le_refl _)]
        subst hmD
        have HF := Lib.hid (show P (.returned (.int .i64 (m : Int))) wr by rw [← HP.out]; exact ⟨rfl, HB.out.trans (HR.out.1.mono HB.out.size)⟩)
        clear HP
        go_wp2_with fail
        exact HF.out

end Go.Proofs.YtkffomfbnbcgaaaGreatDoor

namespace Go.Proofs.YtkffomfbnbcgaaaGreatDoor
set_option maxRecDepth 100000
open Go.RowKit Go.Joins Go.ChangeShapes Go.WideShapes Go.Great
set_option linter.unusedVariables false
set_option linter.unusedSimpArgs false

set_option maxHeartbeats 4000000 in
theorem text_null (a : Option Addr) (cap : Nat) (w : World) : Calls Tryz.prog 20 #[.agg #[.int .i64 21, .slice a 0 cap, .int .i64 0, .int .i64 0, .int .i64 0, .string ⟨#[]⟩, .string ⟨#[]⟩]] w fun e w' => e = .returned (.string ⟨#[78, 85, 76, 76]⟩) ∧ Below w.heap.size w w' := by
  generalize hP : (fun (e : Ending) (w' : World) => e = .returned (.string ⟨#[78, 85, 76, 76]⟩) ∧ Below w.heap.size w w') = P
  have HF := Lib.hid (fun (w' : World) (hb : Below w.heap.size w w') => show P (.returned (.string ⟨#[78, 85, 76, 76]⟩)) w' by rw [← hP]; exact ⟨rfl, hb⟩)
  clear hP
  go_enter Tryz.func20, Tryz.ntmps20
  go_wp2_with fail
  exact HF.out _ (by first | exact (Below.refl _ _).alloc (Nat.le_refl _) _ | exact ((Below.refl _ _).alloc (Nat.le_refl _) _).alloc (by first | (simp; done) | (simp; omega)) _ | exact (((Below.refl _ _).alloc (Nat.le_refl _) _).alloc (by first | (simp; done) | (simp; omega)) _).setCell (by first | (simp; done) | (simp; omega)) _ | exact ((((Below.refl _ _).alloc (Nat.le_refl _) _).alloc (by first | (simp; done) | (simp; omega)) _).setCell (by first | (simp; done) | (simp; omega)) _).setCell (by first | (simp; done) | (simp; omega)) _ | exact (((((Below.refl _ _).alloc (Nat.le_refl _) _).alloc (by first | (simp; done) | (simp; omega)) _).setCell (by first | (simp; done) | (simp; omega)) _).setCell (by first | (simp; done) | (simp; omega)) _).setCell (by first | (simp; done) | (simp; omega)) _)
set_option maxHeartbeats 4000000 in
theorem text_no (a : Option Addr) (cap : Nat) (w : World) : Calls Tryz.prog 20 #[.agg #[.int .i64 21, .slice a 0 cap, .int .i64 1, .int .i64 0, .int .i64 0, .string ⟨#[]⟩, .string ⟨#[]⟩]] w fun e w' => e = .returned (.string ⟨#[70, 65, 76, 83, 69]⟩) ∧ Below w.heap.size w w' := by
  generalize hP : (fun (e : Ending) (w' : World) => e = .returned (.string ⟨#[70, 65, 76, 83, 69]⟩) ∧ Below w.heap.size w w') = P
  have HF := Lib.hid (fun (w' : World) (hb : Below w.heap.size w w') => show P (.returned (.string ⟨#[70, 65, 76, 83, 69]⟩)) w' by rw [← hP]; exact ⟨rfl, hb⟩)
  clear hP
  go_enter Tryz.func20, Tryz.ntmps20
  go_wp2_with fail
  exact HF.out _ (by first | exact (Below.refl _ _).alloc (Nat.le_refl _) _ | exact ((Below.refl _ _).alloc (Nat.le_refl _) _).alloc (by first | (simp; done) | (simp; omega)) _ | exact (((Below.refl _ _).alloc (Nat.le_refl _) _).alloc (by first | (simp; done) | (simp; omega)) _).setCell (by first | (simp; done) | (simp; omega)) _ | exact ((((Below.refl _ _).alloc (Nat.le_refl _) _).alloc (by first | (simp; done) | (simp; omega)) _).setCell (by first | (simp; done) | (simp; omega)) _).setCell (by first | (simp; done) | (simp; omega)) _ | exact (((((Below.refl _ _).alloc (Nat.le_refl _) _).alloc (by first | (simp; done) | (simp; omega)) _).setCell (by first | (simp; done) | (simp; omega)) _).setCell (by first | (simp; done) | (simp; omega)) _).setCell (by first | (simp; done) | (simp; omega)) _)
set_option maxHeartbeats 4000000 in
theorem text_yes (a : Option Addr) (cap : Nat) (w : World) : Calls Tryz.prog 20 #[.agg #[.int .i64 21, .slice a 0 cap, .int .i64 1, .int .i64 1, .int .i64 0, .string ⟨#[]⟩, .string ⟨#[]⟩]] w fun e w' => e = .returned (.string ⟨#[84, 82, 85, 69]⟩) ∧ Below w.heap.size w w' := by
  generalize hP : (fun (e : Ending) (w' : World) => e = .returned (.string ⟨#[84, 82, 85, 69]⟩) ∧ Below w.heap.size w w') = P
  have HF := Lib.hid (fun (w' : World) (hb : Below w.heap.size w w') => show P (.returned (.string ⟨#[84, 82, 85, 69]⟩)) w' by rw [← hP]; exact ⟨rfl, hb⟩)
  clear hP
  go_enter Tryz.func20, Tryz.ntmps20
  go_wp2_with fail
  exact HF.out _ (by first | exact (Below.refl _ _).alloc (Nat.le_refl _) _ | exact ((Below.refl _ _).alloc (Nat.le_refl _) _).alloc (by first | (simp; done) | (simp; omega)) _ | exact (((Below.refl _ _).alloc (Nat.le_refl _) _).alloc (by first | (simp; done) | (simp; omega)) _).setCell (by first | (simp; done) | (simp; omega)) _ | exact ((((Below.refl _ _).alloc (Nat.le_refl _) _).alloc (by first | (simp; done) | (simp; omega)) _).setCell (by first | (simp; done) | (simp; omega)) _).setCell (by first | (simp; done) | (simp; omega)) _ | exact (((((Below.refl _ _).alloc (Nat.le_refl _) _).alloc (by first | (simp; done) | (simp; omega)) _).setCell (by first | (simp; done) | (simp; omega)) _).setCell (by first | (simp; done) | (simp; omega)) _).setCell (by first | (simp; done) | (simp; omega)) _)
set_option maxHeartbeats 4000000 in
theorem text_nan (a : Option Addr) (cap : Nat) (w : World) : Calls Tryz.prog 20 #[.agg #[.int .i64 21, .slice a 0 cap, .int .i64 3, .int .i64 0, .int .i64 (-1), .string ⟨#[]⟩, .string ⟨#[]⟩]] w fun e w' => e = .returned (.string ⟨#[78, 65, 78]⟩) ∧ Below w.heap.size w w' := by
  generalize hP : (fun (e : Ending) (w' : World) => e = .returned (.string ⟨#[78, 65, 78]⟩) ∧ Below w.heap.size w w') = P
  have HF := Lib.hid (fun (w' : World) (hb : Below w.heap.size w w') => show P (.returned (.string ⟨#[78, 65, 78]⟩)) w' by rw [← hP]; exact ⟨rfl, hb⟩)
  clear hP
  go_enter Tryz.func20, Tryz.ntmps20
  go_wp2_with fail
  exact HF.out _ (by first | exact (Below.refl _ _).alloc (Nat.le_refl _) _ | exact ((Below.refl _ _).alloc (Nat.le_refl _) _).alloc (by first | (simp; done) | (simp; omega)) _ | exact (((Below.refl _ _).alloc (Nat.le_refl _) _).alloc (by first | (simp; done) | (simp; omega)) _).setCell (by first | (simp; done) | (simp; omega)) _ | exact ((((Below.refl _ _).alloc (Nat.le_refl _) _).alloc (by first | (simp; done) | (simp; omega)) _).setCell (by first | (simp; done) | (simp; omega)) _).setCell (by first | (simp; done) | (simp; omega)) _ | exact (((((Below.refl _ _).alloc (Nat.le_refl _) _).alloc (by first | (simp; done) | (simp; omega)) _).setCell (by first | (simp; done) | (simp; omega)) _).setCell (by first | (simp; done) | (simp; omega)) _).setCell (by first | (simp; done) | (simp; omega)) _)
set_option maxHeartbeats 4000000 in
theorem text_inf (a : Option Addr) (cap : Nat) (w : World) : Calls Tryz.prog 20 #[.agg #[.int .i64 21, .slice a 0 cap, .int .i64 3, .int .i64 0, .int .i64 (-2), .string ⟨#[]⟩, .string ⟨#[]⟩]] w fun e w' => e = .returned (.string ⟨#[73, 78, 70, 73, 78, 73, 84, 89]⟩) ∧ Below w.heap.size w w' := by
  generalize hP : (fun (e : Ending) (w' : World) => e = .returned (.string ⟨#[73, 78, 70, 73, 78, 73, 84, 89]⟩) ∧ Below w.heap.size w w') = P
  have HF := Lib.hid (fun (w' : World) (hb : Below w.heap.size w w') => show P (.returned (.string ⟨#[73, 78, 70, 73, 78, 73, 84, 89]⟩)) w' by rw [← hP]; exact ⟨rfl, hb⟩)
  clear hP
  go_enter Tryz.func20, Tryz.ntmps20
  go_wp2_with fail
  exact HF.out _ (by first | exact (Below.refl _ _).alloc (Nat.le_refl _) _ | exact ((Below.refl _ _).alloc (Nat.le_refl _) _).alloc (by first | (simp; done) | (simp; omega)) _ | exact (((Below.refl _ _).alloc (Nat.le_refl _) _).alloc (by first | (simp; done) | (simp; omega)) _).setCell (by first | (simp; done) | (simp; omega)) _ | exact ((((Below.refl _ _).alloc (Nat.le_refl _) _).alloc (by first | (simp; done) | (simp; omega)) _).setCell (by first | (simp; done) | (simp; omega)) _).setCell (by first | (simp; done) | (simp; omega)) _ | exact (((((Below.refl _ _).alloc (Nat.le_refl _) _).alloc (by first | (simp; done) | (simp; omega)) _).setCell (by first | (simp; done) | (simp; omega)) _).setCell (by first | (simp; done) | (simp; omega)) _).setCell (by first | (simp; done) | (simp; omega)) _)
set_option maxHeartbeats 4000000 in
theorem text_int (n : Nat) (h : n ≤ 9223372036854775807) (a : Option Addr) (cap : Nat) (w : World) : Calls Tryz.prog 20 #[.agg #[.int .i64 21, .slice a 0 cap, .int .i64 2, .int .i64 (n : Int), .int .i64 0, .string ⟨#[]⟩, .string ⟨#[]⟩]] w fun e w' => e = .returned (.string (strB (wordT ⟨2, [], n, 0⟩))) ∧ Below w.heap.size w w' := by
  have hw := fun w => rwd_any ⟨2, [], n, 0⟩ ⟨by show (2 : Nat) ≤ 5; decide, h, by show (0 : Nat) ≤ 14; decide, by show (0 : Nat) ≤ 200; decide, (fun x hx => by cases hx)⟩ w
  obtain ⟨R, hR⟩ : ∃ R, strB (wordT ⟨2, [], n, 0⟩) = R := ⟨_, rfl⟩
  unfold Tkv at hw
  rw [hR] at hw ⊢
  have e0 : strB [] = ⟨#[]⟩ := rfl
  dsimp only at hw
  rw [e0] at hw
  clear e0 h
  have e1 : ((2 : Nat) : Int) = 2 := rfl
  have e2 : ((0 : Nat) : Int) = 0 := rfl
  rw [e1, e2] at hw
  clear e1 e2
  have HW := Lib.hid hw
  generalize hP : (fun (e : Ending) (w' : World) => e = .returned (.string R) ∧ Below w.heap.size w w') = P
  have HF := Lib.hid (fun (w' : World) (hb : Below w.heap.size w w') => show P (.returned (.string R)) w' by rw [← hP]; exact ⟨rfl, hb⟩)
  clear hP hR hw
  go_enter Tryz.func20, Tryz.ntmps20
  go_wp2_with fail
  try go_at_call 17
  refine (HW.out _).mono ?_
  rintro e w3 ⟨rfl, b3⟩
  have HB3 := Lib.hid b3
  clear b3
  go_wp2_with fail
  exact HF.out _ (by first | exact (((Below.refl _ _).alloc (Nat.le_refl _) _).alloc (by first | (simp; done) | (simp; omega)) _).trans (HB3.out.mono (by first | (simp; done) | (simp; omega))) | exact ((((Below.refl _ _).alloc (Nat.le_refl _) _).alloc (by first | (simp; done) | (simp; omega)) _).setCell (by first | (simp; done) | (simp; omega)) _).trans (HB3.out.mono (by first | (simp; done) | (simp; omega))) | exact ((((((Below.refl _ _).alloc (Nat.le_refl _) _).alloc (by first | (simp; done) | (simp; omega)) _).setCell (by first | (simp; done) | (simp; omega)) _).setCell (by first | (simp; done) | (simp; omega)) _).setCell (by first | (simp; done) | (simp; omega)) _).trans (HB3.out.mono (by first | (simp; done) | (simp; omega))))
set_option maxHeartbeats 4000000 in
theorem text_real (n sc : Nat) (h : n < 1000000000000000) (h1 : 1 ≤ sc) (h2 : sc ≤ 14) (a : Option Addr) (cap : Nat) (w : World) : Calls Tryz.prog 20 #[.agg #[.int .i64 21, .slice a 0 cap, .int .i64 3, .int .i64 (n : Int), .int .i64 (sc : Int), .string ⟨#[]⟩, .string ⟨#[]⟩]] w fun e w' => e = .returned (.string (strB (wordT ⟨3, [], n, sc⟩))) ∧ Below w.heap.size w w' := by
  have hw := fun w => rwd_any ⟨3, [], n, sc⟩ ⟨by show (3 : Nat) ≤ 5; decide, by show n ≤ _; omega, h2, by show (0 : Nat) ≤ 200; decide, (fun x hx => by cases hx)⟩ w
  obtain ⟨R, hR⟩ : ∃ R, strB (wordT ⟨3, [], n, sc⟩) = R := ⟨_, rfl⟩
  unfold Tkv at hw
  rw [hR] at hw ⊢
  have e0 : strB [] = ⟨#[]⟩ := rfl
  dsimp only at hw
  rw [e0] at hw
  have s1 : ((sc : Int) == -1) = false := by first | (simp; done) | (simp; omega)
  have s2 : ((sc : Int) == -2) = false := by first | (simp; done) | (simp; omega)
  clear e0 h h1 h2
  have e1 : ((3 : Nat) : Int) = 3 := rfl
  rw [e1] at hw
  clear e1
  have HW := Lib.hid hw
  generalize hP : (fun (e : Ending) (w' : World) => e = .returned (.string R) ∧ Below w.heap.size w w') = P
  have HF := Lib.hid (fun (w' : World) (hb : Below w.heap.size w w') => show P (.returned (.string R)) w' by rw [← hP]; exact ⟨rfl, hb⟩)
  clear hP hR hw
  go_enter Tryz.func20, Tryz.ntmps20
  go_wp2_with fail
  try go_at_call 17
  refine (HW.out _).mono ?_
  rintro e w3 ⟨rfl, b3⟩
  have HB3 := Lib.hid b3
  clear b3
  go_wp2_with fail
  exact HF.out _ (by first | exact (((Below.refl _ _).alloc (Nat.le_refl _) _).alloc (by first | (simp; done) | (simp; omega)) _).trans (HB3.out.mono (by first | (simp; done) | (simp; omega))) | exact ((((Below.refl _ _).alloc (Nat.le_refl _) _).alloc (by first | (simp; done) | (simp; omega)) _).setCell (by first | (simp; done) | (simp; omega)) _).trans (HB3.out.mono (by first | (simp; done) | (simp; omega))) | exact ((((((Below.refl _ _).alloc (Nat.le_refl _) _).alloc (by first | (simp; done) | (simp; omega)) _).setCell (by first | (simp; done) | (simp; omega)) _).setCell (by first | (simp; done) | (simp; omega)) _).setCell (by first | (simp; done) | (simp; omega)) _).trans (HB3.out.mono (by first | (simp; done) | (simp; omega))))
set_option maxHeartbeats 4000000 in
theorem text_text (s : ByteArray) (h : s.size ≤ 200) (a : Option Addr) (cap : Nat) (w : World) : Calls Tryz.prog 20 #[.agg #[.int .i64 21, .slice a 0 cap, .int .i64 4, .int .i64 0, .int .i64 0, .string s, .string ⟨#[]⟩]] w fun e w' => e = .returned (.string (strB (wordT ⟨4, sl s, 0, 0⟩))) ∧ Below w.heap.size w w' := by
  have hw := fun w => rwd_any ⟨4, sl s, 0, 0⟩ ⟨by show (4 : Nat) ≤ 5; decide, by show (0 : Nat) ≤ _; omega, by show (0 : Nat) ≤ 14; decide, by show (sl s).length ≤ _; rw [sl_length]; exact h, sl_lt s⟩ w
  obtain ⟨R, hR⟩ : ∃ R, strB (wordT ⟨4, sl s, 0, 0⟩) = R := ⟨_, rfl⟩
  unfold Tkv at hw
  rw [hR] at hw ⊢
  dsimp only at hw
  rw [strB_sl] at hw
  clear h
  have e1 : ((4 : Nat) : Int) = 4 := rfl
  have e2 : ((0 : Nat) : Int) = 0 := rfl
  rw [e1, e2] at hw
  clear e1 e2
  have HW := Lib.hid hw
  generalize hP : (fun (e : Ending) (w' : World) => e = .returned (.string R) ∧ Below w.heap.size w w') = P
  have HF := Lib.hid (fun (w' : World) (hb : Below w.heap.size w w') => show P (.returned (.string R)) w' by rw [← hP]; exact ⟨rfl, hb⟩)
  clear hP hR hw
  go_enter Tryz.func20, Tryz.ntmps20
  go_wp2_with fail
  try go_at_call 17
  refine (HW.out _).mono ?_
  rintro e w3 ⟨rfl, b3⟩
  have HB3 := Lib.hid b3
  clear b3
  go_wp2_with fail
  exact HF.out _ (by first | exact (((Below.refl _ _).alloc (Nat.le_refl _) _).alloc (by first | (simp; done) | (simp; omega)) _).trans (HB3.out.mono (by first | (simp; done) | (simp; omega))) | exact ((((Below.refl _ _).alloc (Nat.le_refl _) _).alloc (by first | (simp; done) | (simp; omega)) _).setCell (by first | (simp; done) | (simp; omega)) _).trans (HB3.out.mono (by first | (simp; done) | (simp; omega))) | exact ((((((Below.refl _ _).alloc (Nat.le_refl _) _).alloc (by first | (simp; done) | (simp; omega)) _).setCell (by first | (simp; done) | (simp; omega)) _).setCell (by first | (simp; done) | (simp; omega)) _).setCell (by first | (simp; done) | (simp; omega)) _).trans (HB3.out.mono (by first | (simp; done) | (simp; omega))))
set_option maxHeartbeats 4000000 in
theorem text_col (t : ByteArray) (a : Option Addr) (cap : Nat) (w : World) : Calls Tryz.prog 20 #[.agg #[.int .i64 22, .slice a 0 cap, .int .i64 0, .int .i64 0, .int .i64 0, .string t, .string ⟨#[]⟩]] w fun e w' => e = .returned (.string t) ∧ Below w.heap.size w w' := by
  generalize hP : (fun (e : Ending) (w' : World) => e = .returned (.string t) ∧ Below w.heap.size w w') = P
  have HF := Lib.hid (fun (w' : World) (hb : Below w.heap.size w w') => show P (.returned (.string t)) w' by rw [← hP]; exact ⟨rfl, hb⟩)
  clear hP
  go_enter Tryz.func20, Tryz.ntmps20
  go_wp2_with fail
  exact HF.out _ (by first | exact (Below.refl _ _).alloc (Nat.le_refl _) _ | exact ((Below.refl _ _).alloc (Nat.le_refl _) _).alloc (by first | (simp; done) | (simp; omega)) _ | exact (((Below.refl _ _).alloc (Nat.le_refl _) _).alloc (by first | (simp; done) | (simp; omega)) _).setCell (by first | (simp; done) | (simp; omega)) _ | exact ((((Below.refl _ _).alloc (Nat.le_refl _) _).alloc (by first | (simp; done) | (simp; omega)) _).setCell (by first | (simp; done) | (simp; omega)) _).setCell (by first | (simp; done) | (simp; omega)) _ | exact (((((Below.refl _ _).alloc (Nat.le_refl _) _).alloc (by first | (simp; done) | (simp; omega)) _).setCell (by first | (simp; done) | (simp; omega)) _).setCell (by first | (simp; done) | (simp; omega)) _).setCell (by first | (simp; done) | (simp; omega)) _)
set_option maxHeartbeats 4000000 in
theorem text_qual (t q : ByteArray) (ht : t.size ≤ 32) (hq : q.size ≤ 32) (hq0 : q.toList.isEmpty = false) (a : Option Addr) (cap : Nat) (w : World) : Calls Tryz.prog 20 #[.agg #[.int .i64 22, .slice a 0 cap, .int .i64 0, .int .i64 0, .int .i64 0, .string t, .string q]] w fun e w' => e = .returned (.string (q ++ ⟨#[46]⟩ ++ t)) ∧ Below w.heap.size w w' := by
  generalize hP : (fun (e : Ending) (w' : World) => e = .returned (.string (q ++ ⟨#[46]⟩ ++ t)) ∧ Below w.heap.size w w') = P
  have HF := Lib.hid (fun (w' : World) (hb : Below w.heap.size w w') => show P (.returned (.string (q ++ ⟨#[46]⟩ ++ t))) w' by rw [← hP]; exact ⟨rfl, hb⟩)
  clear hP
  have c1 : ¬ 9223372036854775807 < q.size + 1 := by omega
  have c2 : ¬ 9223372036854775807 < q.size + 1 + t.size := by omega
  go_enter Tryz.func20, Tryz.ntmps20
  go_wp2_with fail
  exact HF.out _ (by first | exact (Below.refl _ _).alloc (Nat.le_refl _) _ | exact ((Below.refl _ _).alloc (Nat.le_refl _) _).alloc (by first | (simp; done) | (simp; omega)) _ | exact (((Below.refl _ _).alloc (Nat.le_refl _) _).alloc (by first | (simp; done) | (simp; omega)) _).setCell (by first | (simp; done) | (simp; omega)) _ | exact ((((Below.refl _ _).alloc (Nat.le_refl _) _).alloc (by first | (simp; done) | (simp; omega)) _).setCell (by first | (simp; done) | (simp; omega)) _).setCell (by first | (simp; done) | (simp; omega)) _ | exact (((((Below.refl _ _).alloc (Nat.le_refl _) _).alloc (by first | (simp; done) | (simp; omega)) _).setCell (by first | (simp; done) | (simp; omega)) _).setCell (by first | (simp; done) | (simp; omega)) _).setCell (by first | (simp; done) | (simp; omega)) _)

end Go.Proofs.YtkffomfbnbcgaaaGreatDoor

namespace Go.Proofs.YtkffomfbnbcgaaaGreatDoor
set_option maxRecDepth 100000
open Go.RowKit Go.Joins Go.ChangeShapes Go.WideShapes Go.Great
set_option linter.unusedVariables false
set_option linter.unusedSimpArgs false

/-- an array of a law's own: built, given a place, stored -/
theorem arr_one {P : Program} {ops : Array Oper} {rest : List Oper} {o1 o2 o3 : Oper} {a : Act} {w : World} {Q : Exit → Act → World → Prop} (T : TypeId) (cells z : Array Value) (d1 d2 : Tmp) (parts : Array (Nat × Operand))
    (g1 : o1.guard = none) (h1 : o1.op = .build T parts) (e1 : o1.dst = some d1) (hf : P.built T (parts.map fun (i, x) => (i, a.eval x)).toList = some cells)
    (g2 : o2.guard = none) (e2 : o2.dst = some d2) (hrun : (execOp (a.put (some d1) (.agg cells)).eval o2).run P w = .ok (.value (.pointer (some ⟨w.heap.size, 0, none⟩))) (w.alloc (.cells z T)))
    (g3 : o3.guard = none) (h3 : o3.op = .store T (.tmp d2) (.tmp d1)) (e3 : o3.dst = none)
    (v1 : ((a.put (some d1) (.agg cells)).put (some d2) (.pointer (some ⟨w.heap.size, 0, none⟩))).eval (.tmp d2) = .pointer (some ⟨w.heap.size, 0, none⟩))
    (v2 : ((a.put (some d1) (.agg cells)).put (some d2) (.pointer (some ⟨w.heap.size, 0, none⟩))).eval (.tmp d1) = .agg cells)
    (hi : (P.info? T).map (·.size) = some cells.size) (hz : z.size = cells.size) (hone : cells.all (·.oneCell') = true)
    (h : wpList P ops Q rest ((a.put (some d1) (.agg cells)).put (some d2) (.pointer (some ⟨w.heap.size, 0, none⟩))) (w.alloc (.cells cells T))) : wpList P ops Q (o1 :: o2 :: o3 :: rest) a w := by
  refine wpList_buildTo g1 T parts h1 (some d1) e1 cells hf ?_
  refine wpList_allocTo g2 (some d2) e2 _ (.cells z T) hrun ?_
  refine wpList_store_rowOf g3 T (.tmp d2) (.tmp d1) h3 w.heap.size v1 (by rw [v2]; rfl) T z (heap_alloc_new w _) (by rw [v2]; exact hi) (by rw [v2]; exact hz) (by rw [v2]; exact hone) ?_
  rw [v2, e3]
  have : (w.alloc (.cells z T)).setRow w.heap.size cells = w.alloc (.cells cells T) := World.setRow_alloc_new w _ cells _
  show wpList P ops Q rest _ ((w.alloc (.cells z T)).setRow w.heap.size cells)
  rw [this]
  exact h
def z23 : Array Value := (List.replicate 23 (Value.string ByteArray.empty)).toArray
def txV (f : Nat → List Nat) : Array Value := ((List.range 23).map fun m => Value.string (strB (f m))).toArray
theorem txV_at (f : Nat → List Nat) {m : Nat} (h : m < 23) : (txV f)[m]? = some (.string (strB (f m))) := by
  unfold txV
  rw [List.getElem?_toArray, List.getElem?_map, List.getElem?_range h]
  rfl
def ahV : Array Value := txV aheadN
def bhV : Array Value := txV behindN
def sgV : Array Value := txV sgN
theorem ah_len (m : Nat) : (strB (aheadN m)).size ≤ 20 ∧ (strB (behindN m)).size ≤ 20 ∧ (strB (sgN m)).size ≤ 20 := by
  rw [strB_len, strB_len, strB_len]
  refine ⟨?_, ?_, ?_⟩
  · unfold aheadN; split <;> simp
  · unfold behindN; split <;> simp
  · unfold sgN; split <;> simp
/-- Text is right for what is less deep -/
def TextI (N : Nat) : Prop := ∀ (K : Bl) (w : World) (x : XE), depR x.er < N → RgE x.er → szE x.er ≤ 1048576 → XE.Mem K w x →
    Calls Tryz.prog 20 #[x.val] w fun e w' => e = .returned (.string (strB (textE x.er))) ∧ Below w.heap.size w w'
theorem text_len {e : Ex} (h : RgE e) : (textE e).length ≤ 410 * szE e := by
  have c21 : ∀ (k n s : Int) (t : ByteArray), textE (cst k n s t) = cstW k n s t := fun k n s t => by
    unfold cst
    rw [textE, textA]
    rfl
  have cz : ∀ (k n s : Int) (t : ByteArray), szE (cst k n s t) = 1 + t.size := fun k n s t => by
    unfold cst
    rw [szE, szL]
    rfl
  induction h with
  | null => rw [c21, cz]; decide
  | no => rw [c21, cz]; decide
  | yes => rw [c21, cz]; decide
  | nan => rw [c21, cz]; decide
  | inf => rw [c21, cz]; decide
  | int n h =>
    rw [c21, cz]
    have h2 := (word_ok ⟨2, [], n, 0⟩ ⟨by show (2 : Nat) ≤ 5; decide, h, by show (0 : Nat) ≤ 14; decide, by show (0 : Nat) ≤ 200; decide, (fun x hx => by cases hx)⟩).1
    show (wordT ⟨2, [], n, 0⟩).length ≤ _
    omega
  | real n sc h h1 h2 =>
    rw [c21, cz]
    have h2 := (word_ok ⟨3, [], n, sc⟩ ⟨by show (3 : Nat) ≤ 5; decide, by show n ≤ _; omega, h2, by show (0 : Nat) ≤ 200; decide, (fun x hx => by cases hx)⟩).1
    have e1 : cstW 3 n sc ⟨#[]⟩ = wordT ⟨3, [], n, sc⟩ := by
      unfold cstW
      rw [if_neg (by decide), if_neg (by decide), if_neg (by omega), if_neg (by omega)]
      rfl
    rw [e1]
    omega
  | text s h =>
    rw [c21, cz]
    have h2 := (word_ok ⟨4, sl s, 0, 0⟩ ⟨by show (4 : Nat) ≤ 5; decide, by show (0 : Nat) ≤ _; omega, by show (0 : Nat) ≤ 14; decide, by show (sl s).length ≤ _; rw [sl_length]; exact h, sl_lt s⟩).1
    show (wordT ⟨4, sl s, 0, 0⟩).length ≤ _
    omega
  | col t h =>
    rw [textE, textA]
    have h1 : leafW 22 0 0 0 t ⟨#[]⟩ = sl t := rfl
    rw [h1, sl_length, szE]
    omega
  | qual t q h hq =>
    rw [textE, textA, szE]
    unfold leafW
    rw [if_neg (by decide)]
    split
    · rw [sl_length]; omega
    · rw [List.length_append, List.length_cons, sl_length, sl_length]; omega
  | one op e ho h ih =>
    have h1 := ah_len op
    rw [strB_len, strB_len] at h1
    rw [textE_one, List.length_append, List.length_append]
    unfold mk1
    rw [szE, szL, szL]
    omega
  | two op a b ho ha hb iha ihb =>
    have h1 := ah_len op
    rw [strB_len, strB_len, strB_len] at h1
    rw [textE_two]
    simp only [List.length_append, List.length_cons, List.length_nil]
    unfold mk2
    rw [szE, szL, szL, szL]
    omega
set_option maxHeartbeats 16000000 in
theorem text_one {N : Nat} (HI : TextI N) {K : Bl} {w : World} (m : Nat) (hm1 : m ∈ oneL) (a : Option Addr) (cap : Nat) (y : XE) (hr : RgE y.er) (hd : depR y.er < N) (hs : szE y.er ≤ 1048576) (hm : XE.Mem K w (.mk (m : Int) 0 0 0 ⟨#[]⟩ ⟨#[]⟩ a cap [y])) :
    Calls Tryz.prog 20 #[.agg #[.int .i64 (m : Int), .slice a 1 cap, .int .i64 0, .int .i64 0, .int .i64 0, .string ⟨#[]⟩, .string ⟨#[]⟩]] w fun e w' => e = .returned (.string (strB (aheadN m ++ textE y.er ++ behindN m))) ∧ Below w.heap.size w w' := by
  have hm23 : m < 23 ∧ m ≠ 21 ∧ m ≠ 22 := by simp only [oneL, List.mem_cons, List.not_mem_nil, or_false] at hm1; omega
  have htl := text_len hr
  obtain ⟨lA, lB, -⟩ := ah_len m
  have hres : strB (aheadN m ++ textE y.er ++ behindN m) = strB (aheadN m) ++ strB (textE y.er) ++ strB (behindN m) := by rw [strB_app, strB_app]
  rw [hres]
  have hT : (strB (textE y.er)).size ≤ 1000000000 := by rw [strB_len]; omega
  have b1 : Below w.heap.size w (w.alloc (.cells #[.int .i64 (m : Int), .slice a 1 cap, .int .i64 0, .int .i64 0, .int .i64 0, .string ⟨#[]⟩, .string ⟨#[]⟩] 30)) := (Below.refl _ _).alloc (Nat.le_refl _) _
  have hn1 := Bx.new w #[.int .i64 (m : Int), .slice a 1 cap, .int .i64 0, .int .i64 0, .int .i64 0, .string ⟨#[]⟩, .string ⟨#[]⟩] 30
  obtain ⟨wa, hwa⟩ : ∃ wa, w.alloc (.cells #[.int .i64 (m : Int), .slice a 1 cap, .int .i64 0, .int .i64 0, .int .i64 0, .string ⟨#[]⟩, .string ⟨#[]⟩] 30) = wa := ⟨_, rfl⟩
  rw [hwa] at b1 hn1
  have hn2 := Bx.new wa ahV 88
  have b2 : Below wa.heap.size wa (wa.alloc (.cells ahV 88)) := (Below.refl _ _).alloc (Nat.le_refl _) _
  obtain ⟨wb, hwb⟩ : ∃ wb, wa.alloc (.cells ahV 88) = wb := ⟨_, rfl⟩
  rw [hwb] at b2 hn2
  have hn3 := Bx.new wb bhV 88
  have b3 : Below wb.heap.size wb (wb.alloc (.cells bhV 88)) := (Below.refl _ _).alloc (Nat.le_refl _) _
  obtain ⟨wc, hwc⟩ : ∃ wc, wb.alloc (.cells bhV 88) = wc := ⟨_, rfl⟩
  rw [hwc] at b3 hn3
  have b4 := b2.trans (b3.mono b2.size)
  have b5 := b1.trans (b4.mono b1.size)
  have hm5 := hm.below b5
  obtain ⟨b, o, rfl, -, hb, hcell, hmy⟩ := XE.Mem.at (k := 0) hm5 rfl
  have hcap : 1 ≤ cap := by unfold XE.Mem at hm; exact hm.1
  have hcm : cap ≤ maxLen := by unfold XE.Mem at hm; exact hm.2.1
  have k0 : wc.cell? ⟨w.heap.size, 0, none⟩ = some (.int .i64 (m : Int)) := (hn1.below b4).cell rfl
  have k1 : wc.cell? ⟨w.heap.size, 1, none⟩ = some (.slice (some ⟨b, o, none⟩) 1 cap) := (hn1.below b4).cell rfl
  have k2 : wc.cell? ⟨wa.heap.size, m, none⟩ = some (.string (strB (aheadN m))) := (hn2.below b3).cell (txV_at aheadN hm23.1)
  have k3 : wc.cell? ⟨wb.heap.size, m, none⟩ = some (.string (strB (behindN m))) := hn3.cell (txV_at behindN hm23.1)
  have ka0 : wa.cell? ⟨w.heap.size, 0, none⟩ = some (.int .i64 (m : Int)) := hn1.cell rfl
  have g1 : w.heap.size < wc.heap.size := (hn1.below b4).lt
  have g2 : wa.heap.size < wc.heap.size := (hn2.below b3).lt
  have g3 : wb.heap.size < wc.heap.size := hn3.lt
  have HCA := Lib.hid (fun (wv : World) (hv : Below wc.heap.size wc wv) => HI K wv y hd hr hs (hmy.below hv))
  obtain ⟨T, hTT⟩ : ∃ T, strB (textE y.er) = T := ⟨_, rfl⟩
  obtain ⟨A, hA⟩ : ∃ A, strB (aheadN m) = A := ⟨_, rfl⟩
  obtain ⟨B, hB⟩ : ∃ B, strB (behindN m) = B := ⟨_, rfl⟩
  rw [hTT] at HCA hT ⊢
  rw [hA] at k2 lA ⊢
  rw [hB] at k3 lB ⊢
  have c1 : ¬ 9223372036854775807 < A.size + T.size := by omega
  have c2 : ¬ 9223372036854775807 < A.size + T.size + B.size := by omega
  have o21 : ((m : Int) == 21) = false := by simp; omega
  have o22 : ((m : Int) == 22) = false := by simp; omega
  have m0 : (0 : Int) ≤ (m : Int) := by omega
  have m1 : (m : Int) < 23 := by omega
  have m2 : m < 23 := hm23.1
  obtain ⟨op1, kind1, num1, scale1, text1, qual1, a1, cap1, args1⟩ := y
  have q0 := hcell 0 _ rfl
  have q1 := hcell 1 _ rfl
  have q2 := hcell 2 _ rfl
  have q3 := hcell 3 _ rfl
  have q4 := hcell 4 _ rfl
  have q5 := hcell 5 _ rfl
  have q6 := hcell 6 _ rfl
  rw [Nat.zero_mul, Nat.add_zero] at q0 q1 q2 q3 q4 q5 q6
  simp only [XE.val] at HCA
  have HK := Lib.hid (fun (w0 : World) (hb0 : Below wc.heap.size wc w0) => show Below wc.heap.size wc w0 ∧ w0.cell? ⟨w.heap.size, 0, none⟩ = some (.int .i64 (m : Int)) ∧ w0.cell? ⟨w.heap.size, 1, none⟩ = some (.slice (some ⟨b, o, none⟩) 1 cap) ∧ w0.cell? ⟨wa.heap.size, m, none⟩ = some (.string A) ∧ w0.cell? ⟨wb.heap.size, m, none⟩ = some (.string B) ∧ w0.cell? ⟨b, o, none⟩ = some (.int .i64 op1) ∧ w0.cell? ⟨b, o + 1, none⟩ = some (.slice a1 args1.length cap1) ∧ w0.cell? ⟨b, o + 2, none⟩ = some (.int .i64 kind1) ∧ w0.cell? ⟨b, o + 3, none⟩ = some (.int .i64 num1) ∧ w0.cell? ⟨b, o + 4, none⟩ = some (.int .i64 scale1) ∧ w0.cell? ⟨b, o + 5, none⟩ = some (.string text1) ∧ w0.cell? ⟨b, o + 6, none⟩ = some (.string qual1) from
    ⟨hb0, (hb0.cell (by exact g1)).trans k0, (hb0.cell (by exact g1)).trans k1, (hb0.cell (by exact g2)).trans k2, (hb0.cell (by exact g3)).trans k3, (hb0.cell (by exact hb)).trans q0, (hb0.cell (by exact hb)).trans q1, (hb0.cell (by exact hb)).trans q2, (hb0.cell (by exact hb)).trans q3, (hb0.cell (by exact hb)).trans q4, (hb0.cell (by exact hb)).trans q5, (hb0.cell (by exact hb)).trans q6⟩)
  generalize hP : (fun (e : Ending) (w' : World) => e = .returned (.string (A ++ T ++ B)) ∧ Below w.heap.size w w') = P
  have HF := Lib.hid (fun (w' : World) (hb : Below wc.heap.size wc w') => show P (.returned (.string (A ++ T ++ B))) w' by rw [← hP]; exact ⟨rfl, b5.trans (hb.mono b5.size)⟩)
  clear hP hres htl hr hd hs hm hm5 hcell hmy hn1 hn2 hn3 b1 b2 b3 b4 b5 hTT hA hB hm1 hm23 hT lA lB
  go_enter Tryz.func20, Tryz.ntmps20
  go_upto_region 16 with fail
  refine wp_region_lit ?_
  refine arr_one 88 ahV z23 67 4 _ rfl rfl rfl (by kernel_rfl) rfl rfl (by kernel_rfl) rfl rfl rfl rfl rfl (by kernel_rfl) (by kernel_rfl) (by kernel_rfl) ?_
  rw [hwb]
  refine wpList_nil ?_
  simp only [Act.put, List.setIfInBounds_toArray, List.set_cons_zero, List.set_cons_succ]
  go_upto_region 17 with fail
  refine wp_region_lit ?_
  refine arr_one 88 bhV z23 68 5 _ rfl rfl rfl (by kernel_rfl) rfl rfl (by kernel_rfl) rfl rfl rfl rfl rfl (by kernel_rfl) (by kernel_rfl) (by kernel_rfl) ?_
  rw [hwc]
  refine wpList_nil ?_
  simp only [Act.put, List.setIfInBounds_toArray, List.set_cons_zero, List.set_cons_succ]
  go_wp2_with fail
  clear ka0 k0 k1 k2 k3 q0 q1 q2 q3 q4 q5 q6
  go_region_held3 (fun w0 => Below wc.heap.size wc w0 ∧ w0.cell? ⟨w.heap.size, 0, none⟩ = some (.int .i64 (m : Int)) ∧ w0.cell? ⟨w.heap.size, 1, none⟩ = some (.slice (some ⟨b, o, none⟩) 1 cap) ∧ w0.cell? ⟨wa.heap.size, m, none⟩ = some (.string A) ∧ w0.cell? ⟨wb.heap.size, m, none⟩ = some (.string B) ∧ w0.cell? ⟨b, o, none⟩ = some (.int .i64 op1) ∧ w0.cell? ⟨b, o + 1, none⟩ = some (.slice a1 args1.length cap1) ∧ w0.cell? ⟨b, o + 2, none⟩ = some (.int .i64 kind1) ∧ w0.cell? ⟨b, o + 3, none⟩ = some (.int .i64 num1) ∧ w0.cell? ⟨b, o + 4, none⟩ = some (.int .i64 scale1) ∧ w0.cell? ⟨b, o + 5, none⟩ = some (.string text1) ∧ w0.cell? ⟨b, o + 6, none⟩ = some (.string qual1))
    (first | exact HK.out _ (Below.refl _ _) | exact HK.out _ (Below.refl _ _).drew | exact HK.out _ hbx)
    (first | (go_at_call 20; refine (HCA.out _ (And.left (by assumption))).mono ?_; rintro e w1 ⟨rfl, hbx0⟩; have hbx : Below wc.heap.size wc w1 := clq (by assumption) hbx0))
  all_goals
    go_wp2_with fail
    exact HF.out _ hbx

end Go.Proofs.YtkffomfbnbcgaaaGreatDoor

namespace Go.Proofs.YtkffomfbnbcgaaaGreatDoor
set_option maxRecDepth 100000
open Go.RowKit Go.Joins Go.ChangeShapes Go.WideShapes Go.Great
set_option linter.unusedVariables false
set_option linter.unusedSimpArgs false

set_option maxHeartbeats 16000000 in
theorem text_two {N : Nat} (HI : TextI N) {K : Bl} {w : World} (m : Nat) (hm1 : m ∈ twoL) (a : Option Addr) (cap : Nat) (y z : XE) (hr : RgE y.er) (hd : depR y.er < N) (hs : szE y.er ≤ 1048576) (hrz : RgE z.er) (hdz : depR z.er < N) (hsz : szE z.er ≤ 1048576) (hm : XE.Mem K w (.mk (m : Int) 0 0 0 ⟨#[]⟩ ⟨#[]⟩ a cap [y, z])) :
    Calls Tryz.prog 20 #[.agg #[.int .i64 (m : Int), .slice a 2 cap, .int .i64 0, .int .i64 0, .int .i64 0, .string ⟨#[]⟩, .string ⟨#[]⟩]] w fun e w' => e = .returned (.string (strB (40 :: textE y.er ++ 32 :: sgN m ++ 32 :: textE z.er ++ [41]))) ∧ Below w.heap.size w w' := by
  have hm23 : m < 23 ∧ m ≠ 21 ∧ m ≠ 22 := by simp only [twoL, List.mem_cons, List.not_mem_nil, or_false] at hm1; omega
  have htl := text_len hr
  have htz := text_len hrz
  obtain ⟨-, -, lA⟩ := ah_len m
  have hres : strB (40 :: textE y.er ++ 32 :: sgN m ++ 32 :: textE z.er ++ [41]) = (⟨#[40]⟩ : ByteArray) ++ strB (textE y.er) ++ ⟨#[32]⟩ ++ strB (sgN m) ++ ⟨#[32]⟩ ++ strB (textE z.er) ++ ⟨#[41]⟩ := by
    have e1 : (⟨#[40]⟩ : ByteArray) = strB [40] := rfl
    have e2 : (⟨#[32]⟩ : ByteArray) = strB [32] := rfl
    have e3 : (⟨#[41]⟩ : ByteArray) = strB [41] := rfl
    rw [e1, e2, e3, strB_app, strB_app, strB_app, strB_app, strB_app, strB_app]
    congr 1
    simp
  rw [hres]
  have hT : (strB (textE y.er)).size ≤ 1000000000 := by rw [strB_len]; omega
  have hU : (strB (textE z.er)).size ≤ 1000000000 := by rw [strB_len]; omega
  have b1 : Below w.heap.size w (w.alloc (.cells #[.int .i64 (m : Int), .slice a 2 cap, .int .i64 0, .int .i64 0, .int .i64 0, .string ⟨#[]⟩, .string ⟨#[]⟩] 30)) := (Below.refl _ _).alloc (Nat.le_refl _) _
  have hn1 := Bx.new w #[.int .i64 (m : Int), .slice a 2 cap, .int .i64 0, .int .i64 0, .int .i64 0, .string ⟨#[]⟩, .string ⟨#[]⟩] 30
  obtain ⟨wa, hwa⟩ : ∃ wa, w.alloc (.cells #[.int .i64 (m : Int), .slice a 2 cap, .int .i64 0, .int .i64 0, .int .i64 0, .string ⟨#[]⟩, .string ⟨#[]⟩] 30) = wa := ⟨_, rfl⟩
  rw [hwa] at b1 hn1
  have hnb := Bx.new wa ahV 88
  have bb : Below wa.heap.size wa (wa.alloc (.cells ahV 88)) := (Below.refl _ _).alloc (Nat.le_refl _) _
  obtain ⟨wb, hwb⟩ : ∃ wb, wa.alloc (.cells ahV 88) = wb := ⟨_, rfl⟩
  rw [hwb] at bb hnb
  have hnc := Bx.new wb bhV 88
  have bc : Below wb.heap.size wb (wb.alloc (.cells bhV 88)) := (Below.refl _ _).alloc (Nat.le_refl _) _
  obtain ⟨wc, hwc⟩ : ∃ wc, wb.alloc (.cells bhV 88) = wc := ⟨_, rfl⟩
  rw [hwc] at bc hnc
  have hnd := Bx.new wc sgV 88
  have bd : Below wc.heap.size wc (wc.alloc (.cells sgV 88)) := (Below.refl _ _).alloc (Nat.le_refl _) _
  obtain ⟨wd, hwd⟩ : ∃ wd, wc.alloc (.cells sgV 88) = wd := ⟨_, rfl⟩
  rw [hwd] at bd hnd
  have bac := bb.trans (bc.mono bb.size)
  have b4 := bac.trans (bd.mono bac.size)
  have b5 := b1.trans (b4.mono b1.size)
  have hm5 := hm.below b5
  obtain ⟨b, o, rfl, -, hb, hcell, hmy⟩ := XE.Mem.at (k := 0) hm5 rfl
  obtain ⟨b', o', hbo, -, hb', hcell', hmz⟩ := XE.Mem.at (k := 1) hm5 rfl
  injection hbo with hbo
  injection hbo with hbo1 hbo2 hbo3
  subst hbo1 hbo2
  clear hbo3 hb'
  have hcap : 2 ≤ cap := by unfold XE.Mem at hm; exact hm.1
  have hcm : cap ≤ maxLen := by unfold XE.Mem at hm; exact hm.2.1
  have ka0 : wa.cell? ⟨w.heap.size, 0, none⟩ = some (.int .i64 (m : Int)) := hn1.cell rfl
  have kc1 : wc.cell? ⟨w.heap.size, 1, none⟩ = some (.slice (some ⟨b, o, none⟩) 2 cap) := (hn1.below bac).cell rfl
  have k0 : wd.cell? ⟨w.heap.size, 0, none⟩ = some (.int .i64 (m : Int)) := (hn1.below b4).cell rfl
  have k1 : wd.cell? ⟨w.heap.size, 1, none⟩ = some (.slice (some ⟨b, o, none⟩) 2 cap) := (hn1.below b4).cell rfl
  have k2 : wd.cell? ⟨wc.heap.size, m, none⟩ = some (.string (strB (sgN m))) := hnd.cell (txV_at sgN hm23.1)
  have g1 : w.heap.size < wd.heap.size := (hn1.below b4).lt
  have g4 : wc.heap.size < wd.heap.size := hnd.lt
  have HCA := Lib.hid (fun (wv : World) (hv : Below wd.heap.size wd wv) => HI K wv y hd hr hs (hmy.below hv))
  have HCB := Lib.hid (fun (wv : World) (hv : Below wd.heap.size wd wv) => HI K wv z hdz hrz hsz (hmz.below hv))
  obtain ⟨T, hTT⟩ : ∃ T, strB (textE y.er) = T := ⟨_, rfl⟩
  obtain ⟨U, hUU⟩ : ∃ U, strB (textE z.er) = U := ⟨_, rfl⟩
  obtain ⟨A, hA⟩ : ∃ A, strB (sgN m) = A := ⟨_, rfl⟩
  rw [hTT] at HCA hT ⊢
  rw [hUU] at HCB hU ⊢
  rw [hA] at k2 lA ⊢
  have c1 : ¬ 9223372036854775807 < 1 + T.size := by omega
  have c2 : ¬ 9223372036854775807 < 1 + T.size + 1 := by omega
  have c3 : ¬ 9223372036854775807 < 1 + T.size + 1 + A.size := by omega
  have c4 : ¬ 9223372036854775807 < 1 + T.size + 1 + A.size + 1 := by omega
  have c5 : ¬ 9223372036854775807 < 1 + T.size + 1 + A.size + 1 + U.size := by omega
  have c6 : ¬ 9223372036854775807 < 1 + T.size + 1 + A.size + 1 + U.size + 1 := by omega
  have o21 : ((m : Int) == 21) = false := by simp; omega
  have o22 : ((m : Int) == 22) = false := by simp; omega
  have m0 : (0 : Int) ≤ (m : Int) := by omega
  have m1 : (m : Int) < 23 := by omega
  have m2 : m < 23 := hm23.1
  obtain ⟨op1, kind1, num1, scale1, text1, qual1, a1, cap1, args1⟩ := y
  obtain ⟨op2, kind2, num2, scale2, text2, qual2, a2, cap2, args2⟩ := z
  have q0 := hcell 0 _ rfl
  have q1 := hcell 1 _ rfl
  have q2 := hcell 2 _ rfl
  have q3 := hcell 3 _ rfl
  have q4 := hcell 4 _ rfl
  have q5 := hcell 5 _ rfl
  have q6 := hcell 6 _ rfl
  have p0 := hcell' 0 _ rfl
  have p1 := hcell' 1 _ rfl
  have p2 := hcell' 2 _ rfl
  have p3 := hcell' 3 _ rfl
  have p4 := hcell' 4 _ rfl
  have p5 := hcell' 5 _ rfl
  have p6 := hcell' 6 _ rfl
  rw [Nat.zero_mul, Nat.add_zero] at q0 q1 q2 q3 q4 q5 q6
  rw [Nat.one_mul] at p0 p1 p2 p3 p4 p5 p6
  rw [Nat.add_zero] at p0
  simp only [XE.val] at HCA HCB
  have HK := Lib.hid (fun (w0 : World) (hb0 : Below wd.heap.size wd w0) => show Below wd.heap.size wd w0 ∧ w0.cell? ⟨w.heap.size, 0, none⟩ = some (.int .i64 (m : Int)) ∧ w0.cell? ⟨w.heap.size, 1, none⟩ = some (.slice (some ⟨b, o, none⟩) 2 cap) ∧ w0.cell? ⟨wc.heap.size, m, none⟩ = some (.string A) ∧ w0.cell? ⟨b, o, none⟩ = some (.int .i64 op1) ∧ w0.cell? ⟨b, o + 1, none⟩ = some (.slice a1 args1.length cap1) ∧ w0.cell? ⟨b, o + 2, none⟩ = some (.int .i64 kind1) ∧ w0.cell? ⟨b, o + 3, none⟩ = some (.int .i64 num1) ∧ w0.cell? ⟨b, o + 4, none⟩ = some (.int .i64 scale1) ∧ w0.cell? ⟨b, o + 5, none⟩ = some (.string text1) ∧ w0.cell? ⟨b, o + 6, none⟩ = some (.string qual1) ∧ w0.cell? ⟨b, o + 7, none⟩ = some (.int .i64 op2) ∧ w0.cell? ⟨b, o + 7 + 1, none⟩ = some (.slice a2 args2.length cap2) ∧ w0.cell? ⟨b, o + 7 + 2, none⟩ = some (.int .i64 kind2) ∧ w0.cell? ⟨b, o + 7 + 3, none⟩ = some (.int .i64 num2) ∧ w0.cell? ⟨b, o + 7 + 4, none⟩ = some (.int .i64 scale2) ∧ w0.cell? ⟨b, o + 7 + 5, none⟩ = some (.string text2) ∧ w0.cell? ⟨b, o + 7 + 6, none⟩ = some (.string qual2) from
    ⟨hb0, (hb0.cell (by exact g1)).trans k0, (hb0.cell (by exact g1)).trans k1, (hb0.cell (by exact g4)).trans k2, (hb0.cell (by exact hb)).trans q0, (hb0.cell (by exact hb)).trans q1, (hb0.cell (by exact hb)).trans q2, (hb0.cell (by exact hb)).trans q3, (hb0.cell (by exact hb)).trans q4, (hb0.cell (by exact hb)).trans q5, (hb0.cell (by exact hb)).trans q6, (hb0.cell (by exact hb)).trans p0, (hb0.cell (by exact hb)).trans p1, (hb0.cell (by exact hb)).trans p2, (hb0.cell (by exact hb)).trans p3, (hb0.cell (by exact hb)).trans p4, (hb0.cell (by exact hb)).trans p5, (hb0.cell (by exact hb)).trans p6⟩)
  generalize hP : (fun (e : Ending) (w' : World) => e = .returned (.string ((⟨#[40]⟩ : ByteArray) ++ T ++ ⟨#[32]⟩ ++ A ++ ⟨#[32]⟩ ++ U ++ ⟨#[41]⟩)) ∧ Below w.heap.size w w') = P
  have HF := Lib.hid (fun (w' : World) (hb : Below wd.heap.size wd w') => show P (.returned (.string ((⟨#[40]⟩ : ByteArray) ++ T ++ ⟨#[32]⟩ ++ A ++ ⟨#[32]⟩ ++ U ++ ⟨#[41]⟩))) w' by rw [← hP]; exact ⟨rfl, b5.trans (hb.mono b5.size)⟩)
  clear hP hres htl htz hr hd hs hrz hdz hsz hm hm5 hcell hcell' hmy hmz hn1 hnb hnc hnd b1 bb bc bd bac b4 b5 hTT hUU hA hm1 hm23 hT hU lA
  go_enter Tryz.func20, Tryz.ntmps20
  go_upto_region 16 with fail
  refine wp_region_lit ?_
  refine arr_one 88 ahV z23 67 4 _ rfl rfl rfl (by kernel_rfl) rfl rfl (by kernel_rfl) rfl rfl rfl rfl rfl (by kernel_rfl) (by kernel_rfl) (by kernel_rfl) ?_
  rw [hwb]
  refine wpList_nil ?_
  simp only [Act.put, List.setIfInBounds_toArray, List.set_cons_zero, List.set_cons_succ]
  go_upto_region 17 with fail
  refine wp_region_lit ?_
  refine arr_one 88 bhV z23 68 5 _ rfl rfl rfl (by kernel_rfl) rfl rfl (by kernel_rfl) rfl rfl rfl rfl rfl (by kernel_rfl) (by kernel_rfl) (by kernel_rfl) ?_
  rw [hwc]
  refine wpList_nil ?_
  simp only [Act.put, List.setIfInBounds_toArray, List.set_cons_zero, List.set_cons_succ]
  go_upto_region 20 with fail
  refine wp_region_lit ?_
  refine arr_one 88 sgV z23 88 6 _ rfl rfl rfl (by kernel_rfl) rfl rfl (by kernel_rfl) rfl rfl rfl rfl rfl (by kernel_rfl) (by kernel_rfl) (by kernel_rfl) ?_
  rw [hwd]
  refine wpList_nil ?_
  simp only [Act.put, List.setIfInBounds_toArray, List.set_cons_zero, List.set_cons_succ]
  go_wp2_with fail
  clear ka0 kc1 k0 k1 k2 q0 q1 q2 q3 q4 q5 q6 p0 p1 p2 p3 p4 p5 p6
  go_region_held3 (fun w0 => Below wd.heap.size wd w0 ∧ w0.cell? ⟨w.heap.size, 0, none⟩ = some (.int .i64 (m : Int)) ∧ w0.cell? ⟨w.heap.size, 1, none⟩ = some (.slice (some ⟨b, o, none⟩) 2 cap) ∧ w0.cell? ⟨wc.heap.size, m, none⟩ = some (.string A) ∧ w0.cell? ⟨b, o, none⟩ = some (.int .i64 op1) ∧ w0.cell? ⟨b, o + 1, none⟩ = some (.slice a1 args1.length cap1) ∧ w0.cell? ⟨b, o + 2, none⟩ = some (.int .i64 kind1) ∧ w0.cell? ⟨b, o + 3, none⟩ = some (.int .i64 num1) ∧ w0.cell? ⟨b, o + 4, none⟩ = some (.int .i64 scale1) ∧ w0.cell? ⟨b, o + 5, none⟩ = some (.string text1) ∧ w0.cell? ⟨b, o + 6, none⟩ = some (.string qual1) ∧ w0.cell? ⟨b, o + 7, none⟩ = some (.int .i64 op2) ∧ w0.cell? ⟨b, o + 7 + 1, none⟩ = some (.slice a2 args2.length cap2) ∧ w0.cell? ⟨b, o + 7 + 2, none⟩ = some (.int .i64 kind2) ∧ w0.cell? ⟨b, o + 7 + 3, none⟩ = some (.int .i64 num2) ∧ w0.cell? ⟨b, o + 7 + 4, none⟩ = some (.int .i64 scale2) ∧ w0.cell? ⟨b, o + 7 + 5, none⟩ = some (.string text2) ∧ w0.cell? ⟨b, o + 7 + 6, none⟩ = some (.string qual2))
    (first | exact HK.out _ (Below.refl _ _) | exact HK.out _ (Below.refl _ _).drew | exact HK.out _ hbx)
    (first | (go_at_call 20; (with_reducible refine (HCA.out _ (And.left (by assumption))).mono ?_); rintro e w1 ⟨rfl, hbx0⟩; have hbx : Below wd.heap.size wd w1 := clq (by assumption) hbx0) | (go_at_call 20; (with_reducible refine (HCB.out _ (And.left (by assumption))).mono ?_); rintro e w1 ⟨rfl, hbx0⟩; have hbx : Below wd.heap.size wd w1 := clq (by assumption) hbx0))
  all_goals
    go_wp2_with fail
    exact HF.out _ hbx

end Go.Proofs.YtkffomfbnbcgaaaGreatDoor

namespace Go.Proofs.YtkffomfbnbcgaaaGreatDoor
set_option maxRecDepth 100000
open Go.RowKit Go.Joins Go.ChangeShapes Go.WideShapes
set_option linter.unusedVariables false
set_option linter.unusedSimpArgs false

/-! parentheses around an expression, behind DELETE FROM t WHERE -/
def wDel : List Nat := [68, 69, 76, 69, 84, 69, 32, 70, 82, 79, 77, 32, 116, 32, 87, 72, 69, 82, 69, 32]
def tDel : List Tk := [tW wDelete, tW wFrom, tW [116], tW wWhere]
theorem lex_del (r : List Nat) : lexL (wDel ++ r) = preT tDel (lexL r) := by
  have hs : ∀ q, sepR (32 :: q) := fun q => .inr ⟨32, q, rfl, rfl⟩
  have e1 : wDel ++ r = [68, 69, 76, 69, 84, 69] ++ 32 :: ([70, 82, 79, 77] ++ 32 :: ([116] ++ 32 :: ([87, 72, 69, 82, 69] ++ 32 :: r))) := rfl
  rw [e1, lex_up [68, 69, 76, 69, 84, 69] wDelete 68 [69, 76, 69, 84, 69] rfl rfl (by decide) (by decide) (by decide) (hs _), lexL_sp, lex_up [70, 82, 79, 77] wFrom 70 [82, 79, 77] rfl rfl (by decide) (by decide) (by decide) (hs _), lexL_sp, lex_up [116] [116] 116 [] rfl rfl (by decide) (by decide) (by decide) (hs _), lexL_sp, lex_up [87, 72, 69, 82, 69] wWhere 87 [72, 69, 82, 69] rfl rfl (by decide) (by decide) (by decide) (hs _), lexL_sp, preT_app, preT_app, preT_app]
  rfl
/-- a text between parentheses -/
def parW (k : Nat) (l : List Nat) : List Nat := List.replicate k 40 ++ l ++ List.replicate k 41
def parT (k : Nat) (l : List Tk) : List Tk := List.replicate k tOpen ++ l ++ List.replicate k tShut
theorem parW_succ (k : Nat) (l : List Nat) : parW (k + 1) l = 40 :: parW k l ++ [41] := by
  unfold parW
  rw [List.replicate_succ, List.replicate_succ' (n := k) (a := 41)]
  simp only [List.cons_append, List.append_assoc]
theorem parT_succ (k : Nat) (l : List Tk) : parT (k + 1) l = tOpen :: parT k l ++ [tShut] := by
  unfold parT
  rw [List.replicate_succ, List.replicate_succ' (n := k) (a := tShut)]
  simp only [List.cons_append, List.append_assoc]
theorem lex_par {e : Ex} (h : RgE e) : ∀ (k : Nat) (r : List Nat), sepR r → lexL (parW k (textE e) ++ r) = preT (parT k (tokE e)) (lexL r)
  | 0, r, hr => by
    show lexL ([] ++ textE e ++ [] ++ r) = preT ([] ++ tokE e ++ []) (lexL r)
    rw [List.nil_append, List.append_nil, List.nil_append, List.append_nil]
    exact lex_form h r hr
  | k + 1, r, hr => by
    rw [parW_succ, parT_succ]
    have e1 : 40 :: parW k (textE e) ++ [41] ++ r = 40 :: (parW k (textE e) ++ 41 :: r) := by simp
    rw [e1, sgn_free 40 (by omega), lex_par h k (41 :: r) (.inr ⟨41, r, rfl, rfl⟩), sgn_free 41 (by omega), preT_app, preT_app]
    rfl
theorem rd_par {e : Ex} (h : RgE e) : ∀ (k : Nat) (rest : List Tk) (opn deep : Nat), opn + k + depR e ≤ 40 → EndR rest → Rd7 isN 7 (parT k (tokE e)) rest opn deep e ∧ Fst (parT k (tokE e))
  | 0, rest, opn, deep, hd, he => by
    have e1 : parT 0 (tokE e) = tokE e := by unfold parT; simp
    rw [e1]
    obtain ⟨hf, hr⟩ := rd_form h
    exact ⟨hr rest opn deep (by omega) (fun o d => (he o d).2.2), hf⟩
  | k + 1, rest, opn, deep, hd, he => by
    rw [parT_succ]
    obtain ⟨h1, h2⟩ := rd_par h k (tShut :: rest) (opn + 1) deep (by omega) (end_shut rest)
    exact ⟨rd_open (rd_down (end_shut rest) 7 0 (by omega) (fun _ => (h2.app _ _ _).2) (fun _ => (h2.app _ _ _).1) h1) (by omega), ⟨tOpen, _, rfl, fun _ _ _ => rfl, fun _ _ _ => rfl⟩⟩
theorem end_nil : EndR [] := fun o d => ⟨fun lvl => by
  match lvl with
  | 0 => rfl
  | 1 => rfl
  | 2 => rfl
  | 3 => rfl
  | 4 => rfl
  | 5 => rfl
  | k + 6 => rfl, rfl, rfl⟩
/-- what is read behind DELETE FROM t WHERE -/
theorem par_toks {e : Ex} (h : RgE e) (k : Nat) : lexL (wDel ++ parW k (textE e)) = .ok (tDel ++ parT k (tokE e)) := by
  rw [lex_del]
  have := lex_par h k [] (.inl rfl)
  rw [List.append_nil] at this
  rw [this, lexL_nil]
  simp [preT]
theorem par_parse {e : Ex} (h : RgE e) (k : Nat) (hd : k + depR e ≤ 40) : ∃ n, parseP isN n (tDel ++ parT k (tokE e)) = some (.ok { kind := 8, table := [116], whr := e }) := by
  obtain ⟨h1, h2⟩ := rd_par h k [] 0 0 (by omega) end_nil
  obtain ⟨n, hn⟩ := rd_down (isName := isN) end_nil 7 0 (by omega) (fun _ => (h2.app _ _ _).2) (fun _ => (h2.app _ _ _).1) h1
  rw [List.append_nil] at hn
  refine ⟨n, ?_⟩
  have hw : wholeP isN n ⟨parT k (tokE e), 0, 0⟩ = some (.ok (e, ⟨[], 0, depR e⟩)) := by
    unfold wholeP
    rw [hn]
    show some (Except.ok (e, (⟨[], 0, max 0 (depR e)⟩ : PS))) = _
    rw [Nat.zero_max]
  have hwh : whereP isN n ⟨tW wWhere :: parT k (tokE e), 0, 0⟩ = some (.ok (e, ⟨[], 0, depR e⟩)) := by
    unfold whereP
    rw [show atP wWhere ⟨tW wWhere :: parT k (tokE e), 0, 0⟩ = true from rfl, if_pos rfl]
    exact hw
  have hst : stmtP isN n ⟨tDel ++ parT k (tokE e), 0, 0⟩ = some (.ok ({ kind := 8, table := [116], whr := e }, ⟨[], 0, depR e⟩)) := by
    show deleteP isN n ⟨tW wFrom :: tW [116] :: tW wWhere :: parT k (tokE e), 0, 0⟩ = _
    unfold deleteP
    show bindR (nameP isN ⟨tW [116] :: tW wWhere :: parT k (tokE e), 0, 0⟩) _ = _
    have hnm : nameP isN ⟨tW [116] :: tW wWhere :: parT k (tokE e), 0, 0⟩ = retR [116] ⟨tW wWhere :: parT k (tokE e), 0, 0⟩ := by
      unfold nameP tW
      dsimp only
      rw [if_pos ⟨rfl, by decide +kernel⟩]
    rw [hnm]
    show bindR (whereP isN n ⟨tW wWhere :: parT k (tokE e), 0, 0⟩) _ = _
    rw [hwh]
    rfl
  unfold parseP
  rw [hst]
  dsimp only
  rw [if_pos rfl, if_pos (by omega)]

end Go.Proofs.YtkffomfbnbcgaaaGreatDoor

namespace Go.Proofs.YtkffomfbnbcgaaaGreatDoor
set_option maxRecDepth 100000
open Go.RowKit Go.Joins Go.ChangeShapes Go.WideShapes Go.Great
set_option linter.unusedVariables false
set_option linter.unusedSimpArgs false

theorem XE.er_leaf {y : XE} {op kind num scale : Int} {text qual : ByteArray} (h : y.er = .mk op kind num scale text qual []) : ∃ a cap, y = .mk op kind num scale text qual a cap [] := by
  obtain ⟨a, cap, args, rfl, hl⟩ := XE.er_mk h
  obtain rfl := XE.erL_nil hl
  exact ⟨a, cap, rfl⟩
theorem text_cst (k n s : Int) (t : ByteArray) : textE (cst k n s t) = cstW k n s t := by
  unfold cst
  rw [textE, textA]
  rfl
theorem text_lt {e : Ex} (h : RgE e) : ∀ x ∈ textE e, x < 256 := by
  induction h with
  | null => rw [text_cst]; decide
  | no => rw [text_cst]; decide
  | yes => rw [text_cst]; decide
  | nan => rw [text_cst]; decide
  | inf => rw [text_cst]; decide
  | int n h =>
    rw [text_cst]
    exact (word_ok ⟨2, [], n, 0⟩ ⟨by show (2 : Nat) ≤ 5; decide, h, by show (0 : Nat) ≤ 14; decide, by show (0 : Nat) ≤ 200; decide, (fun x hx => by cases hx)⟩).2
  | real n sc h h1 h2 =>
    rw [text_cst]
    have h2 := (word_ok ⟨3, [], n, sc⟩ ⟨by show (3 : Nat) ≤ 5; decide, by show n ≤ _; omega, h2, by show (0 : Nat) ≤ 200; decide, (fun x hx => by cases hx)⟩).2
    have e1 : cstW 3 n sc ⟨#[]⟩ = wordT ⟨3, [], n, sc⟩ := by
      unfold cstW
      rw [if_neg (by decide), if_neg (by decide), if_neg (by omega), if_neg (by omega)]
      rfl
    rw [e1]
    exact h2
  | text s h =>
    rw [text_cst]
    exact (word_ok ⟨4, sl s, 0, 0⟩ ⟨by show (4 : Nat) ≤ 5; decide, by show (0 : Nat) ≤ _; omega, by show (0 : Nat) ≤ 14; decide, by show (sl s).length ≤ _; rw [sl_length]; exact h, sl_lt s⟩).2
  | col t h =>
    rw [textE, textA]
    exact sl_lt t
  | qual t q h hq =>
    rw [textE, textA]
    unfold leafW
    rw [if_neg (by decide)]
    split
    · exact sl_lt t
    · intro x hx
      rcases List.mem_append.1 hx with h | h
      · exact sl_lt q x h
      · rcases List.mem_cons.1 h with rfl | h
        · decide
        · exact sl_lt t x h
  | one op e ho h ih =>
    have h1 : (∀ x ∈ aheadN op, x < 256) ∧ ∀ x ∈ behindN op, x < 256 := by
      simp only [oneL, List.mem_cons, List.not_mem_nil, or_false] at ho
      rcases ho with rfl | rfl | rfl | rfl | rfl | rfl <;> decide
    rw [textE_one]
    intro x hx
    rcases List.mem_append.1 hx with h | h
    · rcases List.mem_append.1 h with h | h
      · exact h1.1 x h
      · exact ih x h
    · exact h1.2 x h
  | two op a b ho ha hb iha ihb =>
    have h1 : ∀ x ∈ sgN op, x < 256 := by
      simp only [twoL, List.mem_cons, List.not_mem_nil, or_false] at ho
      rcases ho with rfl | rfl | rfl | rfl | rfl | rfl | rfl | rfl | rfl | rfl | rfl | rfl | rfl | rfl <;> decide
    rw [textE_two]
    intro x hx
    simp only [List.mem_append, List.mem_cons, List.not_mem_nil, or_false] at hx
    rcases hx with (((h | h) | (h | h)) | (h | h)) | h
    · omega
    · exact iha x h
    · omega
    · exact h1 x h
    · omega
    · exact ihb x h
    · omega
theorem name_size {t : ByteArray} (h : nameB t = true) : t.size ≤ 32 ∧ t.toList.isEmpty = false := by
  obtain ⟨c, r, hs, -, -, hl, -⟩ := name_word h
  have h1 := sl_length t
  rw [hs] at h1
  refine ⟨by omega, ?_⟩
  cases he : t.toList.isEmpty with
  | false => rfl
  | true =>
    rw [ByteArray.toList_eq, List.isEmpty_iff] at he
    unfold sl at hs
    rw [he] at hs
    cases hs
theorem mono_str {P : Program} {f : FuncId} {args : Array Value} {w : World} {s t : ByteArray} (h : Calls P f args w fun e w' => e = .returned (.string s) ∧ Below w.heap.size w w') (hst : s = t) : Calls P f args w fun e w' => e = .returned (.string t) ∧ Below w.heap.size w w' := by
  subst hst; exact h
/-- the form of a right expression -/
theorem rtext : ∀ N : Nat, TextI N
  | 0 => fun K w x hd => absurd hd (by omega)
  | N + 1 => fun K w x hd hr hs hm => by
    obtain ⟨e, he⟩ : ∃ e, x.er = e := ⟨_, rfl⟩
    rw [he] at hd hr hs ⊢
    cases hr with
    | null =>
      unfold cst at he
      obtain ⟨a, cap, rfl⟩ := XE.er_leaf he
      rw [text_cst]
      exact mono_str (text_null a cap w) rfl
    | no =>
      unfold cst at he
      obtain ⟨a, cap, rfl⟩ := XE.er_leaf he
      rw [text_cst]
      exact mono_str (text_no a cap w) rfl
    | yes =>
      unfold cst at he
      obtain ⟨a, cap, rfl⟩ := XE.er_leaf he
      rw [text_cst]
      exact mono_str (text_yes a cap w) rfl
    | nan =>
      unfold cst at he
      obtain ⟨a, cap, rfl⟩ := XE.er_leaf he
      rw [text_cst]
      exact mono_str (text_nan a cap w) rfl
    | inf =>
      unfold cst at he
      obtain ⟨a, cap, rfl⟩ := XE.er_leaf he
      rw [text_cst]
      exact mono_str (text_inf a cap w) rfl
    | int n h =>
      unfold cst at he
      obtain ⟨a, cap, rfl⟩ := XE.er_leaf he
      rw [text_cst]
      exact text_int n h a cap w
    | real n sc h h1 h2 =>
      unfold cst at he
      obtain ⟨a, cap, rfl⟩ := XE.er_leaf he
      rw [text_cst]
      have e1 : cstW 3 n sc ⟨#[]⟩ = wordT ⟨3, [], n, sc⟩ := by
        unfold cstW
        rw [if_neg (by decide), if_neg (by decide), if_neg (by omega), if_neg (by omega)]
        rfl
      rw [e1]
      exact text_real n sc h h1 h2 a cap w
    | text s h =>
      unfold cst at he
      obtain ⟨a, cap, rfl⟩ := XE.er_leaf he
      rw [text_cst]
      exact text_text s h a cap w
    | col t h =>
      obtain ⟨a, cap, rfl⟩ := XE.er_leaf he
      rw [textE, textA]
      refine mono_str (text_col t a cap w) ?_
      show t = strB (leafW 22 0 0 0 t ⟨#[]⟩)
      rw [show leafW 22 0 0 0 t ⟨#[]⟩ = sl t from rfl, strB_sl]
    | qual t q h hq =>
      obtain ⟨a, cap, rfl⟩ := XE.er_leaf he
      rw [textE, textA]
      refine mono_str (text_qual t q (name_size h).1 (name_size hq).1 (name_size hq).2 a cap w) ?_
      have hq0 : ¬ q.size = 0 := fun e => by
        obtain ⟨c, s, hs, -⟩ := name_word hq
        have := sl_length q
        rw [hs, e] at this
        cases this
      unfold leafW
      rw [if_neg (by decide), if_neg hq0, show sl q ++ 46 :: sl t = sl q ++ [46] ++ sl t by simp, ← strB_app, ← strB_app, strB_sl, strB_sl]
      rfl
    | one op e ho h =>
      unfold mk1 at he
      obtain ⟨a, cap, args, rfl, hl⟩ := XE.er_mk he
      obtain ⟨y, t, rfl, hy, ht⟩ := XE.erL_cons hl
      obtain rfl := XE.erL_nil ht
      subst hy
      have hd' : depR y.er < N := by unfold mk1 at hd; rw [depR, depL, depL] at hd; omega
      have hs' : szE y.er ≤ 1048576 := by unfold mk1 at hs; rw [szE, szL, szL] at hs; omega
      rw [textE_one]
      exact text_one (rtext N) op ho a cap y h hd' hs' hm
    | two op p q ho hp hq =>
      unfold mk2 at he
      obtain ⟨a, cap, args, rfl, hl⟩ := XE.er_mk he
      obtain ⟨y, t, rfl, hy, ht⟩ := XE.erL_cons hl
      obtain ⟨z, t, rfl, hz, ht⟩ := XE.erL_cons ht
      obtain rfl := XE.erL_nil ht
      subst hy hz
      have hd' : depR y.er < N ∧ depR z.er < N := by unfold mk2 at hd; rw [depR, depL, depL, depL] at hd; omega
      have hs' : szE y.er ≤ 1048576 ∧ szE z.er ≤ 1048576 := by unfold mk2 at hs; rw [szE, szL, szL, szL] at hs; omega
      rw [textE_two]
      exact text_two (rtext N) op ho a cap y z hp hd'.1 hs'.1 hq hd'.2 hs'.2 hm
theorem and15 (z : Int) : ∃ m : Nat, m < 16 ∧ bits .and .i64 z 15 = (m : Int) := by
  refine ⟨(BitVec.ofInt 64 z &&& BitVec.ofInt 64 15).toNat, ?_, ?_⟩
  · rw [BitVec.toNat_and]
    exact Nat.lt_of_le_of_lt Nat.and_le_right (by decide)
  · have h : (BitVec.ofInt 64 z &&& BitVec.ofInt 64 15).toNat < 16 := by
      rw [BitVec.toNat_and]
      exact Nat.lt_of_le_of_lt Nat.and_le_right (by decide)
    generalize hx : (BitVec.ofInt 64 z &&& BitVec.ofInt 64 15).toNat = x at h
    refine Eq.trans (congrArg (fun n : Nat => IntKind.i64.wrap (n : Int)) hx) ?_
    show IntKind.i64.wrap (x : Int) = (x : Int)
    rw [IntKind.wrap_i64]
    omega
theorem par_lt {k : Nat} {l : List Nat} (h : ∀ x ∈ l, x < 256) : ∀ x ∈ wDel ++ parW k l, x < 256 := by
  intro x hx
  rcases List.mem_append.1 hx with h1 | h1
  · have : ∀ x ∈ wDel, x < 256 := by decide
    exact this x h1
  · unfold parW at h1
    rcases List.mem_append.1 h1 with h1 | h1
    · rcases List.mem_append.1 h1 with h1 | h1
      · rw [List.eq_of_mem_replicate h1]; decide
      · exact h x h1
    · rw [List.eq_of_mem_replicate h1]; decide
theorem par_len (k : Nat) (l : List Nat) : (wDel ++ parW k l).length = 20 + (k + l.length + k) := by
  unfold parW
  simp [wDel]
  omega
/-- the statement with the expression between k pairs of parentheses is read -/
theorem par_read {e : Ex} (h : RgE e) (k : Nat) (hk : k + depR e ≤ 40) (hl : (textE e).length ≤ 3000) (h16 : k < 16) : ∃ n, parseS n (strB (wDel ++ parW k (textE e))) = some (.ok { kind := 8, table := [116], whr := e }) := by
  obtain ⟨n, hn⟩ := par_parse h k hk
  refine ⟨n, ?_⟩
  unfold parseS
  rw [sl_strB (par_lt (text_lt h))]
  unfold toksE
  rw [if_neg (by rw [par_len]; omega), par_toks h k]
  exact hn

end Go.Proofs.YtkffomfbnbcgaaaGreatDoor

namespace Go.Proofs.YtkffomfbnbcgaaaGreatDoor
set_option maxRecDepth 100000
open Go.RowKit Go.Joins Go.ChangeShapes Go.WideShapes
set_option linter.unusedVariables false

theorem rep_snoc (c : Nat) (j : Nat) : strB (List.replicate j c) ++ strB [c] = strB (List.replicate (j + 1) c) := by
  rw [strB_app, List.replicate_succ']
theorem rep_size (c : Nat) (j : Nat) : (strB (List.replicate j c)).size = j := by rw [strB_len, List.length_replicate]
theorem par_one (S : ByteArray) (l : List Nat) (h : strB l = S) : (⟨#[68, 69, 76, 69, 84, 69, 32, 70, 82, 79, 77, 32, 116, 32, 87, 72, 69, 82, 69, 32]⟩ : ByteArray) ++ S = strB (wDel ++ parW 0 l) := by
  have e1 : (⟨#[68, 69, 76, 69, 84, 69, 32, 70, 82, 79, 77, 32, 116, 32, 87, 72, 69, 82, 69, 32]⟩ : ByteArray) = strB wDel := rfl
  rw [e1, ← h, strB_app]
  unfold parW
  simp
theorem par_two (S : ByteArray) (l : List Nat) (h : strB l = S) (k : Nat) : (⟨#[68, 69, 76, 69, 84, 69, 32, 70, 82, 79, 77, 32, 116, 32, 87, 72, 69, 82, 69, 32]⟩ : ByteArray) ++ strB (List.replicate k 40) ++ S ++ strB (List.replicate k 41) = strB (wDel ++ parW k l) := by
  have e1 : (⟨#[68, 69, 76, 69, 84, 69, 32, 70, 82, 79, 77, 32, 116, 32, 87, 72, 69, 82, 69, 32]⟩ : ByteArray) = strB wDel := rfl
  rw [e1, ← h, strB_app, strB_app, strB_app]
  unfold parW
  simp

end Go.Proofs.YtkffomfbnbcgaaaGreatDoor
