/-
  Edges in memory; the document's waits (haspref11): has, waits, Next: contracts over the translation.
  Conditions: the edges lie in memory.
-/
import Derived.Test.YtlhipnklljjahaaInt1
import Derived.Test.YtlhipnklljjahaaWt2
namespace Go.Proofs.Ytlhipnklljjahaa
open Go.RowKit Go.Joins Go.ChangeShapes Go.WideShapes
set_option linter.unusedVariables false
set_option linter.unnecessarySimpa false
set_option linter.unusedSimpArgs false

/-- edges in memory -/
structure IsEg (w : World) (b off : Nat) (E : List Eg) : Prop where
  hb : 0 < E.length → b < w.heap.size
  c0 : ∀ (i : Nat) (x y : Int), E[i]? = some (x, y) → w.cell? ⟨b, off + i * 2, none⟩ = some (.int .i64 x)
  c1 : ∀ (i : Nat) (x y : Int), E[i]? = some (x, y) → w.cell? ⟨b, off + i * 2 + 1, none⟩ = some (.int .i64 y)
theorem IsEg.below {w w' : World} {b off : Nat} {E : List Eg} (h : IsEg w b off E) (hw : Below w.heap.size w w') : IsEg w' b off E := by
  obtain ⟨hc, _⟩ := bcell hw
  refine ⟨fun hl => Nat.lt_of_lt_of_le (h.hb hl) hw.size, fun i x y hx => ?_, fun i x y hx => ?_⟩
  · have hl : 0 < E.length := by have := (List.getElem?_eq_some_iff.1 hx).1; omega
    rw [hc _ _ (h.hb hl)]
    exact h.c0 i x y hx
  · have hl : 0 < E.length := by have := (List.getElem?_eq_some_iff.1 hx).1; omega
    rw [hc _ _ (h.hb hl)]
    exact h.c1 i x y hx
theorem IsEg.frm {F : Bl} {w w' : World} {b off : Nat} {E : List Eg} (h : IsEg w b off E) (hf : Frm F w w') (hb : 0 < E.length → ¬ F b) : IsEg w' b off E := by
  refine ⟨fun hl => Nat.lt_of_lt_of_le (h.hb hl) hf.size, fun i x y hx => ?_, fun i x y hx => ?_⟩
  · have hl : 0 < E.length := by have := (List.getElem?_eq_some_iff.1 hx).1; omega
    rw [hf.cell (h.hb hl) (hb hl)]
    exact h.c0 i x y hx
  · have hl : 0 < E.length := by have := (List.getElem?_eq_some_iff.1 hx).1; omega
    rw [hf.cell (h.hb hl) (hb hl)]
    exact h.c1 i x y hx

set_option maxHeartbeats 1000000 in
theorem rhas_any (a : Option Addr) (b off cap : Nat) (l : List Int) (hm : l.length ≤ maxLen) (ha : l.length = 0 ∨ a = some ⟨b, off, none⟩) (w : World) (hA : IsN w b off l) (x : Int) :
    Calls Try.prog 20 #[.slice a l.length cap, .int .i64 x] w fun e w' => e = .returned (.bool (decide (x ∈ l))) ∧ w = w' := by
  obtain ⟨T, hT⟩ : ∃ T, decide (x ∈ l) = T := ⟨_, rfl⟩
  rw [hT]
  have HT := Lib.hid hT
  have HA := Lib.hid ha
  have HB := Lib.hid hA
  have hm9 : (l.length : Int) ≤ 9223372036854775807 := by unfold maxLen at hm; omega
  obtain ⟨m, em⟩ : ∃ m, l.length = m := ⟨_, rfl⟩
  have EM := Lib.hid em
  rw [em] at hm9 ⊢
  clear hT ha hA hm em
  go_enter Try.func20, Try.ntmps20
  go_wp2
  go_loopw [5] (fun i wr => ∃ k : Nat, k ≤ m ∧ i = .int .i64 k ∧ Hid (∀ j y, j < k → l[j]? = some y → y ≠ x) ∧ w = wr) (fun i _ => m - (intOf i).toNat)
  case atStart => exact ⟨0, Nat.zero_le _, rfl, fun j y hj => absurd hj (by omega), rfl⟩
  case round =>
    obtain ⟨k, hk, rfl, HK, rfl⟩ := hrel
    by_cases c : k < m
    · have c1 : (k : Int) < (m : Int) := by omega
      obtain rfl : a = some ⟨b, off, none⟩ := by rcases HA.out with h | h; (have := EM.out; omega); exact h
      have hx : l[k]? = some (l[k]'(by rw [EM.out]; exact c)) := List.getElem?_eq_getElem _
      generalize l[k]'(by rw [EM.out]; exact c) = y at *
      have a0 := HB.out.c k y hx
      have HX := Lib.hid hx
      clear hx
      by_cases q : y = x
      · have q1 : (y == x) = true := by simpa using q
        have hTt : T = true := by
          rw [← HT.out]
          exact decide_eq_true (by rw [← q]; exact List.mem_of_getElem? HX.out)
        subst hTt
        clear q
        go_wp2
        go_ret
        exact ⟨rfl, rfl⟩
      · have q1 : (y == x) = false := by simpa using q
        have HK2 : Hid (∀ j z, j < k + 1 → l[j]? = some z → z ≠ x) := fun j z hj hz => by
          by_cases e : j = k
          · rw [e, HX.out] at hz
            injection hz with hz
            rw [← hz]; exact q
          · exact HK.out j z (by omega) hz
        clear q
        go_wp2
        go_roundw
        case rel => exact ⟨k + 1, by omega, by go_num, HK2, by trivial⟩
        case measure => simp [intOf]; omega
    · obtain rfl : k = m := by omega
      have hTf : T = false := by
        rw [← HT.out]
        refine decide_eq_false fun hc => ?_
        obtain ⟨j, hj⟩ := List.getElem?_of_mem hc
        have := (List.getElem?_eq_some_iff.1 hj).1
        exact HK.out j x (by rw [← EM.out]; exact this) hj rfl
      subst hTf
      go_wp2
      go_ret
      exact ⟨rfl, rfl⟩

set_option maxHeartbeats 1000000 in
theorem rwaits_any (a : Option Addr) (b off cap : Nat) (E : List Eg) (hm : E.length ≤ maxLen) (ha : E.length = 0 ∨ a = some ⟨b, off, none⟩) (w : World) (hA : IsEg w b off E) (p q : Int) :
    Calls Try.prog 18 #[.slice a E.length cap, .int .i64 p, .int .i64 q] w fun e w' => e = .returned (.bool (decide ((p, q) ∈ E))) ∧ w = w' := by
  obtain ⟨T, hT⟩ : ∃ T, decide ((p, q) ∈ E) = T := ⟨_, rfl⟩
  rw [hT]
  have HT := Lib.hid hT
  have HA := Lib.hid ha
  have HB := Lib.hid hA
  have hm9 : (E.length : Int) ≤ 9223372036854775807 := by unfold maxLen at hm; omega
  obtain ⟨m, em⟩ : ∃ m, E.length = m := ⟨_, rfl⟩
  have EM := Lib.hid em
  rw [em] at hm9 ⊢
  clear hT ha hA hm em
  go_enter Try.func18, Try.ntmps18
  go_wp2
  go_loopw [7] (fun i wr => ∃ k : Nat, k ≤ m ∧ i = .int .i64 k ∧ Hid (∀ j y, j < k → E[j]? = some y → y ≠ (p, q)) ∧ w = wr) (fun i _ => m - (intOf i).toNat)
  case atStart => exact ⟨0, Nat.zero_le _, rfl, fun j y hj => absurd hj (by omega), rfl⟩
  case round =>
    obtain ⟨k, hk, rfl, HK, rfl⟩ := hrel
    by_cases c : k < m
    · have c1 : (k : Int) < (m : Int) := by omega
      obtain rfl : a = some ⟨b, off, none⟩ := by rcases HA.out with h | h; (have := EM.out; omega); exact h
      obtain ⟨x, y, hx⟩ : ∃ x y, E[k]? = some (x, y) := ⟨_, _, List.getElem?_eq_getElem (by rw [EM.out]; exact c)⟩
      have a0 := HB.out.c0 k x y hx
      have a1 := HB.out.c1 k x y hx
      have HX := Lib.hid hx
      clear hx
      have HK2 : (x, y) ≠ (p, q) → Hid (∀ j z, j < k + 1 → E[j]? = some z → z ≠ (p, q)) := fun hne j z hj hz => by
        by_cases e : j = k
        · rw [e, HX.out] at hz
          injection hz with hz
          rw [← hz]; exact hne
        · exact HK.out j z (by omega) hz
      have HK3 := Lib.hid HK2
      clear HK2
      by_cases q1 : x = p
      · have t1 : (x == p) = true := by simpa using q1
        by_cases q2 : y = q
        · have t2 : (y == q) = true := by simpa using q2
          have hTt : T = true := by
            rw [← HT.out]
            exact decide_eq_true (by rw [← q1, ← q2]; exact List.mem_of_getElem? HX.out)
          subst hTt
          clear q1 q2
          go_wp2
          go_ret
          exact ⟨rfl, rfl⟩
        · have t2 : (y == q) = false := by simpa using q2
          have HQ := Lib.hid q2
          clear q1 q2
          go_wp2
          go_roundw
          case rel => exact ⟨k + 1, by omega, by go_num, HK3.out (fun e => HQ.out (by injection e)), by trivial⟩
          case measure => simp [intOf]; omega
      · have t1 : (x == p) = false := by simpa using q1
        have HQ := Lib.hid q1
        clear q1
        go_wp2
        go_roundw
        case rel => exact ⟨k + 1, by omega, by go_num, HK3.out (fun e => HQ.out (by injection e)), by trivial⟩
        case measure => simp [intOf]; omega
    · obtain rfl : k = m := by omega
      have hTf : T = false := by
        rw [← HT.out]
        refine decide_eq_false fun hc => ?_
        obtain ⟨j, hj⟩ := List.getElem?_of_mem hc
        have := (List.getElem?_eq_some_iff.1 hj).1
        exact HK.out j _ (by rw [← EM.out]; exact this) hj rfl
      subst hTf
      go_wp2
      go_ret
      exact ⟨rfl, rfl⟩

/-- what Next has found among the first k edges -/
def NxS (E : List Eg) (x last : Int) (first : Bool) (k : Nat) (y : Int) (t : Bool) : Prop :=
  (t = false ∧ y = 0 ∧ ∀ e ∈ E.take k, ¬ (e.1 = x ∧ (first = true ∨ last < e.2))) ∨
  (t = true ∧ (x, y) ∈ E.take k ∧ (first = true ∨ last < y) ∧ ∀ e ∈ E.take k, e.1 = x → (first = true ∨ last < e.2) → y ≤ e.2)
theorem NxS.start (E : List Eg) (x last : Int) (first : Bool) : NxS E x last first 0 0 false := .inl ⟨rfl, rfl, by simp⟩
theorem NxS.stay {E : List Eg} {x last : Int} {first : Bool} {k : Nat} {y : Int} {t : Bool} (h : NxS E x last first k y t) {e : Eg} (he : E[k]? = some e) (hn : e.1 = x → (first = true ∨ last < e.2) → t = true ∧ y ≤ e.2) : NxS E x last first (k + 1) y t := by
  have hT : E.take (k + 1) = E.take k ++ [e] := by rw [List.take_add_one, he]; rfl
  unfold NxS
  rw [hT]
  rcases h with ⟨h1, h2, h3⟩ | ⟨h1, h2, h3, h4⟩
  · refine .inl ⟨h1, h2, fun d hd => ?_⟩
    rcases List.mem_append.1 hd with g | g
    · exact h3 d g
    · simp at g
      subst g
      rintro ⟨a, b⟩
      have := (hn a b).1
      rw [h1] at this
      cases this
  · refine .inr ⟨h1, List.mem_append.2 (.inl h2), h3, fun d hd => ?_⟩
    rcases List.mem_append.1 hd with g | g
    · exact h4 d g
    · simp at g
      subst g
      exact fun a b => (hn a b).2
theorem NxS.take {E : List Eg} {x last : Int} {first : Bool} {k : Nat} {y : Int} {t : Bool} (h : NxS E x last first k y t) {u v : Int} (he : E[k]? = some (u, v)) (hu : u = x) (hf : first = true ∨ last < v) (hn : t = false ∨ v < y) : NxS E x last first (k + 1) v true := by
  have hT : E.take (k + 1) = E.take k ++ [(u, v)] := by rw [List.take_add_one, he]; rfl
  subst hu
  unfold NxS
  rw [hT]
  refine .inr ⟨rfl, List.mem_append.2 (.inr (by simp)), hf, fun d hd => ?_⟩
  rcases List.mem_append.1 hd with g | g
  · intro a b
    rcases h with ⟨h1, h2, h3⟩ | ⟨h1, h2, h3, h4⟩
    · exact absurd ⟨a, b⟩ (h3 d g)
    · rcases hn with q | q
      · rw [h1] at q; cases q
      · have := h4 d g a b; omega
  · simp at g
    subst g
    intro _ _
    exact Int.le_refl _
/-- what Next answers -/
def nxL (l : List Int) : Int × Bool := match l with | [] => (0, false) | y :: _ => (y, true)
theorem NxS.done {E : List Eg} {x last : Int} {first : Bool} {k : Nat} {y : Int} {t : Bool} (h : NxS E x last first k y t) (hk : E.length ≤ k) : (y, t) = nxL (remX E x last first) := by
  unfold NxS at h
  rw [List.take_of_length_le hk] at h
  rcases h with ⟨rfl, rfl, h3⟩ | ⟨rfl, h2, h3, h4⟩
  · cases hr : remX E x last first with
    | nil => rfl
    | cons z r =>
      have hz : z ∈ remX E x last first := by rw [hr]; exact List.mem_cons_self ..
      obtain ⟨g1, g2⟩ := (mem_remX ..).1 hz
      exact absurd ⟨rfl, g2⟩ (h3 _ g1)
  · obtain ⟨r, hr⟩ := remX_least E x last first y ((mem_remX ..).2 ⟨h2, h3⟩) (fun z hz => by
      obtain ⟨g1, g2⟩ := (mem_remX ..).1 hz
      exact h4 _ g1 rfl g2)
    rw [hr]
    rfl

set_option maxHeartbeats 2000000 in
theorem rnext_any (a : Option Addr) (b off cap : Nat) (E : List Eg) (hm : E.length ≤ maxLen) (ha : E.length = 0 ∨ a = some ⟨b, off, none⟩) (w : World) (hA : IsEg w b off E) (x last : Int) (first : Bool) :
    Calls Try.prog 19 #[.slice a E.length cap, .int .i64 x, .int .i64 last, .bool first] w fun e w' => e = .returned (.tuple #[.int .i64 (nxL (remX E x last first)).1, .bool (nxL (remX E x last first)).2]) ∧ Below w.heap.size w w' := by
  have HD := Lib.hid (fun (y : Int) (t : Bool) (h : NxS E x last first E.length y t) => h.done (Nat.le_refl _))
  generalize nxL (remX E x last first) = R at HD ⊢
  obtain ⟨R1, R2⟩ := R
  have HA := Lib.hid ha
  have HB := Lib.hid hA
  have hm9 : (E.length : Int) ≤ 9223372036854775807 := by unfold maxLen at hm; omega
  obtain ⟨m, em⟩ : ∃ m, E.length = m := ⟨_, rfl⟩
  have EM := Lib.hid em
  rw [em] at hm9 HD ⊢
  clear ha hA hm em
  go_enter Try.func19, Try.ntmps19
  go_wp2
  go_loopw [12, 10, 11] (fun i y t wr => ∃ (k : Nat) (z : Int) (s : Bool), k ≤ m ∧ i = .int .i64 k ∧ y = .int .i64 z ∧ t = .bool s ∧ Hid (NxS E x last first k z s) ∧ Below w.heap.size w wr) (fun i _ _ _ => m - (intOf i).toNat)
  case atStart => exact ⟨0, 0, false, Nat.zero_le _, rfl, rfl, rfl, NxS.start .., Below.refl _ _⟩
  case round =>
    obtain ⟨k, z, s, hk, rfl, rfl, rfl, HK, hb⟩ := hrel
    by_cases c : k < m
    · have c1 : (k : Int) < (m : Int) := by omega
      obtain rfl : a = some ⟨b, off, none⟩ := by rcases HA.out with h | h; (have := EM.out; omega); exact h
      obtain ⟨u, v, hx⟩ : ∃ u v, E[k]? = some (u, v) := ⟨_, _, List.getElem?_eq_getElem (by rw [EM.out]; exact c)⟩
      have a0 := (HB.out.below hb).c0 k u v hx
      have a1 := (HB.out.below hb).c1 k u v hx
      have HX := Lib.hid hx
      have HBL := Lib.hid hb
      clear hx hb
      have HST := Lib.hid (fun hn => NxS.stay HK.out HX.out hn)
      have HTK := Lib.hid (fun h1 h2 h3 => NxS.take HK.out HX.out h1 h2 h3)
      clear HK
      by_cases q1 : u = x
      · have t1 : (u == x) = true := by simpa using q1
        by_cases q2 : first = true ∨ last < v
        · by_cases q3 : s = false ∨ v < z
          · have HF := Lib.hid (HTK.out q1 q2 q3)
            clear HTK HST q1
            rcases Bool.eq_false_or_eq_true first with rfl | rfl
            all_goals rcases Bool.eq_false_or_eq_true s with rfl | rfl
            all_goals try have q4 : last < v := by rcases q2 with q | q; (cases q); exact q
            all_goals try have q5 : v < z := by rcases q3 with q | q; (cases q); exact q
            all_goals try have t4 : decide (last < v) = true := by simpa using q4
            all_goals try have t5 : decide (v < z) = true := by simpa using q5
            all_goals clear q2 q3
            all_goals try clear q4
            all_goals try clear q5
            all_goals go_wp2
            all_goals go_roundw
            all_goals first | exact ⟨k + 1, v, true, by omega, by go_num, rfl, rfl, HF.out, HBL.out.alloc (Nat.le_refl _) _⟩ | exact ⟨k + 1, v, true, by omega, by go_num, rfl, rfl, HF.out, HBL.out.alloc HBL.out.size _⟩ | (simp [intOf]; omega)
          · obtain ⟨q4, q5⟩ : s = true ∧ z ≤ v := ⟨by cases s <;> simp_all, by omega⟩
            subst q4
            have HF := Lib.hid (HST.out (fun _ _ => ⟨rfl, q5⟩))
            have t5 : decide (v < z) = false := by simpa using q5
            clear HTK HST q1 q3 q5
            rcases Bool.eq_false_or_eq_true first with rfl | rfl
            all_goals try have q4 : last < v := by rcases q2 with q | q; (cases q); exact q
            all_goals try have t4 : decide (last < v) = true := by simpa using q4
            all_goals clear q2
            all_goals try clear q4
            all_goals go_wp2
            all_goals go_roundw
            all_goals first | exact ⟨k + 1, z, true, by omega, by go_num, rfl, rfl, HF.out, HBL.out.alloc HBL.out.size _⟩ | (simp [intOf]; omega)
        · obtain ⟨q3, q4⟩ : first = false ∧ v ≤ last := ⟨by cases first <;> simp_all, by omega⟩
          subst q3
          have HF := Lib.hid (HST.out (fun _ h => absurd h q2))
          have t4 : decide (last < v) = false := by simpa using q4
          clear HTK HST q1 q2 q4
          go_wp2
          go_roundw
          case rel => exact ⟨k + 1, z, s, by omega, by go_num, rfl, rfl, HF.out, HBL.out.alloc HBL.out.size _⟩
          case measure => simp [intOf]; omega
      · have t1 : (u == x) = false := by simpa using q1
        have HF := Lib.hid (HST.out (fun h _ => absurd h q1))
        clear HTK HST q1
        go_wp2
        go_roundw
        case rel => exact ⟨k + 1, z, s, by omega, by go_num, rfl, rfl, HF.out, HBL.out.alloc HBL.out.size _⟩
        case measure => simp [intOf]; omega
    · obtain rfl : k = m := by omega
      have h1 := HD.out z s HK.out
      injection h1 with e1 e2
      subst e1 e2
      have HBL := Lib.hid hb
      clear HD HK hb
      go_wp2
      go_ret2
      exact ⟨rfl, HBL.out⟩

end Go.Proofs.Ytlhipnklljjahaa
