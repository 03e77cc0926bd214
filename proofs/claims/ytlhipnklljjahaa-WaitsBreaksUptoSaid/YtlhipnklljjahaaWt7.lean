/-
  Who can be reached along edges (haspref11.Reach, Any, Victim): the state as lists, and contracts over the translation.
  Conditions: the edges lie in memory.
-/
import Derived.Test.YtlhipnklljjahaaWt6
namespace Go.Proofs.Ytlhipnklljjahaa
open Go.RowKit Go.Joins Go.ChangeShapes Go.WideShapes
set_option linter.unusedVariables false
set_option linter.unnecessarySimpa false
set_option linter.unusedSimpArgs false

structure RcI (E : List Eg) (a : Int) (met wait : List Int) : Prop where
  hr : ∀ x ∈ met, Rch (Sx E) a x
  wm : ∀ x ∈ wait, x = a ∨ x ∈ met
  cl : ∀ u, (u = a ∨ u ∈ met) → u ∉ wait → ∀ y ∈ Sx E u, y ∈ met
  un : met.length + unmet E met ≤ E.length
  wl : wait.length ≤ met.length + 1
def msR (E : List Eg) (met wait : List Int) : Nat := 2 * unmet E met + wait.length
theorem unmet_le (E : List Eg) (met : List Int) : unmet E met ≤ E.length := List.length_filter_le _ _
theorem RcI.start (E : List Eg) (a : Int) : RcI E a [] [a] :=
  ⟨fun x h => by simp at h, fun x h => .inl (by simpa using h), fun u hu hn => absurd (by rcases hu with h | h; simpa using h; simp at h) hn, by have := unmet_le E []; simpa using this, by simp⟩
theorem RcI.done {E : List Eg} {a : Int} {met : List Int} (h : RcI E a met []) (b : Int) : b ∈ met ↔ Rch (Sx E) a b := by
  refine ⟨h.hr b, fun hb => ?_⟩
  have key : ∀ x y, Rch (Sx E) x y → (x = a ∨ x ∈ met) → y ∈ met := by
    intro x y hr
    induction hr with
    | one x y h0 => exact fun hx => h.cl x hx (by simp) y h0
    | step x y z h0 _ ih => exact fun hx => ih (.inr (h.cl x hx (by simp) y h0))
  exact key a b hb (.inl rfl)
/-- while one's edges are looked at, the first i of all -/
structure RcJ (E : List Eg) (a x : Int) (i : Nat) (met wait : List Int) (N : Nat) : Prop where
  hr : ∀ x ∈ met, Rch (Sx E) a x
  xm : x = a ∨ x ∈ met
  wm : ∀ x ∈ wait, x = a ∨ x ∈ met
  cl : ∀ u, (u = a ∨ u ∈ met) → u ∉ wait → u ≠ x → ∀ y ∈ Sx E u, y ∈ met
  part : ∀ e ∈ E.take i, e.1 = x → e.2 ∈ met
  un : met.length + unmet E met ≤ E.length
  wl : wait.length ≤ met.length + 1
  ms : msR E met wait < N
theorem RcI.round {E : List Eg} {a x : Int} {met wait : List Int} (h : RcI E a met (x :: wait)) : RcJ E a x 0 met wait (msR E met (x :: wait)) :=
  ⟨h.hr, h.wm x (List.mem_cons_self ..), fun y hy => h.wm y (List.mem_cons_of_mem _ hy), fun u hu hw hne => h.cl u hu (fun hc => by rcases List.mem_cons.1 hc with e | e; exact hne e; exact hw e), fun e he => by simp at he, h.un, by have := h.wl; simp at this; omega, by simp [msR]⟩
theorem RcJ.stay {E : List Eg} {a x : Int} {i : Nat} {met wait : List Int} {N : Nat} (h : RcJ E a x i met wait N) {e : Eg} (he : E[i]? = some e) (hn : e.1 = x → e.2 ∈ met) : RcJ E a x (i + 1) met wait N :=
  ⟨h.hr, h.xm, h.wm, h.cl, fun d hd => by
    rw [List.take_add_one, he] at hd
    rcases List.mem_append.1 hd with g | g
    · exact h.part d g
    · simp at g; subst g; exact hn, h.un, h.wl, h.ms⟩
theorem RcJ.push {E : List Eg} {a x : Int} {i : Nat} {met wait : List Int} {N : Nat} (h : RcJ E a x i met wait N) {y : Int} (he : E[i]? = some (x, y)) (hy : y ∉ met) : RcJ E a x (i + 1) (met ++ [y]) (wait ++ [y]) N := by
  have hE : (x, y) ∈ E := List.mem_of_getElem? he
  have hme : ∀ z, z ∈ met ++ [y] ↔ z ∈ y :: met := fun z => by simp [or_comm]
  have hul := unmet_lt hE hy
  have hue := unmet_eq E hme
  have hS : y ∈ Sx E x := (mem_Sx ..).2 hE
  refine ⟨fun z hz => ?_, ?_, fun z hz => ?_, fun u hu hw hne z hz => ?_, fun d hd hx => ?_, ?_, ?_, ?_⟩
  · rcases List.mem_append.1 hz with g | g
    · exact h.hr z g
    · simp at g; subst g
      rcases h.xm with rfl | g
      · exact .one _ _ hS
      · exact (h.hr x g).snoc hS
  · rcases h.xm with g | g
    · exact .inl g
    · exact .inr (List.mem_append.2 (.inl g))
  · rcases List.mem_append.1 hz with g | g
    · rcases h.wm z g with g | g
      · exact .inl g
      · exact .inr (List.mem_append.2 (.inl g))
    · exact .inr (List.mem_append.2 (.inr g))
  · refine List.mem_append.2 (.inl (h.cl u ?_ (fun hc => hw (List.mem_append.2 (.inl hc))) hne z hz))
    rcases hu with g | g
    · exact .inl g
    · rcases List.mem_append.1 g with g | g
      · exact .inr g
      · exact absurd (List.mem_append.2 (.inr g)) hw
  · rw [List.take_add_one, he] at hd
    rcases List.mem_append.1 hd with g | g
    · exact List.mem_append.2 (.inl (h.part d g hx))
    · simp at g; subst g; simp
  · have := h.un; rw [hue]; simp; omega
  · have := h.wl; simp; omega
  · have := h.ms
    unfold msR at this ⊢
    rw [hue]
    simp
    omega
theorem RcJ.done {E : List Eg} {a x : Int} {i : Nat} {met wait : List Int} {N : Nat} (h : RcJ E a x i met wait N) (hi : E.length ≤ i) : RcI E a met wait ∧ msR E met wait < N := by
  refine ⟨⟨h.hr, h.wm, fun u hu hw y hy => ?_, h.un, h.wl⟩, h.ms⟩
  by_cases c : u = x
  · subst c
    have := h.part (u, y) (by rw [List.take_of_length_le hi]; exact (mem_Sx ..).1 hy) rfl
    exact this
  · exact h.cl u hu hw c y hy

def RRc (W w : World) (E : List Eg) (a : Int) (v7 v8 : Value) (met wait : List Int) : Prop := Rs W w [(3, v7, icells met), (3, v8, icells wait)] ∧ RcI E a met wait
def rrcN (W w : World) (E : List Eg) (a : Int) (v7 v8 : Value) (n : Nat) : Prop := ∃ met wait, RRc W w E a v7 v8 met wait ∧ msR E met wait = n
theorem rrc_start (w : World) (E : List Eg) (a : Int) : RRc w ((w.alloc (.cells #[] 3)).alloc (.cells #[.int .i64 a] 3)) E a (.slice (some ⟨w.heap.size, 0, none⟩) 0 0) (.slice (some ⟨w.heap.size + 1, 0, none⟩) 1 1) [] [a] :=
  ⟨((Rs.start w).make _ [] (by decide) _ rfl).make _ [.int .i64 a] one_le _ (by simp), RcI.start E a⟩
theorem rrc_next {W w w' : World} {E : List Eg} {a : Int} {v7 v8 u7 u8 : Value} {met wait : List Int} {N : Nat} (h : RRc W w' E a v7 v8 met wait) (hl : msR E met wait < N) (hN : N = lst (rrcN W w E a u7 u8)) :
    (∃ n, rrcN W w' E a v7 v8 n) ∧ lst (rrcN W w' E a v7 v8) < lst (rrcN W w E a u7 u8) :=
  ⟨⟨_, met, wait, h, rfl⟩, Nat.lt_of_le_of_lt (lst_le ⟨met, wait, h, rfl⟩) (hN ▸ hl)⟩

set_option maxRecDepth 100000 in
set_option maxHeartbeats 4000000 in
theorem rreach_any (a : Option Addr) (b off cap : Nat) (E : List Eg) (hm : E.length ≤ 4294967296) (ha : E.length = 0 ∨ a = some ⟨b, off, none⟩) (w : World) (hA : IsEg w b off E) (x0 y0 : Int) :
    Calls Try.prog 15 #[.slice a E.length cap, .int .i64 x0, .int .i64 y0] w fun e w' => ∃ t : Bool, e = .returned (.bool t) ∧ (t = true ↔ Rch (Sx E) x0 y0) ∧ Below w.heap.size w w' := by
  generalize hP : (fun (e : Ending) (w' : World) => ∃ t : Bool, e = .returned (.bool t) ∧ (t = true ↔ Rch (Sx E) x0 y0) ∧ Below w.heap.size w w') = PP
  have HP := Lib.hid hP
  have HAD := Lib.hid ha
  have HB := Lib.hid (fun (wx : World) (hb : Below w.heap.size w wx) => hA.below hb)
  have HM := Lib.hid hm
  have hm9 : (E.length : Int) ≤ 9223372036854775807 := by omega
  obtain ⟨m, em⟩ : ∃ m, E.length = m := ⟨_, rfl⟩
  rw [em] at hm9 ⊢
  have EM := Lib.hid em
  clear hP ha hA hm em
  go_enter Try.func15, Try.ntmps15
  go_wp2_with fail
  go_loopw [7, 8] (fun v7 v8 wr => ∃ n, rrcN w wr E x0 v7 v8 n) (fun v7 v8 wr => lst (rrcN w wr E x0 v7 v8))
  case atStart => exact ⟨_, _, _, rrc_start w E x0, rfl⟩
  case round =>
    obtain ⟨met, wait, hR, hN⟩ := lst_spec hrel
    have HE := Lib.hid (fun w' v7 v8 met' wait' (h : RRc w w' E x0 v7 v8 met' wait') (hl : msR E met' wait' < msR E met wait) => rrc_next h hl hN)
    clear hrel hN
    obtain ⟨A7, B7, O7, C7, e7, -, h7z, h7a, h7b⟩ := QI.isN (QI.of_row (hR.1.row 0 rfl))
    rcases nil_or wait with rfl | ⟨x, wt, rfl⟩
    · obtain ⟨a8, c8, e8, -⟩ := (hR.1.row 1 rfl).form
      have e8' : u8 = .slice a8 0 c8 := e8
      have HIN := Lib.hid (rhas_any A7 B7 O7 C7 met (by have h1 := hR.2.un; have h2 := HM.out; unfold maxLen; omega) h7a wr h7b y0)
      have HF := Lib.hid (show PP (.returned (.bool (decide (y0 ∈ met)))) wr by
        rw [← HP.out]
        exact ⟨_, rfl, by rw [decide_eq_true_iff]; exact hR.2.done y0, hR.1.bel⟩)
      subst e7 e8'
      clear hR e8 h7z h7a h7b HE
      go_wp2_with fail
      refine HIN.out.mono ?_
      rintro e w3 ⟨rfl, rfl⟩
      go_wp2_with fail
      exact HF.out
    · obtain ⟨g8, o8, c8, e8, k8, m8, -, -, -, d8⟩ := (hR.1.row 1 rfl).at (by simp [icells])
      have d0 := d8 0 (.int .i64 x) rfl
      obtain ⟨n, hn⟩ : ∃ n, wt.length = n := ⟨_, rfl⟩
      have hl8 : (icells (x :: wt)).length = n + 1 := by simp [icells, hn]
      rw [hl8] at e8 k8
      rw [Nat.add_zero] at d0
      subst e8
      have HR := Lib.hid hR
      have hdr : ∀ o', (o' = o8 + 1 ∨ o' = o8 ∧ c8 = 1) → Rs w wr [(3, u7, icells met), (3, .slice (some ⟨g8, o', none⟩) n (c8 - 1), icells wt)] := fun o' ho => hR.1.upd 1 rfl (Frm.refl _ wr) ((hR.1.row 1 rfl).drop 1 (by omega) o' ho) (fun k hk => .inl hk)
      have HDR := Lib.hid (show Rs w wr [(3, u7, icells met), (3, .slice (if c8 = 1 then some ⟨g8, o8, none⟩ else some ⟨g8, o8 + 1, none⟩) n (c8 - 1), icells wt)] by
        split
        · exact hdr _ (.inr ⟨rfl, by assumption⟩)
        · exact hdr _ (.inl rfl))
      have HRJ := Lib.hid hR.2.round
      have k9 : (1 : Int) ≤ (n : Int) + 1 := by omega
      have k10 : (n : Int) + 1 ≤ (c8 : Int) := by omega
      clear hR d8 h7z h7a h7b hl8 hn hdr
      go_upto_region 6 with fail
      generalize Value.slice (if c8 = 1 then some ⟨g8, o8, none⟩ else some ⟨g8, o8 + 1, none⟩) n (c8 - 1) = V8 at *
      obtain ⟨N, hN⟩ : ∃ N, msR E met (x :: wt) = N := ⟨_, rfl⟩
      rw [hN] at HRJ HE
      clear d0 hN HR e7 k8 m8 k9 k10
      go_wp2_with fail
      go_loopw [10, 7, 8] (fun i v7 v8 wx => ∃ (k : Nat) (mt wt : List Int), k ≤ m ∧ i = .int .i64 k ∧ Hid (Rs w wx [(3, v7, icells mt), (3, v8, icells wt)]) ∧ Hid (RcJ E x0 x k mt wt N)) (fun i _ _ _ => m - (intOf i).toNat)
      case atStart => exact ⟨0, met, wt, Nat.zero_le _, rfl, HDR, HRJ⟩
      case round =>
        clear HDR HRJ
        obtain ⟨k, mt, wt2, hk, rfl, HS, HJ⟩ := hrel
        by_cases c : k < m
        · have c1 : (k : Int) < (m : Int) := by omega
          obtain rfl : a = some ⟨b, off, none⟩ := by rcases HAD.out with h | h; (have := EM.out; omega); exact h
          obtain ⟨u, v, hx⟩ : ∃ u v, E[k]? = some (u, v) := ⟨_, _, List.getElem?_eq_getElem (by rw [EM.out]; exact c)⟩
          have a0 := (HB.out _ HS.out.bel).c0 k u v hx
          have a1 := (HB.out _ HS.out.bel).c1 k u v hx
          have HX := Lib.hid hx
          clear hx
          by_cases q1 : u = x
          · have t1 : (u == x) = true := by simpa using q1
            obtain ⟨A, B, O, C, e7, -, -, ha7, hb7⟩ := QI.isN (QI.of_row (HS.out.row 0 rfl))
            subst e7
            have HIN := Lib.hid (rhas_any A B O C mt (by have h1 := HJ.out.un; have h2 := HM.out; unfold maxLen; omega) ha7 _ hb7 v)
            have HXX := Lib.hid (show E[k]? = some (x, v) by rw [← q1]; exact HX.out)
            have HUN := Lib.hid (show mt.length ≤ 4294967296 ∧ wt2.length ≤ 9000000000 by have h1 := HJ.out.un; have h2 := HM.out; have h3 := HJ.out.wl; exact ⟨by omega, by omega⟩)
            clear ha7 hb7 q1
            go_wp2_with fail
            refine HIN.out.mono ?_
            rintro e w3 ⟨rfl, rfl⟩
            clear HIN
            by_cases hy : v ∈ mt
            · rw [decide_eq_true hy]
              have HF := Lib.hid (HJ.out.stay HXX.out (fun _ => hy))
              clear hy
              go_wp2_with fail
              exact ⟨⟨k + 1, mt, wt2, by omega, by go_num, HS, HF⟩, by simp [intOf]; omega⟩
            · rw [decide_eq_false hy]
              have HF := Lib.hid (HJ.out.push HXX.out hy)
              have HQ := Lib.hid (HS.out.pushI 0 rfl v)
              have HA1 := Lib.hid (HB.out _ HS.out.bel)
              clear hy HS HJ
              go_upto_region 11 with (first | (at_builtin; refine wp_pushQ rfl _ _ rfl w.heap.size _ mt rfl HQ.out.1 HQ.out.2.1 ⟨wr.heap.size, 0, none⟩ 1 v rfl HQ.out.2.2.1 (by have := HUN.out; omega) ?_; intro v1 w4 q1 g1 n1; have HW4 := Lib.hid (HQ.out.2.2.2 v1 w4 q1 g1 n1); clear q1 g1 n1))
              have HQ2 := Lib.hid (HW4.out.pushI 1 rfl v)
              have a0 := (HB.out _ HW4.out.bel).c0 k u v HX.out
              have a1 := (HB.out _ HW4.out.bel).c1 k u v HX.out
              clear HQ
              go_wp2_with (first | (at_builtin; refine wp_pushQ rfl _ _ rfl w.heap.size _ wt2 rfl HQ2.out.1 HQ2.out.2.1 ⟨w4.heap.size, 0, none⟩ 1 v rfl HQ2.out.2.2.1 (by have := HUN.out; omega) ?_; intro v2 w5 q1 g1 n1; have HW5 := Lib.hid (HQ2.out.2.2.2 v2 w5 q1 g1 n1); clear q1 g1 n1))
              exact ⟨⟨k + 1, mt ++ [v], wt2 ++ [v], by omega, by go_num, HW5, HF⟩, by simp [intOf]; omega⟩
          · have t1 : (u == x) = false := by simpa using q1
            have HF := Lib.hid (HJ.out.stay HX.out (fun h => absurd h q1))
            clear q1
            go_wp2_with fail
            exact ⟨⟨k + 1, mt, wt2, by omega, by go_num, HS, HF⟩, by simp [intOf]; omega⟩
        · obtain rfl : k = m := by omega
          obtain ⟨h1, h2⟩ := HJ.out.done (by rw [EM.out]; exact Nat.le_refl _)
          have HF := Lib.hid (HE.out _ _ _ mt wt2 ⟨HS.out, h1⟩ h2)
          clear h1 h2 HJ
          go_wp2_with fail
          exact HF.out

set_option maxRecDepth 100000 in
set_option maxHeartbeats 2000000 in
theorem rany_any (a : Option Addr) (b off cap : Nat) (E : List Eg) (hm : E.length ≤ 4294967296) (ha : E.length = 0 ∨ a = some ⟨b, off, none⟩) (w : World) (hA : IsEg w b off E) :
    Calls Try.prog 12 #[.slice a E.length cap] w fun e w' => ∃ t : Bool, e = .returned (.bool t) ∧ (t = true ↔ ∃ x, Rch (Sx E) x x) ∧ Below w.heap.size w w' := by
  generalize hP : (fun (e : Ending) (w' : World) => ∃ t : Bool, e = .returned (.bool t) ∧ (t = true ↔ ∃ x, Rch (Sx E) x x) ∧ Below w.heap.size w w') = PP
  have HP := Lib.hid hP
  have HAD := Lib.hid ha
  have HB := Lib.hid (fun (wx : World) (hb : Below w.heap.size w wx) => hA.below hb)
  have HR := Lib.hid (fun (wx : World) (hb : Below w.heap.size w wx) (x y : Int) => rreach_any a b off cap E hm ha wx (hA.below hb) x y)
  have hm9 : (E.length : Int) ≤ 9223372036854775807 := by omega
  obtain ⟨m, em⟩ : ∃ m, E.length = m := ⟨_, rfl⟩
  rw [em] at hm9 HR ⊢
  have EM := Lib.hid em
  clear hP ha hA hm em
  go_enter Try.func12, Try.ntmps12
  go_wp2_with fail
  go_loopw [3] (fun i wr => ∃ k : Nat, k ≤ m ∧ i = .int .i64 k ∧ Hid (∀ (j : Nat) e, j < k → E[j]? = some e → ¬ Rch (Sx E) e.1 e.1) ∧ Below w.heap.size w wr) (fun i _ => m - (intOf i).toNat)
  case atStart => exact ⟨0, Nat.zero_le _, rfl, fun j e hj => absurd hj (by omega), Below.refl _ _⟩
  case round =>
    obtain ⟨k, hk, rfl, HK, hb⟩ := hrel
    by_cases c : k < m
    · have c1 : (k : Int) < (m : Int) := by omega
      obtain rfl : a = some ⟨b, off, none⟩ := by rcases HAD.out with h | h; (have := EM.out; omega); exact h
      obtain ⟨u, v, hx⟩ : ∃ u v, E[k]? = some (u, v) := ⟨_, _, List.getElem?_eq_getElem (by rw [EM.out]; exact c)⟩
      have a0 := (HB.out wr hb).c0 k u v hx
      have HX := Lib.hid hx
      have HBL := Lib.hid hb
      have HN2 := Lib.hid (fun wx (h : Below wr.heap.size wr wx) => HR.out wx (btr HBL.out h) u u)
      have HLA := Lib.hid (fun wx (h : Below wr.heap.size wr wx) => And.intro h (cell_lt a0 h))
      have hs := HLA.out wr (Below.refl _ _)
      clear hx hb a0
      go_upto_region 4 with fail
      go_region_held3 (fun w0 => Below wr.heap.size wr w0 ∧ w0.cell? ⟨b, off + k * 2, none⟩ = some (.int .i64 u))
        (first | (go_split_ands; exact HLA.out _ (by assumption)) | (go_split_ands; exact HLA.out _ (Below.drew (by assumption))) | (go_split_ands; exact HLA.out _ (btr (by assumption) hbx)))
        (first | (go_at_call 15; refine (HN2.out _ (And.left (by assumption))).mono ?_; rintro e w2 ⟨t, rfl, ht, hbx⟩; have B2 := Lib.hid (btr (And.left (by assumption)) hbx); have HT := Lib.hid ht; clear ht))
      all_goals
        cases t with
        | true =>
          have HF := Lib.hid (show PP (.returned (.bool true)) w2 by
            rw [← HP.out]
            exact ⟨true, rfl, ⟨fun _ => ⟨u, HT.out.1 rfl⟩, fun _ => rfl⟩, btr HBL.out B2.out⟩)
          go_wp2_with fail
          exact HF.out
        | false =>
          have HF := Lib.hid (show ∀ (j : Nat) e, j < k + 1 → E[j]? = some e → ¬ Rch (Sx E) e.1 e.1 from fun j e hj he hc => by
            by_cases q : j = k
            · rw [q, HX.out] at he
              injection he with he
              subst he
              have := HT.out.2 hc
              cases this
            · exact HK.out j e (by omega) he hc)
          have HG := Lib.hid (btr HBL.out B2.out)
          go_wp2_with fail
          exact ⟨⟨k + 1, by omega, by go_num, HF, HG.out⟩, by simp [intOf]; omega⟩
    · obtain rfl : k = m := by omega
      have HF := Lib.hid (show PP (.returned (.bool false)) wr by
        rw [← HP.out]
        refine ⟨false, rfl, ⟨(fun h => by cases h), ?_⟩, hb⟩
        rintro ⟨x, hx⟩
        obtain ⟨y, hy⟩ := hx.start
        obtain ⟨j, hj⟩ := List.getElem?_of_mem ((mem_Sx ..).1 hy)
        exact absurd hx (HK.out j _ (by rw [← EM.out]; exact (List.getElem?_eq_some_iff.1 hj).1) hj))
      clear hb HK
      go_wp2_with fail
      exact HF.out

/-- the greatest of a list, or 0 -/
def VicS (l : List Int) (z : Int) : Prop := (l = [] ∧ z = 0) ∨ (z ∈ l ∧ ∀ y ∈ l, y ≤ z)
theorem VicS.one {l : List Int} {y z : Int} (h : VicS l y) (g : VicS l z) : y = z := by
  rcases h with ⟨rfl, rfl⟩ | ⟨h1, h2⟩
  · rcases g with ⟨_, rfl⟩ | ⟨g1, _⟩
    · rfl
    · simp at g1
  · rcases g with ⟨rfl, _⟩ | ⟨g1, g2⟩
    · simp at h1
    · have := h2 z g1; have := g2 y h1; omega

set_option maxHeartbeats 1000000 in
theorem rvictim_any (a : Option Addr) (b off cap : Nat) (l : List Int) (hm : l.length ≤ maxLen) (ha : l.length = 0 ∨ a = some ⟨b, off, none⟩) (w : World) (hA : IsN w b off l) :
    Calls Try.prog 14 #[.slice a l.length cap] w fun e w' => ∃ z, e = .returned (.int .i64 z) ∧ VicS l z ∧ w = w' := by
  rcases nil_or l with rfl | ⟨x, r, rfl⟩
  · go_enter Try.func14, Try.ntmps14
    go_wp2_with fail
    go_ret
    exact ⟨0, rfl, .inl ⟨rfl, rfl⟩, rfl⟩
  · obtain rfl : a = some ⟨b, off, none⟩ := by rcases ha with h | h; (simp at h); exact h
    obtain ⟨l, hl⟩ : ∃ l, x :: r = l := ⟨_, rfl⟩
    have h0 : l[0]? = some x := by rw [← hl]; rfl
    have hp : 0 < l.length := by rw [← hl]; simp
    rw [hl] at hm hA ⊢
    clear hl ha
    have d0 := hA.c 0 x h0
    rw [Nat.add_zero] at d0
    have HB := Lib.hid hA
    have hm9 : (l.length : Int) ≤ 9223372036854775807 := by unfold maxLen at hm; omega
    obtain ⟨m, em⟩ : ∃ m, l.length = m := ⟨_, rfl⟩
    have EM := Lib.hid em
    rw [em] at hm9 hp ⊢
    have H0 := Lib.hid h0
    have q0 : ((m : Int) == 0) = false := by simp; omega
    have q1 : (0 : Int) < (m : Int) := by omega
    clear hA hm em h0
    go_enter Try.func14, Try.ntmps14
    go_wp2_with fail
    go_loopw [4, 3] (fun i y wr => ∃ (k : Nat) (z : Int), k ≤ m ∧ i = .int .i64 k ∧ y = .int .i64 z ∧ Hid (z ∈ l ∧ ∀ (j : Nat) u, j < k → l[j]? = some u → u ≤ z) ∧ w = wr) (fun i _ _ => m - (intOf i).toNat)
    case atStart => exact ⟨0, x, Nat.zero_le _, rfl, rfl, ⟨List.mem_of_getElem? H0.out, fun j u hj => absurd hj (by omega)⟩, rfl⟩
    case round =>
      obtain ⟨k, z, hk, rfl, rfl, HK, rfl⟩ := hrel
      clear d0 q0 q1
      by_cases c : k < m
      · have c1 : (k : Int) < (m : Int) := by omega
        obtain ⟨u, hx⟩ : ∃ u, l[k]? = some u := ⟨_, List.getElem?_eq_getElem (by rw [EM.out]; exact c)⟩
        have a0 := HB.out.c k u hx
        have HX := Lib.hid hx
        clear hx
        by_cases q : z < u
        · have t1 : decide (z < u) = true := by simpa using q
          have HF := Lib.hid (show u ∈ l ∧ ∀ (j : Nat) v, j < k + 1 → l[j]? = some v → v ≤ u from ⟨List.mem_of_getElem? HX.out, fun j v hj hv => by
            by_cases e : j = k
            · rw [e, HX.out] at hv; injection hv with hv; omega
            · have := HK.out.2 j v (by omega) hv; omega⟩)
          clear q
          go_wp2
          go_roundw
          case rel => exact ⟨k + 1, u, by omega, by go_num, rfl, HF, by trivial⟩
          case measure => simp [intOf]; omega
        · have t1 : decide (z < u) = false := by simpa using q
          have HF := Lib.hid (show z ∈ l ∧ ∀ (j : Nat) v, j < k + 1 → l[j]? = some v → v ≤ z from ⟨HK.out.1, fun j v hj hv => by
            by_cases e : j = k
            · rw [e, HX.out] at hv; injection hv with hv; omega
            · exact HK.out.2 j v (by omega) hv⟩)
          clear q
          go_wp2
          go_roundw
          case rel => exact ⟨k + 1, z, by omega, by go_num, rfl, HF, by trivial⟩
          case measure => simp [intOf]; omega
      · obtain rfl : k = m := by omega
        have HF := Lib.hid (show VicS l z from .inr ⟨HK.out.1, fun y hy => by
          obtain ⟨j, hj⟩ := List.getElem?_of_mem hy
          exact HK.out.2 j y (by rw [← EM.out]; exact (List.getElem?_eq_some_iff.1 hj).1) hj⟩)
        clear HK
        go_wp2
        go_ret
        exact ⟨z, rfl, HF.out, rfl⟩

end Go.Proofs.Ytlhipnklljjahaa
