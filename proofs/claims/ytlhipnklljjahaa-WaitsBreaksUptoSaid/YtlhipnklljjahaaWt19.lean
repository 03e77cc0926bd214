/-
  The program's search for a cycle (package waits): contracts over the translation.
  Conditions: the search lies in memory.
-/
import Derived.Test.YtlhipnklljjahaaWt18
namespace Go.Proofs.Ytlhipnklljjahaa
open Go.RowKit Go.Joins Go.ChangeShapes Go.WideShapes
open Go.MapKept
set_option linter.unusedVariables false
set_option linter.unnecessarySimpa false
set_option linter.unusedSimpArgs false

set_option maxHeartbeats 2000000 in
theorem enter_any {w0 w : World} {B sb b mb n : Nat} {f : Int → Option Value} {M : Int → List Int} {v7 : Value} {P met : List Int} (h : Sm w0 w B sb b mb f n M v7 P met) (hl : P.length ≤ 4294967297) (x : Int) :
    Calls Try.prog 29 #[.pointer (some ⟨sb, 0, none⟩), .int .i64 x] w fun e w' => e = .returned (.tuple #[]) ∧ ∃ v', Sm w0 w' B sb b mb f n M v' (P ++ [x]) (met ++ [x]) := by
  generalize hP : (fun (e : Ending) (w' : World) => e = .returned (.tuple #[]) ∧ ∃ v', Sm w0 w' B sb b mb f n M v' (P ++ [x]) (met ++ [x])) = PP
  have HP := Lib.hid hP
  obtain ⟨-, c1, -, -⟩ := h.cells
  obtain ⟨w1, hput, hm1, hf1⟩ := h.mt.put x
  have h1 := h.meet hf1 hm1
  obtain ⟨-, -, d2, -⟩ := h1.cells
  have hbw : Below w1.heap.size w1 (w1.alloc (.cells #[.int .i64 x] 3)) := (Below.refl _ _).alloc (Nat.le_refl _) _
  have h2 := h1.below hbw
  have H2 := Lib.hid h2
  have HC := Lib.hid (show (w1.alloc (.cells #[.int .i64 x] 3)).cell? ⟨w1.heap.size, 0, none⟩ = some (.int .i64 x) by rw [cell_of_block (heap_alloc_new w1 _)]; rfl)
  have HLN := Lib.hid hl
  have HW := Lib.hid (fun w3 v3 (q : QI w3 w0.heap.size v3 (P ++ [x])) (g : (w1.alloc (.cells #[.int .i64 x] 3)).grownBy w3 v7.ownBlock) => h2.way g q)
  have HS := Lib.hid (fun w3 v3 (q : QI w3 w0.heap.size v3 (P ++ [x])) (g : (w1.alloc (.cells #[.int .i64 x] 3)).grownBy w3 v7.ownBlock) => show w3.cell? ⟨sb, 2, none⟩ = some v7 ∧ w3.frozen? ⟨sb, 2, none⟩ = false by
    have hf : Frm (fun k => v7.ownBlock = some k) (w1.alloc (.cells #[.int .i64 x] 3)) w3 := Frm.grown (F := fun k => v7.ownBlock = some k) (Frm.refl _ _) g (fun k hk => .inl hk)
    have hx := (hf.heap h2.sl (fun hc => (h2.apart hc).2.2.1 rfl)).trans h2.bxc
    exact ⟨by rw [cell_of_block hx]; rfl, unfrozen_of_block hx 2⟩)
  clear hP h hm1 hf1 h1 h2 hbw hl
  go_enter Try.func29, Try.ntmps29
  go_wp2_with (first | (at_builtin; refine wp_pushQ rfl _ _ rfl w0.heap.size _ P rfl H2.out.wy H2.out.frm.size ⟨w1.heap.size, 0, none⟩ 1 x rfl HC.out (by have := HLN.out; omega) ?_; intro v3 w3 q1 g1 n1; obtain ⟨s1, s2⟩ := HS.out w3 v3 q1 g1; have HSM := Lib.hid (HW.out w3 v3 q1 g1); obtain ⟨a3, b3, o3, c3, e3, -⟩ := q1.isN; obtain ⟨m3, hm3⟩ : ∃ m, (P ++ [x]).length = m := ⟨_, rfl⟩; rw [hm3] at e3; subst e3; clear g1 n1 q1 hm3))
  have HF := Lib.hid (show PP (.returned (.tuple #[])) (w3.setCell ⟨sb, 2, none⟩ (.slice a3 m3 c3)) by
    rw [← HP.out]
    exact ⟨rfl, _, HSM.out⟩)
  first | exact HF.out | (go_end0; exact HF.out)

theorem bsearch_any {w : World} {B : Nat} {v : Value} {l : List Int} (q : QI w B v l) (hs : l.Pairwise (· < ·)) (hl : l.length ≤ 4294967296) (x : Int) :
    Calls Try.prog 35 #[v, .int .i64 x] w fun e w' => ∃ p : Int, e = .returned (.tuple #[.int .i64 p, .bool (decide (x ∈ l))]) ∧ Below w.heap.size w w' := by
  obtain ⟨a, b, o, cap, rfl, h1, h2, ha, hn⟩ := q.isN
  by_cases c : l.length = 0
  · obtain rfl := List.eq_nil_of_length_eq_zero c
    refine (Any.slices_BinarySearch_int_empty bsLays a cap x w).mono ?_
    rintro e w' ⟨rfl, rfl⟩
    exact ⟨0, by simp, Below.refl _ _⟩
  · obtain rfl : a = some ⟨b, o, none⟩ := by rcases ha with h | h; (exact absurd h c); exact h
    refine (Any.slices_BinarySearch_int bsLays b o l.length cap l x w (Nat.le_refl _) (by omega) (fun j hj => hn.c j _ (by rw [List.getD_eq_getElem?_getD, List.getElem?_eq_getElem hj]; rfl)) (by rw [List.take_length]; exact hs.imp (fun h => by omega))).mono ?_
    rintro e w' ⟨rfl, k, rfl⟩
    rw [List.take_length]
    refine ⟨((l.countP (· < x) : Nat) : Int), ?_, bdrew w k⟩
    have e : l.contains x = decide (x ∈ l) := by simp
    rw [e]
theorem snoc_last {l : List Int} (h : 0 < l.length) : ∃ P x, l = P ++ [x] := snoc_of h

set_option maxRecDepth 100000 in
set_option maxHeartbeats 2000000 in
theorem waitsfor_any {w0 w : World} {B sb b mb n : Nat} {f : Int → Option Value} {M : Int → List Int} {v7 : Value} {P met : List Int} {x : Int} (h : Sm w0 w B sb b mb f n M v7 (P ++ [x]) met) (hl : P.length ≤ 4294967297) (hs : (M x).Pairwise (· < ·)) (hml : (M x).length ≤ 4294967296) (a : Int) :
    Calls Try.prog 30 #[.pointer (some ⟨sb, 0, none⟩), .int .i64 a] w fun e w' => e = .returned (.bool (decide (a ∈ M x))) ∧ Below w.heap.size w w' := by
  generalize hP : (fun (e : Ending) (w' : World) => e = .returned (.bool (decide (a ∈ M x))) ∧ Below w.heap.size w w') = PP
  have HP := Lib.hid hP
  obtain ⟨l0, hl0⟩ : ∃ n, P.length = n := ⟨_, rfl⟩
  have hll : (icells (P ++ [x])).length = l0 + 1 := by simp [icells, hl0]
  obtain ⟨g7, o7, c7, e7, k7, m7, -, -, -, d7⟩ := QR.at h.wy (by rw [hll]; omega)
  have d0 := d7 l0 (.int .i64 x) (by rw [← hl0]; simp [icells])
  rw [hll] at e7 k7
  subst e7
  obtain ⟨c0, -, c2, -⟩ := h.cells
  have HLK := Lib.hid (fun wx (hb : Below w.heap.size w wx) => (h.below hb).gr.look x)
  have HBS := Lib.hid (fun wx (hb : Below w.heap.size w wx) => bsearch_any ((h.below hb).gr.row x) hs hml a)
  have hlk := HLK.out w.drew (Below.refl _ _).drew
  obtain ⟨v0, hv0⟩ : ∃ v, (f x).getD nilV = v := ⟨_, rfl⟩
  rw [hv0] at HLK HBS hlk
  have HF := Lib.hid (fun w' (hb : Below w.heap.size w w') => show PP (.returned (.bool (decide (a ∈ M x)))) w' by
    rw [← HP.out]; exact ⟨rfl, hb⟩)
  obtain ⟨t, ht⟩ : ∃ t, decide (a ∈ M x) = t := ⟨_, rfl⟩
  rw [ht] at HBS HF
  have hlb : l0 ≤ 4294967297 := by omega
  have HB1 := Lib.hid (HBS.out w.drew (Below.refl _ _).drew)
  have hq1 : (l0 : Int) < (l0 : Int) + 1 := by omega
  have w1 : IntKind.i64.wrap (l0 : Int) = (l0 : Int) := by rw [IntKind.wrap_i64]; omega
  clear hP h hl hs hml hl0 hll d7 hv0 ht HLK HBS
  go_enter Try.func30, Try.ntmps30
  go_upto_region 1 with fail
  go_region_law (first | (go_simp; go_at_call 35; refine HB1.out.mono ?_; rintro e w2 ⟨p, rfl, b2⟩; have B2 := Lib.hid ((Below.refl w.heap.size w).drew.trans b2); clear b2))
  all_goals
    go_wp2_with fail
    exact HF.out w2 B2.out

end Go.Proofs.Ytlhipnklljjahaa
