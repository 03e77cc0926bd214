/-
  Whether there is a cycle, and who is its victim (package waits): contracts over the translation.
  Conditions: the edges lie in memory.
-/
import Derived.Test.YtlhipnklljjahaaWt16
namespace Go.Proofs.Ytlhipnklljjahaa
open Go.RowKit Go.Joins Go.ChangeShapes Go.WideShapes
open Go.MapKept
set_option linter.unusedVariables false
set_option linter.unnecessarySimpa false
set_option linter.unusedSimpArgs false

set_option maxHeartbeats 2000000 in
theorem any_any (W : World) (b0 off cap : Nat) (E : List Eg) (h : IsEg W b0 off E) (hm : E.length ≤ 1048576) :
    Calls Try.prog 11 #[.slice (some ⟨b0, off, none⟩) E.length cap] W fun e w' => ∃ t : Bool, e = .returned (.bool t) ∧ (t = true ↔ ∃ x, Rch (Sx E) x x) ∧ Below W.heap.size W w' := by
  generalize hP : (fun (e : Ending) (w' : World) => ∃ t : Bool, e = .returned (.bool t) ∧ (t = true ↔ ∃ x, Rch (Sx E) x x) ∧ Below W.heap.size W w') = PP
  have HP := Lib.hid hP
  have HG := Lib.hid (graph_any W b0 off cap E h (by omega))
  have HM := Lib.hid hm
  clear hP h hm
  go_enter Try.func11, Try.ntmps11
  go_wp2_with fail
  refine HG.out.mono ?_
  rintro e w1 ⟨B, b, f, n, rfl, hB, hg, b1⟩
  obtain ⟨w2, hw2⟩ : ∃ x, w1.alloc (.cells #[.map (some b)] 35) = x := ⟨_, rfl⟩
  have b2 : Below w1.heap.size w1 w2 := by rw [← hw2]; exact (Below.refl _ _).alloc (Nat.le_refl _) _
  have hx2 : w2.heap[w1.heap.size]? = some (.cells #[.map (some b)] 35 (0, 0)) := by rw [← hw2]; exact heap_alloc_new w1 _
  have x0 : w2.cell? ⟨w1.heap.size, 0, none⟩ = some (.map (some b)) := by rw [cell_of_block hx2]; rfl
  have HPL := Lib.hid (peel_any w2 B b n f E (hg.below b2) (Nat.le_trans hg.bb (Nat.le_trans (Nat.le_of_lt hg.mp.lt) b2.size)) HM.out)
  have HX2 := Lib.hid hx2
  have HB2 := Lib.hid (btr b1 b2)
  have HBB := Lib.hid (show W.heap.size ≤ b ∧ b < w1.heap.size from ⟨Nat.le_trans hB hg.bb, hg.mp.lt⟩)
  clear hg b1 b2 hx2 HG hB
  go_wp2_with fail
  refine HPL.out.mono ?_
  rintro e w3 ⟨rfl, f3, n3, M3, hg3, hn3, hf3⟩
  have hx3 := (hf3.heap (Array.getElem?_eq_some_iff.1 HX2.out).1 (fun e => by have := HBB.out; omega)).trans HX2.out
  have x3 : w3.cell? ⟨w1.heap.size, 0, none⟩ = some (.map (some b)) := by rw [cell_of_block hx3]; rfl
  have hln := hg3.mp.len (P := Try.prog) (t := 33) (ty := 3) Try.underlying33
  have HF := Lib.hid (show PP (.returned (.bool (decide (0 < n3)))) w3 by
    rw [← HP.out]
    refine ⟨_, rfl, by rw [decide_eq_true_iff]; exact hn3, HB2.out.trans (hf3.below (B := W.heap.size) (fun k hk => by have := HBB.out; omega) HB2.out.size)⟩)
  clear hg3 hf3 hn3 hx3 HPL x0 hw2
  go_wp2_with fail
  exact HF.out

theorem maxOf_spec (zs : List Int) : ∀ k, 0 < k → k ≤ zs.length → Lib.maxOf (zs.take k) ∈ zs.take k ∧ ∀ y ∈ zs.take k, y ≤ Lib.maxOf (zs.take k) := by
  intro k
  induction k with
  | zero => intro h; omega
  | succ k ih =>
    intro _ hk
    obtain ⟨x, hx⟩ : ∃ x, zs[k]? = some x := ⟨_, List.getElem?_eq_getElem (by omega)⟩
    have hd : zs.getD k 0 = x := by rw [List.getD_eq_getElem?_getD, hx]; rfl
    have hT : zs.take (k + 1) = zs.take k ++ [x] := by rw [List.take_add_one, hx]; rfl
    rcases Nat.eq_zero_or_pos k with rfl | h0
    · have := Lib.maxOf_one zs
      simp only [Nat.zero_add] at hT ⊢
      rw [this, hd, hT]
      simp
    · obtain ⟨h1, h2⟩ := ih h0 (by omega)
      rw [Lib.maxOf_step zs k h0 (by omega), hd, hT]
      refine ⟨?_, fun y hy => ?_⟩
      · by_cases c : Lib.maxOf (zs.take k) ≤ x
        · rw [Int.max_eq_right c]; simp
        · rw [Int.max_eq_left (by omega)]; exact List.mem_append.2 (.inl h1)
      · rcases List.mem_append.1 hy with g | g
        · have := h2 y g; omega
        · simp at g; subst g; omega
theorem victim_any (a : Option Addr) (b off cap : Nat) (l : List Int) (hm : l.length ≤ maxLen) (ha : l.length = 0 ∨ a = some ⟨b, off, none⟩) (w : World) (hA : IsN w b off l) :
    Calls Try.prog 13 #[.slice a l.length cap] w fun e w' => ∃ z, e = .returned (.int .i64 z) ∧ VicS l z ∧ w' = w := by
  rcases nil_or l with rfl | ⟨x, r, rfl⟩
  · go_enter Try.func13, Try.ntmps13
    go_wp2_with fail
    go_ret
    exact ⟨0, rfl, .inl ⟨rfl, rfl⟩, rfl⟩
  · obtain rfl : a = some ⟨b, off, none⟩ := by rcases ha with h | h; (simp at h); exact h
    obtain ⟨l, hl⟩ : ∃ l, x :: r = l := ⟨_, rfl⟩
    have hp : 0 < l.length := by rw [← hl]; simp
    rw [hl] at hm hA ⊢
    clear hl ha
    have hmx := Any.slices_Max_int mxLays b off l.length cap l w hp (Nat.le_refl _) (by unfold maxLen at hm; omega) (fun j hj => hA.c j _ (by rw [List.getD_eq_getElem?_getD, List.getElem?_eq_getElem hj]; rfl))
    have hsp := maxOf_spec l l.length hp (Nat.le_refl _)
    rw [List.take_length] at hmx hsp
    have HMX := Lib.hid hmx
    have HSP := Lib.hid hsp
    have q0 : ((l.length : Int) == 0) = false := by rw [beq_eq_false_iff_ne]; omega
    generalize Lib.maxOf l = z at *
    obtain ⟨m, hm⟩ : ∃ m, l.length = m := ⟨_, rfl⟩
    rw [hm] at q0 HMX ⊢
    clear hmx hsp hA hm
    go_enter Try.func13, Try.ntmps13
    go_wp2_with fail
    refine HMX.out.mono ?_
    rintro e w' ⟨rfl, rfl⟩
    go_wp2_with fail
    go_ret
    exact ⟨z, rfl, .inr HSP.out, rfl⟩

end Go.Proofs.Ytlhipnklljjahaa
