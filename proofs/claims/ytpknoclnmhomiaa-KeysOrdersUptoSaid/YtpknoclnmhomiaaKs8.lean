/-
  Package keys over the translation: Decode's deferred closure, entered from a frame that gives up, and from one that returns.
  Conditions: the results' variables lie in memory.
-/
import Derived.Test.YtpknoclnmhomiaaKs7
import Derived.Defers
import Derived.Recover
import Derived.Laws.NewBlocks
namespace Go.Proofs.Ytpknoclnmhomiaa
open Go.RowKit Go.Joins Go.ChangeShapes Go.WideShapes
set_option linter.unusedVariables false

set_option maxHeartbeats 1000000 in
theorem catch_idle (p q : Addr) (w : World) :
    CallsD Try.prog 27 #[.pointer (some p), .pointer (some q)] .returning w fun e u' w' => e = .returned (.tuple #[]) ∧ u' = .returning ∧ w' = w := by
  refine callsD_of_wpS Try.func27 rfl fun c₀ cs hu => ?_
  apply wpS_seq
  apply wpS_region
  simp [wpOpsS, go_sem, recoverD, hu, Try.ntmps27, Exit.thenS]
  refine wpS_of_wp ?_
  obtain ⟨Q, hQ⟩ : ∃ Q : Exit → Act → World → Prop, Q = fun e a w' => e = .ret ∧ a.defers = [] ∧ w' = w := ⟨_, rfl⟩
  refine Code.wp_mono (Q := Q) ?_ ?_
  · intro e a w' h
    rw [hQ] at h
    obtain ⟨rfl, h2, rfl⟩ := h
    refine ⟨h2, .returning, ?_, .tuple #[], ?_, rfl, rfl, rfl⟩
    · cases c₀; simp at hu; subst hu; rfl
    · exact results_none rfl _ _ _
  · change Code.wp _ _ _ { tmps := #[.pointer (some p), .pointer (some q), .nilIface, undef, undef, .nilIface, undef, undef, undef, undef, undef, undef, undef, undef, undef, undef, undef, undef], defers := [] } w
    go_wp2
    rw [hQ]
    exact ⟨rfl, rfl, rfl⟩

set_option maxHeartbeats 1000000 in
theorem catch_panicking (g h : Nat) (c : Int) (older : List PanicEntry) (w : World) (x y : Value) (hx : w.cell? ⟨g, 0, none⟩ = some x) (hy : w.cell? ⟨h, 0, none⟩ = some y) (fx : w.frozen? ⟨g, 0, none⟩ = false) (fy : w.frozen? ⟨h, 0, none⟩ = false) (hgh : g < h) (hh : h < w.heap.size) :
    CallsD Try.prog 27 #[.pointer (some ⟨g, 0, none⟩), .pointer (some ⟨h, 0, none⟩)] (.panicking ({ v := Flt c, recovered := false } :: older)) w fun e u' w' =>
      e = .returned (.tuple #[]) ∧ u' = .panicking ({ v := Flt c, recovered := true } :: older) ∧ w'.cell? ⟨g, 0, none⟩ = some (.slice none 0 0) ∧ w'.cell? ⟨h, 0, none⟩ = some (.int .i64 c) ∧ Below g w w' := by
  refine callsD_of_wpS Try.func27 rfl fun c₀ cs hu => ?_
  apply wpS_seq
  apply wpS_region
  simp [wpOpsS, go_sem, recoverD, hu, Try.ntmps27, Exit.thenS]
  refine wpS_of_wp ?_
  obtain ⟨Q, hQ⟩ : ∃ Q : Exit → Act → World → Prop, Q = fun e a w' => e = .normal ∧ a.defers = [] ∧ w'.cell? ⟨g, 0, none⟩ = some (.slice none 0 0) ∧ w'.cell? ⟨h, 0, none⟩ = some (.int .i64 c) ∧ Below g w w' := ⟨_, rfl⟩
  refine Code.wp_mono (Q := Q) ?_ ?_
  · intro e a w' h
    rw [hQ] at h
    obtain ⟨rfl, h2, h3, h4, h5⟩ := h
    exact ⟨h2, _, rfl, .tuple #[], results_none rfl _ _ _, rfl, rfl, h3, h4, h5⟩
  · change Code.wp _ _ _ { tmps := #[.pointer (some ⟨g, 0, none⟩), .pointer (some ⟨h, 0, none⟩), Flt c, undef, undef, Flt c, undef, undef, undef, undef, undef, undef, undef, undef, undef, undef, undef, undef], defers := [] } w
    have hta : ∀ w, (Instr.typeAssert (Flt c) 20 49 true).run Try.prog w = .ok (.tuple #[.agg #[.int .i64 c], .bool true]) w := fun w => by first | rfl | kernel_rfl
    have hg : g < w.heap.size := by omega
    have hne : ¬ g = h := by omega
    have hne2 : ¬ h = g := by omega
    go_wp2
    go_region
    all_goals
      rw [hQ]
      refine ⟨rfl, rfl, ?_, ?_, ?_⟩
      · simp [*]
        rw [World.cell?_alloc_past _ _ _ (by simp [World.setCell]; omega)]
        simp [World.cell?_setCell_other, World.cell?_setCell_same, *]
      · simp [*]
        rw [World.cell?_alloc_past _ _ _ (by simp [World.setCell]; omega)]
        simp [World.cell?_setCell_other, World.cell?_setCell_same, *]
      · have hb := (((Below.refl g w).setCell (p := ⟨g, 0, none⟩) (Nat.le_refl _) (.slice none 0 0)).setCell (p := ⟨h, 0, none⟩) (Nat.le_of_lt hgh) (.int .i64 c)).alloc (by simp [World.setCell]; omega) (.cells #[.int .i64 c] 49)
        first
          | exact hb
          | exact hb.drew
          | (trace_state; exact hb)

end Go.Proofs.Ytpknoclnmhomiaa
