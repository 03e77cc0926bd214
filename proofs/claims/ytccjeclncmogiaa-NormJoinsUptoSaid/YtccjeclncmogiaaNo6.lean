/-
  A row of codes cloned (slices.Clone), over the translation (layer 18).
  Conditions: the row lies in memory.
-/
import Derived.Test.YtccjeclncmogiaaNo5
namespace Go.Proofs.Ytccjeclncmogiaa
open Go.RowKit Go.Joins Go.ChangeShapes Go.WideShapes
set_option linter.unusedVariables false
set_option linter.unusedSimpArgs false

theorem XC.Row.below {K : Bl} {w w1 : World} {a : Option Addr} {cap : Nat} {l : List XC} (h : XC.Row K w a cap l) (hb : Below w.heap.size w w1) : XC.Row K w1 a cap l := XC.Mem.below h hb
theorem XC.Row.news {K : Bl} {w : World} {ad : Addr} {cap : Nat} {l : List XC} (h : XC.Row K w (some ad) cap l) : ∀ j u, (ck.cells l)[j]? = some u → w.cell? (ad.add j) = some u := by
  intro j u hj
  have hj' : (XC.encL l)[j]? = some u := hj
  unfold XC.Row XC.Mem at h
  obtain ⟨-, -, h3, -⟩ := h
  rcases h3 with rfl | ⟨b, o, e1, -, -, e4⟩
  · simp [XC.encL] at hj'
  · injection e1 with e1
    subst e1
    have ea : (⟨b, o, none⟩ : Addr).add j = ⟨b, o + j, none⟩ := by unfold Addr.add; split <;> simp_all
    rw [ea]
    exact e4 j u hj'
set_option maxHeartbeats 2000000 in
theorem clonec_any {K : Bl} (w : World) (a : Option Addr) (cap : Nat) (l : List XC) (h : XC.Row K w a cap l) (hn : l.length ≤ 4294967296) :
    Calls Try.prog 29 #[.slice a l.length cap] w fun e w' => ∃ v', e = .returned v' ∧ OwR ck w' w.heap.size v' l ∧ Below w.heap.size w w' := by
  generalize hP : (fun (e : Ending) (w' : World) => ∃ v', e = .returned v' ∧ OwR ck w' w.heap.size v' l ∧ Below w.heap.size w w') = P
  have HP := Lib.hid hP
  clear hP
  have q22 : ∀ (w : World) (a : Option Addr) (n c n' c' : Nat), (binOp .eql 22 (.slice a n c) (.slice none n' c')).run Try.prog w = .ok (.bool a.isNone) w := fun w a n c n' c' => Lib.run_eql_slice_nil w _ _ a n c n' c' Try.underlying22
  cases a with
  | none =>
    have hl : l = [] := by
      match l, h with
      | [], _ => rfl
      | x :: r, h =>
        obtain ⟨b, o, e, -⟩ := h.at (k := 0) (x := x) rfl
        cases e
    have HF := Lib.hid (show P (.returned (.slice none 0 0)) w by rw [← HP.out]; exact ⟨_, rfl, by rw [hl]; exact OwR.nil _ _, Below.refl _ _⟩)
    clear h
    generalize l.length = n
    go_enter Try.func29, Try.ntmps29
    go_wp2_with fail
    exact HF.out
  | some ad =>
    have b1 : Below w.heap.size w (w.alloc (.cells #[] 26)) := (Below.refl _ _).alloc (Nat.le_refl _) _
    have HO := Lib.hid (show OwR ck (w.alloc (.cells #[] 26)) w.heap.size (.slice (some ⟨w.heap.size, 0, none⟩) 0 0) [] from OwR.made (K := ck) w (Nat.le_refl _) [] (by decide))
    have HB := Lib.hid b1
    have HN := Lib.hid ((h.below b1).news)
    have HL := Lib.hid hn
    obtain ⟨n, hln⟩ : ∃ n, l.length = n := ⟨_, rfl⟩
    have HLN := Lib.hid hln
    rw [hln]
    clear h b1 hn hln
    go_enter Try.func29, Try.ntmps29
    go_wp2_with (at_builtin; refine OwR.wp (K := ck) rfl _ _ rfl w.heap.size (.slice (some ⟨w.heap.size, 0, none⟩) 0 0) [] rfl HO.out HB.out.size ad n cap l HLN.out rfl HN.out (by have := HLN.out; have := HL.out; simp; omega) ?_; intro v9 w9 o9 g9 n9; have HO9 := Lib.hid o9; have HG9 := Lib.hid g9; clear o9 g9 n9)
    have HF := Lib.hid (show P (.returned v9) w9 by
      rw [← HP.out]
      exact ⟨_, rfl, by simpa using HO9.out, HB.out.grown HG9.out HB.out.size (fun k hk => by simp only [Value.ownBlock, Option.some.injEq] at hk; omega)⟩)
    exact HF.out

end Go.Proofs.Ytccjeclncmogiaa
