/-
  Copies of what came in: the run of an append onto an empty list.
  Conditions: none.
-/
import Derived.Test.YtlhipnklljjahaaWt23
import Derived.Lib.AppendZeros
namespace Go.Proofs.Ytlhipnklljjahaa
open Go.RowKit Go.Joins Go.ChangeShapes Go.WideShapes
set_option linter.unusedVariables false
set_option linter.unnecessarySimpa false
set_option linter.unusedSimpArgs false

theorem run_copyE (w0 : World) (A : Option Addr) (b off c : Nat) (E : List Eg) (hr : EgArg w0 A b off c E) (ty : TypeId) :
    ∃ g cp w2, (Builtin.append_ #[22, 22] ty #[.slice (some ⟨w0.heap.size, 0, none⟩) 0 0, .slice A E.length c]).run Try.prog (w0.alloc (.cells #[] 27)) = .ok (.slice (some ⟨g, 0, none⟩) E.length cp) w2 ∧
      w0.heap.size ≤ g ∧ g < w2.heap.size ∧ EgArg w2 (some ⟨g, 0, none⟩) g 0 cp E ∧ Below w0.heap.size w0 w2 := by
  obtain ⟨i0, hi, hz0, hz1, hz2⟩ := info_parts infoEd
  have b1 : Below w0.heap.size w0 (w0.alloc (.cells #[] 27)) := (Below.refl _ _).alloc (Nat.le_refl _) _
  have ow := edges_made w0
  obtain ⟨h1, h2, h3, hN⟩ := hr.below b1
  have key : ∃ v' w2, (Builtin.append_ #[22, 22] ty #[.slice (some ⟨w0.heap.size, 0, none⟩) 0 0, .slice A E.length c]).run Try.prog (w0.alloc (.cells #[] 27)) = .ok v' w2 ∧ OwEd w2 w0.heap.size v' E ∧ Below w0.heap.size w0 w2 := by
    rcases hN with ⟨rfl, h0, rfl⟩ | ⟨ad, rfl, had⟩
    · have hr0 : E = [] := List.length_eq_zero_iff.1 h0
      subst hr0
      exact ⟨_, _, run_append_owned_none (P := Try.prog) (w := w0.alloc (.cells #[] 27)) w0.heap.size 22 ty 27 i0 2 Try.underlying22 hi _ 0 [] ow.1, ow, b1⟩
    · obtain ⟨v', w2, hrun, g1, g2, g3⟩ := run_append_own (P := Try.prog) (w0.alloc (.cells #[] 27)) w0.heap.size 22 ty 27 i0 _ 2 16 Try.underlying22 hi hz0 hz1 hz2 rfl (by decide) _ 0 [] ow.1 ad E.length c (edcells E) (edcells_length E) (fun j u hj => by
        have hj2 : j < (edcells E).length := (List.getElem?_eq_some_iff.1 hj).1
        rw [edcells_length] at hj2
        rw [had (by omega)]
        have ea : (⟨b, off, none⟩ : Addr).add j = ⟨b, off + j, none⟩ := by unfold Addr.add; split <;> simp_all
        rw [ea]
        exact h3.news j u hj) (edcells_one E) (by unfold maxLen; omega) (by omega) b1.size
      refine ⟨v', w2, hrun, ⟨?_, fun e => ow.2 (g3.1 e).1⟩, b1.grown g2 b1.size (fun k hk => by simp [Value.ownBlock] at hk; omega)⟩
      rw [List.nil_append, Nat.zero_add] at g1
      exact g1
  obtain ⟨v', w2, hrun, hown, hb⟩ := key
  obtain ⟨g, cp, rfl, hg, hlt, hea⟩ := hown.arg h1
  exact ⟨g, cp, w2, hrun, hg, hlt, hea, hb⟩
theorem run_copyI (w0 : World) (v : Value) (r : List Int) (B : Nat) (hr : QI w0 B v r) (hsz : r.length ≤ 4294967296) (ty : TypeId) :
    ∃ v' w2, (Builtin.append_ #[24, 24] ty #[.slice (some ⟨w0.heap.size, 0, none⟩) 0 0, v]).run Try.prog (w0.alloc (.cells #[] 3)) = .ok v' w2 ∧ QI w2 w0.heap.size v' r ∧ Below w0.heap.size w0 w2 := by
  obtain ⟨i0, hi, hz0, hz1, hz2⟩ := info_parts infoI
  have b1 : Below w0.heap.size w0 (w0.alloc (.cells #[] 3)) := (Below.refl _ _).alloc (Nat.le_refl _) _
  have ow : (w0.alloc (.cells #[] 3)).ownsRow w0.heap.size 3 1 (.slice (some ⟨w0.heap.size, 0, none⟩) 0 0) 0 [] := World.ownsRow_made w0 #[] 0 (Nat.le_refl _) (by decide) rfl
  obtain ⟨A, cap, rfl, h1, h2, h3⟩ := QR.form (QI.below hr b1)
  rw [icells_length] at h1
  rcases h3 with ⟨rfl, h4, rfl⟩ | ⟨g, o', rfl, -, h5, -, h6⟩
  · have hr0 : r = [] := by cases r with | nil => rfl | cons x l => simp [icells] at h4
    subst hr0
    exact ⟨_, _, run_append_owned_none (P := Try.prog) (w := w0.alloc (.cells #[] 3)) w0.heap.size 24 ty 3 i0 1 Try.underlying24 hi _ 0 [] ow, QR.of_own ow, b1⟩
  · obtain ⟨v', w2, hrun, g1, g2, g3⟩ := run_append_own (P := Try.prog) (w0.alloc (.cells #[] 3)) w0.heap.size 24 ty 3 i0 _ 1 8 Try.underlying24 hi hz0 hz1 hz2 rfl (by decide) _ 0 [] ow ⟨g, o', none⟩ (icells r).length cap (icells r) (by rw [Nat.mul_one]) (fun j u hj => by
      have ea : (⟨g, o', none⟩ : Addr).add j = ⟨g, o' + j, none⟩ := by unfold Addr.add; split <;> simp_all
      rw [ea]
      exact h6 j u hj) (fun u hu => by
      obtain ⟨n, -, rfl⟩ := List.mem_map.1 hu
      rfl) (by rw [icells_length]; unfold maxLen; omega) (by rw [icells_length]; omega) b1.size
    refine ⟨v', w2, hrun, ?_, b1.grown g2 b1.size (fun k hk => by simp [Value.ownBlock] at hk; omega)⟩
    have := QR.of_own g1
    rw [List.nil_append] at this
    exact this

/-- the search, the question and the choice over what came in or a copy of it -/
theorem EgArg.cyc {w wx : World} {g cp m : Nat} {E : List Eg} (h : EgArg w (some ⟨g, 0, none⟩) g 0 cp E) (em : E.length = m) {F : Bl} (hf : Frm F w wx) (hg : ¬ F g) (a : Int) :
    Calls Try.prog 8 #[.slice (some ⟨g, 0, none⟩) m cp, .int .i64 a] wx fun e w' => ∃ v o, e = .returned v ∧ Res (Sx E) a [(a, Sx E a)] [a] o ∧ QI w' wx.heap.size v o ∧ Below wx.heap.size wx w' := by
  subst em
  exact cyc_any wx g 0 cp E (h.2.2.1.frm hf (fun _ => hg)) h.1 a
theorem EgArg.any {w wx : World} {g cp m : Nat} {E : List Eg} (h : EgArg w (some ⟨g, 0, none⟩) g 0 cp E) (em : E.length = m) {F : Bl} (hf : Frm F w wx) (hg : ¬ F g) :
    Calls Try.prog 11 #[.slice (some ⟨g, 0, none⟩) m cp] wx fun e w' => ∃ t : Bool, e = .returned (.bool t) ∧ (t = true ↔ ∃ x, Rch (Sx E) x x) ∧ Below wx.heap.size wx w' := by
  subst em
  exact any_any wx g 0 cp E (h.2.2.1.frm hf (fun _ => hg)) h.1
theorem EgArg.rcyc {w : World} {A : Option Addr} {b off c m : Nat} {E : List Eg} (h : EgArg w A b off c E) (em : E.length = m) (x : Int) :
    Calls Try.prog 9 #[.slice A m c, .int .i64 x] w fun e w' => ∃ v o, e = .returned v ∧ Res (Sx E) x [(x, Sx E x)] [x] o ∧ QI w' w.heap.size v o ∧ Below w.heap.size w w' := by
  subst em
  exact rcycle_any A b off c E (Nat.le_trans h.1 (by decide)) h.2.1 w h.2.2.1 x
theorem EgArg.rany {w : World} {A : Option Addr} {b off c m : Nat} {E : List Eg} (h : EgArg w A b off c E) (em : E.length = m) :
    Calls Try.prog 12 #[.slice A m c] w fun e w' => ∃ t : Bool, e = .returned (.bool t) ∧ (t = true ↔ ∃ x, Rch (Sx E) x x) ∧ Below w.heap.size w w' := by
  subst em
  exact rany_any A b off c E (Nat.le_trans h.1 (by decide)) h.2.1 w h.2.2.1
theorem EgArg.rreach {w : World} {A : Option Addr} {b off c m : Nat} {E : List Eg} (h : EgArg w A b off c E) (em : E.length = m) (x y : Int) :
    Calls Try.prog 15 #[.slice A m c, .int .i64 x, .int .i64 y] w fun e w' => ∃ t : Bool, e = .returned (.bool t) ∧ (t = true ↔ Rch (Sx E) x y) ∧ Below w.heap.size w w' := by
  subst em
  exact rreach_any A b off c E (Nat.le_trans h.1 (by decide)) h.2.1 w h.2.2.1 x y
theorem QI.vic {w : World} {B : Nat} {A : Option Addr} {m cp : Nat} {l : List Int} (h : QI w B (.slice A m cp) l) (hl : l.length ≤ maxLen) :
    Calls Try.prog 13 #[.slice A m cp] w fun e w' => ∃ z, e = .returned (.int .i64 z) ∧ VicS l z ∧ w' = w := by
  obtain ⟨a, b, o, cap, e, -, -, h1, h2⟩ := QI.isN h
  injection e with e1 e2 e3
  subst e1 e2 e3
  exact victim_any A b o cp l hl h1 w h2
theorem QI.rvic {w : World} {B : Nat} {A : Option Addr} {m cp : Nat} {l : List Int} (h : QI w B (.slice A m cp) l) (hl : l.length ≤ maxLen) :
    Calls Try.prog 14 #[.slice A m cp] w fun e w' => ∃ z, e = .returned (.int .i64 z) ∧ VicS l z ∧ w = w' := by
  obtain ⟨a, b, o, cap, e, -, -, h1, h2⟩ := QI.isN h
  injection e with e1 e2 e3
  subst e1 e2 e3
  exact rvictim_any A b o cp l hl h1 w h2
theorem QI.same {w : World} {B B' : Nat} {A A' : Option Addr} {m cp m' cp' : Nat} {l r : List Int} (h : QI w B (.slice A m cp) l) (h' : QI w B' (.slice A' m' cp') r) :
    Calls Try.prog 10 #[.slice A m cp, .slice A' m' cp'] w fun e w' => e = .returned (.bool (decide (l = r))) ∧ Below w.heap.size w w' := by
  obtain ⟨a, b, o, cap, e, g1, g2, h1, h2⟩ := QI.isN h
  injection e with e1 e2 e3
  subst e1 e2 e3
  obtain ⟨a', b', o', cap', e', g1', g2', h1', h2'⟩ := QI.isN h'
  injection e' with e1 e2 e3
  subst e1 e2 e3
  exact sameints_any A A' b o cp b' o' cp' l r (Nat.le_trans g1 g2) (Nat.le_trans g1' g2') w h1 h1' h2 h2'

end Go.Proofs.Ytlhipnklljjahaa
