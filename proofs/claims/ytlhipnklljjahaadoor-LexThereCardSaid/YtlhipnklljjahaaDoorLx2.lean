/-
  The reader's way through its bytes (layer 12): take, pass: contracts over the translation.
  Conditions: the reader lies in memory.
-/
import Derived.Test.YtlhipnklljjahaaDoorLx1
namespace Go.Proofs.YtlhipnklljjahaaDoor
set_option maxRecDepth 100000
open Go.RowKit Go.Joins Go.ChangeShapes Go.WideShapes
set_option linter.unusedVariables false
set_option linter.unusedSimpArgs false

/-- a reader: what is left of the bytes of block b -/
structure Rd (w : World) (rd b off cap : Nat) (l : List Nat) : Prop where
  hd : w.heap[rd]? = some (.cells #[.slice (some ⟨b, off, none⟩) l.length cap] 35 (0, 0))
  is : IsB w b off l
  cp : l.length ≤ cap
  sz : cap ≤ maxLen
  ln : l.length ≤ 4294967296
  ne : rd ≠ b
theorem Rd.below {w w1 : World} {rd b off cap : Nat} {l : List Nat} (h : Rd w rd b off cap l) (hb : Below w.heap.size w w1) : Rd w1 rd b off cap l :=
  ⟨(hb.block _ (Array.getElem?_eq_some_iff.1 h.hd).1).trans h.hd, h.is.below hb, h.cp, h.sz, h.ln, h.ne⟩
theorem Rd.moved {w : World} {rd b off cap : Nat} {l : List Nat} (h : Rd w rd b off cap l) (n off' cap' : Nat) (ho : off' = off + n ∨ l.length ≤ n) (hc : l.length - n ≤ cap') (hc2 : cap' ≤ cap) :
    Rd (w.setCell ⟨rd, 0, none⟩ (.slice (some ⟨b, off', none⟩) (l.length - n) cap')) rd b off' cap' (l.drop n) ∧ Frm (fun k => k = rd) w (w.setCell ⟨rd, 0, none⟩ (.slice (some ⟨b, off', none⟩) (l.length - n) cap')) := by
  have hlen : (l.drop n).length = l.length - n := List.length_drop
  have hf : Frm (fun k => k = rd) w (w.setCell ⟨rd, 0, none⟩ (.slice (some ⟨b, off', none⟩) (l.length - n) cap')) := Frm.set1 (F := fun k => k = rd) w rfl 0 _
  have hi : IsB w b off' (l.drop n) := by
    rcases ho with rfl | ho
    · exact h.is.drop n
    · rw [List.drop_eq_nil_of_le ho]
      exact ⟨fun h => absurd h (by simp), fun i x hx => by simp at hx, fun x hx => by simp at hx⟩
  exact ⟨⟨by rw [hlen, setCell_eq_setRow w rd 0 _ _ _ _ h.hd, setRow_heap w rd _ _ _ _ h.hd]; rfl, hf.isB hi (fun _ e => h.ne e.symm), by rw [hlen]; exact hc, Nat.le_trans hc2 h.sz, by rw [hlen]; have := h.ln; omega, h.ne⟩, hf⟩
set_option maxHeartbeats 1000000 in
theorem take_any {w : World} {rd b off cap : Nat} {l : List Nat} (h : Rd w rd b off cap l) (n : Nat) (hn : n ≤ l.length) :
    Calls Tryd.prog 17 #[.pointer (some ⟨rd, 0, none⟩), .int .i64 n] w fun e w' => e = .returned (.slice (some ⟨b, off, none⟩) n cap) ∧ ∃ off' cap', Rd w' rd b off' cap' (l.drop n) ∧ Frm (fun k => k = rd) w w' := by
  generalize hP : (fun (e : Ending) (w' : World) => e = .returned (.slice (some ⟨b, off, none⟩) n cap) ∧ ∃ off' cap', Rd w' rd b off' cap' (l.drop n) ∧ Frm (fun k => k = rd) w w') = P
  have hcp := h.cp
  have HF := Lib.hid (show P (.returned (.slice (some ⟨b, off, none⟩) n cap)) (w.setCell ⟨rd, 0, none⟩ (.slice (some ⟨b, off + n, none⟩) (l.length - n) (cap - n))) by
    rw [← hP]
    obtain ⟨h1, h2⟩ := h.moved n (off + n) (cap - n) (.inl rfl) (by omega) (by omega)
    exact ⟨rfl, _, _, h1, h2⟩)
  have HF2 := Lib.hid (show cap = n → P (.returned (.slice (some ⟨b, off, none⟩) n n)) (w.setCell ⟨rd, 0, none⟩ (.slice (some ⟨b, off, none⟩) (l.length - n) 0)) by
    intro e
    rw [← hP]
    obtain ⟨h1, h2⟩ := h.moved n off 0 (.inr (by omega)) (by omega) (by omega)
    exact ⟨by rw [e], _, _, h1, h2⟩)
  have c0 : w.cell? ⟨rd, 0, none⟩ = some (.slice (some ⟨b, off, none⟩) l.length cap) := by rw [cell_of_block h.hd]; rfl
  have f0 := unfrozen_of_block h.hd 0
  have hs := h.sz
  obtain ⟨m, hm⟩ : ∃ m, l.length = m := ⟨_, rfl⟩
  rw [hm] at c0 hcp hn HF HF2
  have k1 : (n : Int) ≤ (cap : Int) := by omega
  have k2 : (n : Int) ≤ (m : Int) := by omega
  have k3 : (m : Int) ≤ (cap : Int) := by omega
  clear hP h hm
  go_enter Tryd.func17, Tryd.ntmps17
  go_wp2_with fail
  all_goals first | exact HF.out | exact HF2.out (by assumption)
set_option maxHeartbeats 1000000 in
theorem pass_any {g : Nat} {f : Nat → Bool} (hg : Sort8 g f) (henter : ∀ args w, (callFunc g args).run Tryd.prog w = .ok (.enter g args) w) {w : World} {rd b off cap : Nat} {l : List Nat} (h : Rd w rd b off cap l) :
    Calls Tryd.prog 10 #[.pointer (some ⟨rd, 0, none⟩), .func (.func g) #[] #[]] w fun e w' => e = .returned (.slice (some ⟨b, off, none⟩) (runL f l) cap) ∧ ∃ off' cap', Rd w' rd b off' cap' (l.drop (runL f l)) ∧ Frm (fun k => k = rd) w w' := by
  generalize hP : (fun (e : Ending) (w' : World) => e = .returned (.slice (some ⟨b, off, none⟩) (runL f l) cap) ∧ ∃ off' cap', Rd w' rd b off' cap' (l.drop (runL f l)) ∧ Frm (fun k => k = rd) w w') = P
  have HP := Lib.hid hP
  have hcp := h.cp
  have hsz := h.ln
  have HR := Lib.hid (run_any hg henter w (some ⟨b, off, none⟩) b off cap l (.inr rfl) h.is (by omega))
  have HT := Lib.hid (fun (wx : World) (hb : Below w.heap.size w wx) => take_any (h.below hb) (runL f l) (runL_le f l))
  have c0 : w.cell? ⟨rd, 0, none⟩ = some (.slice (some ⟨b, off, none⟩) l.length cap) := by rw [cell_of_block h.hd]; rfl
  clear hP h
  go_enter Tryd.func10, Tryd.ntmps10
  go_wp2_with fail
  refine HR.out.mono ?_
  rintro e w1 ⟨rfl, b1⟩
  have HT1 := Lib.hid (HT.out w1 b1)
  have B1 := Lib.hid b1
  clear b1
  go_wp2_with fail
  refine HT1.out.mono ?_
  rintro e w2 ⟨rfl, off', cap', h2, f2⟩
  have HX := Lib.hid (show P (.returned (.slice (some ⟨b, off, none⟩) (runL f l) cap)) w2 by
    rw [← HP.out]
    exact ⟨rfl, off', cap', h2, (Frm.of_below (F := fun k => k = rd) B1.out).trans f2 (New.refl _ _)⟩)
  clear h2 f2
  go_wp2_with fail
  exact HX.out

end Go.Proofs.YtlhipnklljjahaaDoor
