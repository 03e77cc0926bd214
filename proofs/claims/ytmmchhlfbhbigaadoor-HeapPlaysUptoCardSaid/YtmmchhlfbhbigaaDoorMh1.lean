/-
  Texts of mine put together, in build order.
  Conditions: as each declaration says.
-/
import Derived.Test.YtmmchhlfbhbigaaDoorMg8
namespace Go.Proofs.YtmmchhlfbhbigaaDoor
set_option maxRecDepth 100000
open Go.RowKit Go.Joins Go.ChangeShapes Go.WideShapes
set_option linter.unusedVariables false
set_option linter.unusedSimpArgs false

/-- the slots met so far, each once -/
def MetH (s : List Sl) (pr : Int) (g : Int → Option Value) : Prop := ∀ z v, g z = some v → v = .int .i64 1 ∧ ∃ (j : Nat) (id : Int) (row : List Nat), z = (j : Int) ∧ s[j]? = some (id, row) ∧ 0 < id ∧ id ≤ pr
/-- how far it is to the greatest number -/
def hmeas (L : Int) (at' mo : Value) : Nat := match mo with
  | .bool true => (L + 1 - intOf at').toNat
  | _ => 0

theorem hmeas_lt {L m x : Int} (hm : 0 < m) (hmL : m ≤ L) (hx : 0 < x → m < x) : hmeas L (.int .i64 x) (.bool (decide (0 < x))) < hmeas L (.int .i64 m) (.bool true) := by
  by_cases c : 0 < x
  · rw [decide_eq_true c]
    have := hx c
    show (L + 1 - x).toNat < (L + 1 - m).toNat
    omega
  · rw [decide_eq_false c]
    show 0 < (L + 1 - m).toNat
    omega
theorem hBeh_pos {s : List Sl} {pr : Int} (h : 0 < hBeh pr 0 s) : pr < hBeh pr 0 s := by
  rcases hBeh_spec pr s 0 (.inl rfl) with ⟨h1, -⟩ | ⟨-, h2, -⟩
  · omega
  · exact h2
theorem once_step {s : List Sl} {last pr : Int} {g : Int → Option Value} (h : SlOk s last) (hG : MetH s pr g) (hb : 0 < hBeh pr 0 s) :
    ∃ pp ss : Nat, ss < 16 ∧ pp * 16 + ss < s.length ∧ PlaceI (hBeh pr 0 s) s = ((pp : Int), (ss : Int)) ∧ g ((pp : Int) * 16 + (ss : Int)) = none ∧ MetH s (hBeh pr 0 s) (fun z => if z = (pp : Int) * 16 + (ss : Int) then some (.int .i64 1) else g z) ∧
      cle (hBeh pr 0 s) s = cle pr s + 1 ∧ pr < hBeh pr 0 s ∧ hBeh pr 0 s ≤ last := by
  obtain ⟨h1, h2, h3, k, row, h4, h5⟩ := cle_next h hb
  generalize hm : hBeh pr 0 s = m at *
  have hkl := (List.getElem?_eq_some_iff.1 h4).1
  have e : ((k / 16 : Nat) : Int) * 16 + ((k % 16 : Nat) : Int) = (k : Int) := by omega
  refine ⟨k / 16, k % 16, by omega, by omega, ?_, ?_, fun z v hv => ?_, h3, h1, h2⟩
  · unfold PlaceI
    rw [h5, if_neg (by omega)]
    rfl
  · cases hv : g (((k / 16 : Nat) : Int) * 16 + ((k % 16 : Nat) : Int)) with
    | none => rfl
    | some v =>
      exfalso
      obtain ⟨-, j, id, r, q1, q2, q3, q4⟩ := hG _ _ hv
      rw [e] at q1
      have : k = j := by omega
      subst this
      rw [h4] at q2
      injection q2 with q2
      injection q2 with q2 _
      omega
  · dsimp only at hv
    split at hv
    · next c =>
      injection hv with hv
      exact ⟨hv.symm, k, m, row, by rw [c, e], h4, hb, Int.le_refl _⟩
    · obtain ⟨q0, j, id, r, q1, q2, q3, q4⟩ := hG _ _ hv
      exact ⟨q0, j, id, r, q1, q2, q3, by omega⟩
theorem zint (w : World) : (zeroValue 3).run Tryd.prog w = .ok (.int .i64 0) w := rfl

end Go.Proofs.YtmmchhlfbhbigaaDoor

namespace Go.Proofs.YtmmchhlfbhbigaaDoor
set_option maxRecDepth 100000
open Go.RowKit Go.Joins Go.ChangeShapes Go.WideShapes
set_option linter.unusedVariables false
set_option linter.unusedSimpArgs false

theorem and63 (z : Int) : ∃ m : Nat, m < 64 ∧ bits .and .i64 z 63 = (m : Int) := by
  refine ⟨(BitVec.ofInt 64 z &&& BitVec.ofInt 64 63).toNat, ?_, ?_⟩
  · rw [BitVec.toNat_and]
    exact Nat.lt_of_le_of_lt Nat.and_le_right (by decide)
  · have h : (BitVec.ofInt 64 z &&& BitVec.ofInt 64 63).toNat < 64 := by
      rw [BitVec.toNat_and]
      exact Nat.lt_of_le_of_lt Nat.and_le_right (by decide)
    generalize hx : (BitVec.ofInt 64 z &&& BitVec.ofInt 64 63).toNat = x at h
    refine Eq.trans (congrArg (fun n : Nat => IntKind.i64.wrap (n : Int)) hx) ?_
    show IntKind.i64.wrap (x : Int) = (x : Int)
    rw [IntKind.wrap_i64]
    omega
theorem key_box (w : World) (x : Nat) (hx : x < 256) (z : Int) (hz : z = (x : Int)) : KeyAt (w.alloc (.cells #[.int .u8 z] 5)) (fun k => w.heap.size ≤ k ∧ k < (w.alloc (.cells #[.int .u8 z] 5)).heap.size) (.slice (some ⟨w.heap.size, 0, none⟩) 1 1) [x] := by
  subst hz
  refine ⟨_, w.heap.size, 0, 1, rfl, .inr ⟨rfl, Nat.le_refl _, by simp⟩, ⟨fun _ => by simp, fun i y hy => ?_, fun y hy => by simp at hy; subst hy; exact hx⟩⟩
  have hi : i = 0 := by have := (List.getElem?_eq_some_iff.1 hy).1; simpa using this
  subst hi
  simp at hy
  subst hy
  rw [cell_of_block (heap_alloc_new w _)]
  rfl
/-- each row is its number's one byte -/
def WkH (n : Nat) (s : List Sl) : Prop := ∀ x ∈ s, 0 < x.1 → x.2 = [(x.1 - 1).toNat] ∧ x.1 ≤ (n : Int)
theorem WkH.add {n k : Nat} {s : List Sl} (h : WkH n s) (hk : k < n) : WkH n (hLay ((k : Int) + 1) [k] s) := by
  intro x hx hp
  rcases hLay_mem hx with rfl | q
  · refine ⟨?_, by show (k : Int) + 1 ≤ n; omega⟩
    show [k] = [((k : Int) + 1 - 1).toNat]
    congr 1
    omega
  · exact h x q hp
theorem WkH.drop {n : Nat} {s : List Sl} (h : WkH n s) (id : Int) : WkH n (hDrop id s) := by
  intro x hx hp
  rcases hDrop_mem hx with rfl | q
  · simp at hp
  · exact h x q hp
theorem WkH.nil (n : Nat) : WkH n [] := fun x hx => by cases hx

def sumH : List Int → Int
  | [] => 0
  | x :: r => x + sumH r
theorem sumH_app : ∀ (l r : List Int), sumH (l ++ r) = sumH l + sumH r
  | [], r => by simp [sumH]
  | x :: l, r => by
    show x + sumH (l ++ r) = x + sumH l + sumH r
    rw [sumH_app l r]; omega
theorem sumH_zeros : ∀ n, sumH (List.replicate n 0) = 0
  | 0 => rfl
  | n + 1 => by
    rw [List.replicate_succ]
    show 0 + sumH (List.replicate n 0) = 0
    rw [sumH_zeros n]; rfl
theorem sumH_pad (out : List Int) (p : Nat) : sumH (hPad out p) = sumH out := by unfold hPad; rw [sumH_app, sumH_zeros]; omega
theorem sumH_set : ∀ (l : List Int) (p : Nat) (x y : Int), l[p]? = some x → sumH (l.set p y) + x = sumH l + y
  | [], p, x, y, h => by simp at h
  | z :: l, 0, x, y, h => by
    simp only [List.getElem?_cons_zero, Option.some.injEq] at h
    subst h
    show y + sumH l + z = z + sumH l + y
    omega
  | z :: l, p + 1, x, y, h => by
    rw [List.getElem?_cons_succ] at h
    have := sumH_set l p x y h
    show z + sumH (l.set p y) + x = z + sumH l + y
    omega
theorem sumH_incr (l : List Int) (p : Nat) (hp : p < l.length) : sumH (hIncr l p) = sumH l + 1 := by
  have hx : l[p]? = some l[p] := List.getElem?_eq_getElem hp
  have := sumH_set l p _ (l[p] + 1) hx
  rw [incr_at hx]
  omega
theorem sumH_pg : ∀ (s : List Sl) (i : Nat) (out : List Int), (∀ x ∈ s, 0 ≤ x.1) → sumH (hPg s i out) = sumH out + (hLen s : Nat)
  | [], i, out, _ => by simp [hPg, hLen]
  | x :: r, i, out, h => by
    unfold hPg hLen
    have h0 := h x (List.mem_cons_self ..)
    have ih := fun o => sumH_pg r (i + 1) o (fun y hy => h y (List.mem_cons_of_mem _ hy))
    by_cases c : x.1 = 0
    · rw [if_pos c, if_neg (by omega), ih]; omega
    · rw [if_neg c, if_pos (by omega), ih, sumH_incr _ _ (by rw [hPad_len]; omega), sumH_pad]; omega
theorem SlOk.sum {s : List Sl} {last : Int} (h : SlOk s last) : sumH (hPages s) = (hLen s : Nat) := by
  unfold hPages
  rw [sumH_pg s 0 [] (fun x hx => by
    obtain ⟨k, hk⟩ := List.getElem?_of_mem hx
    exact (h.ids k x.1 x.2 hk).1)]
  simp [sumH]
theorem pages_mem {s : List Sl} : ∀ x ∈ hPages s, 0 ≤ x := by
  have : ∀ (s : List Sl) (i : Nat) (out : List Int), (∀ x ∈ out, 0 ≤ x) → ∀ x ∈ hPg s i out, 0 ≤ x := by
    intro s
    induction s with
    | nil => intro i out h; exact h
    | cons y r ih =>
      intro i out h
      unfold hPg
      split
      · exact ih _ _ h
      · refine ih _ _ (fun x hx => ?_)
        obtain ⟨k, hk⟩ : ∃ k : Nat, ∀ x ∈ out, x ≤ (k : Int) := by
          clear ih hx h
          induction out with
          | nil => exact ⟨0, fun x hx => by cases hx⟩
          | cons z l ihl =>
            obtain ⟨k, hk⟩ := ihl
            exact ⟨k + z.toNat, fun x hx => by
              rcases List.mem_cons.1 hx with rfl | hx
              · omega
              · have := hk x hx; omega⟩
        exact (incr_mem (pad_mem (fun x hx => ⟨h x hx, hk x hx⟩)) x hx).1
  exact this s 0 [] (fun x hx => by cases hx)
theorem sumH_nn : ∀ {l : List Int}, (∀ x ∈ l, 0 ≤ x) → 0 ≤ sumH l
  | [], _ => Int.le_refl _
  | x :: r, h => by
    have := h x (List.mem_cons_self ..)
    have := sumH_nn (fun y hy => h y (List.mem_cons_of_mem _ hy))
    show 0 ≤ x + sumH r
    omega
theorem sumH_take {l : List Int} (h : ∀ x ∈ l, 0 ≤ x) (k : Nat) : 0 ≤ sumH (l.take k) ∧ sumH (l.take k) ≤ sumH l := by
  have h1 := sumH_app (l.take k) (l.drop k)
  rw [List.take_append_drop] at h1
  have h2 := sumH_nn (l := l.take k) (fun x hx => h x (List.mem_of_mem_take hx))
  have h3 := sumH_nn (l := l.drop k) (fun x hx => h x (List.mem_of_mem_drop hx))
  omega
theorem sumH_next {l : List Int} {k : Nat} {x : Int} (hx : l[k]? = some x) : sumH (l.take (k + 1)) = sumH (l.take k) + x := by
  rw [List.take_add_one, hx, sumH_app]
  show sumH (l.take k) + (x + 0) = _
  omega

theorem OwI.short {w : World} {base : Nat} {v : Value} {l : List Int} (h : OwI w base v l) : (l.length : Int) ≤ 9223372036854775807 := by
  rcases h.1.2 with ⟨-, e⟩ | ⟨g, cap, cur, -, -, -, hn, hc, -⟩
  · omega
  · unfold maxLen at hc; omega

end Go.Proofs.YtmmchhlfbhbigaaDoor
