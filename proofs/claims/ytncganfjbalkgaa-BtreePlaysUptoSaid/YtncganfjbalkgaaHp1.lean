/-
  The document's heap (haspref08) in memory; contracts over the translation: Copy, Find, Len, Behind.
  Conditions: the heap lies in memory.
-/
import Derived.Test.YtncganfjbalkgaaFrm
import Derived.Test.YtncganfjbalkgaaKp
import Derived.Test.YtncganfjbalkgaaVl
namespace Go.Proofs.Ytncganfjbalkgaa
open Go.RowKit Go.Joins Go.ChangeShapes Go.WideShapes
set_option linter.unusedVariables false

/-- haspref07.Copy: a list of bytes as new memory -/
theorem refcopy_any (a : Option Addr) (b off cap : Nat) (l : List Nat) (hm : l.length ≤ 17592186044416) (w : World) (ha : l.length = 0 ∨ a = some ⟨b, off, none⟩) (hA : IsB w b off l) :
    Calls Try.prog 11 #[.slice a l.length cap] w fun e w' => ∃ v, e = .returned v ∧ OwB w' w.heap.size v l ∧ Below w.heap.size w w' := by
  generalize hP : (fun (e : Ending) (w' : World) => ∃ v, e = .returned v ∧ OwB w' w.heap.size v l ∧ Below w.heap.size w w') = P
  have hpost : ∀ (v : Value) (w' : World), En w w' w.heap.size v l → P (.returned v) w' := by
    intro v w' h; rw [← hP]; exact ⟨v, rfl, h.own, h.bel⟩
  have HP := Lib.hid hpost
  have HB := Lib.hid hA
  have HA := Lib.hid ha
  obtain ⟨m, em⟩ : ∃ m, l.length = m := ⟨_, rfl⟩
  have EM := Lib.hid em
  rw [em] at hm ⊢
  clear hpost hP hA ha em
  go_enter Try.func11, Try.ntmps11
  go_wp2
  go_loopw [3, 4] (fun v i wr => ∃ k : Nat, k ≤ m ∧ i = .int .i64 k ∧ En w wr w.heap.size v (l.take k)) (fun _ i _ => m - (intOf i).toNat)
  case atStart =>
    exact ⟨0, by omega, rfl, ⟨World.ownsRow_made w #[] 0 (Nat.le_refl _) (by decide) rfl, by simp⟩, (Below.refl _ _).alloc (Nat.le_refl _) _, by simp⟩
  case round =>
    obtain ⟨k, hk, rfl, hen⟩ := hrel
    by_cases c : k < m
    · have c1 : (k : Int) < (m : Int) := by omega
      obtain rfl : a = some ⟨b, off, none⟩ := by rcases HA.out with h | h; (have := EM.out; omega); exact h
      have hz : l[k]? = some (l[k]'(by rw [EM.out]; omega)) := List.getElem?_eq_getElem _
      generalize l[k]'(by rw [EM.out]; omega) = z at *
      have b0 := (HB.out.below (hen.bel)).c k z hz
      have HE2 := Lib.hid hen
      have HZ := Lib.hid hz
      have HL := Lib.hid (show (l.take k).length ≤ 17592186044416 by rw [List.length_take]; have := EM.out; omega)
      clear hen hz
      go_wp2_with (first | (at_builtin; refine wp_push rfl _ _ rfl w.heap.size _ _ rfl (HE2.out.own.alloc _) ⟨wr.heap.size, 0, none⟩ 1 1 [z] rfl rfl (news1' wr _ _ rfl) (by have := HL.out; omega) (HE2.out.alloc _).sz ?_; intro v1 w1 hown1 hgrow1; have HE3 := Lib.hid ((HE2.out.alloc _).push hown1 hgrow1); clear hown1 hgrow1))
      go_roundw
      case rel => exact ⟨k + 1, by omega, by go_num, by rw [List.take_add_one, HZ.out]; exact HE3.out⟩
      case measure => simp [intOf]; omega
    · obtain rfl : k = m := by omega
      rw [List.take_of_length_le (by rw [EM.out]; exact Nat.le_refl _)] at hen
      have HE := Lib.hid hen
      clear hen
      go_wp2
      exact HP.out _ _ HE.out

/-- a slot: a row's number (0: free), its bytes -/
abbrev Sl := Int × List Nat
def scells : List Sl → List Value → List Value
  | s :: r, u :: v => .int .i64 s.1 :: u :: scells r v
  | _, _ => []
theorem scells_length : ∀ (s : List Sl) (vs : List Value), vs.length = s.length → (scells s vs).length = s.length * 2
  | [], vs, _ => by cases vs <;> rfl
  | s :: r, [], h => by simp at h
  | s :: r, u :: v, h => by
    unfold scells
    rw [List.length_cons, List.length_cons, scells_length r v (by simpa using h), List.length_cons]
    omega
theorem scells_at : ∀ (s : List Sl) (vs : List Value) (i : Nat) (x : Sl) (u : Value), s[i]? = some x → vs[i]? = some u → (scells s vs)[i * 2]? = some (.int .i64 x.1) ∧ (scells s vs)[i * 2 + 1]? = some u
  | [], _, i, x, u, h, _ => by simp at h
  | s :: r, [], i, x, u, _, h => by simp at h
  | s :: r, v :: vs, 0, x, u, h, g => by
    simp only [List.getElem?_cons_zero, Option.some.injEq] at h g
    subst h g
    exact ⟨rfl, rfl⟩
  | s :: r, v :: vs, i + 1, x, u, h, g => by
    rw [List.getElem?_cons_succ] at h g
    have := scells_at r vs i x u h g
    unfold scells
    rw [show (i + 1) * 2 = i * 2 + 1 + 1 by omega]
    exact this
theorem scells_set : ∀ (s : List Sl) (vs : List Value) (i : Nat) (x : Sl) (u : Value), i < s.length → vs.length = s.length → ((scells s vs).set (i * 2) (.int .i64 x.1)).set (i * 2 + 1) u = scells (s.set i x) (vs.set i u)
  | [], _, i, x, u, h, _ => by simp at h
  | s :: r, [], i, x, u, _, h => by simp at h
  | s :: r, v :: vs, 0, x, u, _, _ => rfl
  | s :: r, v :: vs, i + 1, x, u, h, g => by
    have := scells_set r vs i x u (by simpa using h) (by simpa using g)
    rw [show (i + 1) * 2 = i * 2 + 1 + 1 by omega]
    show Value.int .i64 s.1 :: v :: ((scells r vs).set (i * 2) (.int .i64 x.1)).set (i * 2 + 1) u = _
    rw [this]
    rfl
theorem scells_app : ∀ (s : List Sl) (vs : List Value) (x : Sl) (u : Value), vs.length = s.length → scells (s ++ [x]) (vs ++ [u]) = scells s vs ++ [.int .i64 x.1, u]
  | [], [], _, _, _ => rfl
  | [], _ :: _, _, _, h => by simp at h
  | s :: r, [], _, _, h => by simp at h
  | s :: r, v :: vs, x, u, h => by
    show Value.int .i64 s.1 :: v :: scells (r ++ [x]) (vs ++ [u]) = _
    rw [scells_app r vs x u (by simpa using h)]
    rfl
theorem scells_one : ∀ (s : List Sl) (vs : List Value), (∀ u ∈ vs, u.oneCell' = true) → ∀ u ∈ scells s vs, u.oneCell' = true
  | [], vs, _ => by cases vs <;> simp [scells]
  | s :: r, [], _ => by simp [scells]
  | s :: r, v :: vs, h => by
    intro u hu
    unfold scells at hu
    rcases List.mem_cons.1 hu with rfl | hu
    · rfl
    · rcases List.mem_cons.1 hu with rfl | hu
      · exact h _ (List.mem_cons_self ..)
      · exact scells_one r vs (fun u hu => h u (List.mem_cons_of_mem _ hu)) u hu

def hFindN (id : Int) : List Sl → Nat → Int
  | [], _ => -1
  | x :: r, i => if 0 < id ∧ x.1 = id then (i : Int) else hFindN id r (i + 1)
def hFind (id : Int) (s : List Sl) : Int := hFindN id s 0
def hLen : List Sl → Nat
  | [] => 0
  | x :: r => (if 0 < x.1 then 1 else 0) + hLen r
def hBeh (id : Int) : Int → List Sl → Int
  | best, [] => best
  | best, x :: r => hBeh id (if id < x.1 ∧ 0 < x.1 ∧ (best = 0 ∨ x.1 < best) then x.1 else best) r
theorem drop_at {α : Type} {s : List α} {k : Nat} {x : α} (h : s[k]? = some x) : s.drop k = x :: s.drop (k + 1) := by
  obtain ⟨h1, h2⟩ := List.getElem?_eq_some_iff.1 h
  rw [List.drop_eq_getElem_cons h1, h2]

end Go.Proofs.Ytncganfjbalkgaa
