/-
  What comes behind all that begin with some bytes: the document's answer (haspref05.Behind), and that it is the least.
  Conditions: the row lies in memory.
-/
import Derived.Test.YtpknoclnmhomiaaByt2
import Derived.Laws.OwnMore
namespace Go.Proofs.Ytpknoclnmhomiaa
open Go.RowKit Go.Joins Go.ChangeShapes Go.WideShapes
set_option linter.unusedVariables false

/-- the place behind the last byte that isn't 255 -/
def stripN (l : List Nat) : Nat → Nat
  | 0 => 0
  | n + 1 => if l[n]? = some 255 then stripN l n else n + 1
theorem stripN_succ (l : List Nat) (n : Nat) : stripN l (n + 1) = if l[n]? = some 255 then stripN l n else n + 1 := rfl
theorem stripN_le (l : List Nat) : ∀ n, stripN l n ≤ n
  | 0 => Nat.le_refl _
  | n + 1 => by
    unfold stripN
    have := stripN_le l n
    split <;> omega
theorem stripN_at (l : List Nat) : ∀ n k, stripN l n = k + 1 → l[k]? ≠ some 255
  | 0, k, h => by simp [stripN] at h
  | n + 1, k, h => by
    unfold stripN at h
    split at h
    · exact stripN_at l n k h
    · obtain rfl : n = k := by omega
      assumption
theorem stripN_255 (l : List Nat) : ∀ n i, stripN l n ≤ i → i < n → l[i]? = some 255
  | 0, i, _, h => absurd h (by omega)
  | n + 1, i, h1, h2 => by
    unfold stripN at h1
    split at h1
    · by_cases c : i = n
      · subst c; assumption
      · exact stripN_255 l n i h1 (by omega)
    · omega

/-- the least list behind all that begin so (empty: there is none) -/
def behB (l : List Nat) : List Nat :=
  let n := stripN l l.length
  if n = 0 then [] else l.take (n - 1) ++ [(l[n - 1]?).getD 0 + 1]
theorem behB_of {l : List Nat} {k x : Nat} (h : stripN l l.length = k + 1) (hx : l[k]? = some x) : behB l = l.take k ++ [x + 1] := by
  unfold behB
  simp only [h]
  rw [if_neg (by omega), Nat.add_sub_cancel, hx]
  rfl
theorem behB_no {l : List Nat} (h : stripN l l.length = 0) : behB l = [] := by
  unfold behB
  simp only [h]
  rfl
theorem behB_lt {l : List Nat} (hl : ∀ x ∈ l, x < 256) : ∀ x ∈ behB l, x < 256 := by
  intro x hx
  rcases h : stripN l l.length with _ | k
  · rw [behB_no h] at hx; cases hx
  · have hk := stripN_le l l.length
    have hn := stripN_at l _ k h
    have e : l[k]? = some (l[k]'(by omega)) := List.getElem?_eq_getElem _
    rw [behB_of h e] at hx
    rcases List.mem_append.1 hx with hx | hx
    · exact hl x (List.mem_of_mem_take hx)
    · rw [List.mem_singleton] at hx
      have h2 := hl (l[k]'(by omega)) (List.getElem_mem _)
      have h3 : l[k]'(by omega) ≠ 255 := fun q => hn (by rw [e, q])
      omega
theorem behB_le (l : List Nat) : (behB l).length ≤ l.length := by
  rcases h : stripN l l.length with _ | k
  · rw [behB_no h]; simp
  · have hk := stripN_le l l.length
    have e : l[k]? = some (l[k]'(by omega)) := List.getElem?_eq_getElem _
    rw [behB_of h e]
    simp
    omega

theorem set_last {l : List Nat} {j x y : Nat} (hx : l[j]? = some x) : (bcells (l.take (j + 1))).set j (.int .u8 (y : Int)) = bcells (l.take j ++ [y]) := by
  have hl : (l.take j).length = j := by
    have := (List.getElem?_eq_some_iff.1 hx).1
    rw [List.length_take]; omega
  have e : l.take (j + 1) = l.take j ++ [x] := by rw [List.take_add_one, hx]; rfl
  rw [e, bcells_app, bcells_app, List.set_append_right _ _ (by rw [bcells_length, hl]; exact Nat.le_refl _), bcells_length, hl, Nat.sub_self]
  rfl

set_option maxHeartbeats 2000000 in
theorem refBehind_any (a : Option Addr) (b off cap : Nat) (l : List Nat) (hm : l.length ≤ 17592186044416) (w : World) (ha : l.length = 0 ∨ a = some ⟨b, off, none⟩) (hA : IsB w b off l) :
    Calls Try.prog 22 #[.slice a l.length cap] w fun e w' => ∃ v, e = .returned (.tuple #[v, .bool (decide (stripN l l.length ≠ 0))]) ∧ OwB w' w.heap.size v (behB l) ∧ Below w.heap.size w w' := by
  generalize hP : (fun (e : Ending) (w' : World) => ∃ v, e = .returned (.tuple #[v, .bool (decide (stripN l l.length ≠ 0))]) ∧ OwB w' w.heap.size v (behB l) ∧ Below w.heap.size w w') = P
  have hpost : ∀ (v : Value) (w' : World) (d : Bool), (d = true ↔ stripN l l.length ≠ 0) → En w w' w.heap.size v (behB l) → P (.returned (.tuple #[v, .bool d])) w' := by
    intro v w' d hd h
    rw [← hP]
    refine ⟨v, ?_, h.own, h.bel⟩
    have : d = decide (stripN l l.length ≠ 0) := by rcases d with _ | _ <;> simp_all
    rw [this]
  have HP := Lib.hid hpost
  have HA := Lib.hid ha
  have HB := Lib.hid hA
  clear hpost hP ha hA
  obtain ⟨m, em⟩ : ∃ m, l.length = m := ⟨_, rfl⟩
  have EM := Lib.hid em
  rw [em]
  rw [em] at hm HP
  clear em
  go_enter Try.func22, Try.ntmps22
  go_wp2
  go_loopw [4] (fun i wr => ∃ k : Nat, k ≤ m ∧ i = .int .i64 k ∧ Hid (stripN l m = stripN l k) ∧ w = wr) (fun i _ => (intOf i).toNat)
  case atStart => exact ⟨m, Nat.le_refl _, rfl, rfl, rfl⟩
  case round =>
    obtain ⟨k, h1, rfl, he, rfl⟩ := hrel
    have hk1 : k ≤ 17592186044416 := by omega
    rcases k with _ | j
    · have HE := Lib.hid he.out
      clear he
      go_wp2
      go_loopw [5, 6] (fun v i wx => i = .int .i64 0 ∧ En w wx w.heap.size v (behB l)) (fun _ _ _ => 0)
      case atStart =>
        have e0 : behB l = [] := behB_no (by rw [EM.out]; exact HE.out)
        rw [e0]
        exact ⟨rfl, ⟨World.ownsRow_made w #[] 0 (Nat.le_refl _) (by decide) rfl, by simp⟩, (Below.refl _ _).alloc (Nat.le_refl _) _, by simp⟩
      case round =>
        obtain ⟨rfl, hen⟩ := hrel
        have HEN := Lib.hid hen
        have HD := Lib.hid (show (false = true ↔ stripN l m ≠ 0) by rw [show stripN l m = 0 from HE.out]; simp)
        clear hen
        go_wp2
        exact HP.out _ _ _ HD.out HEN.out
    · have hj : j < m := by omega
      have hx : l[j]? = some (l[j]'(by rw [EM.out]; exact hj)) := List.getElem?_eq_getElem _
      generalize l[j]'(by rw [EM.out]; exact hj) = x at *
      obtain rfl : a = some ⟨b, off, none⟩ := by rcases HA.out with h | h; (have := EM.out; omega); exact h
      have a0 := HB.out.c j x hx
      have hx8 := HB.out.lt x (List.mem_of_getElem? hx)
      have j1 : ((j : Int) + 1 - 1) = (j : Int) := by omega
      have j2 : (j : Int) < (m : Int) := by omega
      have j3 : (0 : Int) < (j : Int) + 1 := by omega
      have HX := Lib.hid hx
      have HX8 := Lib.hid hx8
      have HE := Lib.hid he.out
      clear hx hx8 he
      by_cases q : x = 255
      · subst q
        go_wp2
        go_roundw
        case rel => exact ⟨j, by omega, by go_num, by show stripN l m = stripN l j; rw [HE.out, stripN_succ, if_pos HX.out], by trivial⟩
        case measure => first | (simp [intOf]; done) | (simp [intOf]; omega)
      · have q1 : ((x : Int) == 255) = false := by simp; omega
        have q2 : (x == 255) = false := by simpa using q
        have hst : stripN l m = j + 1 := by
          have h := HE.out
          rw [stripN_succ, if_neg (by rw [HX.out]; intro e; exact q (Option.some.inj e))] at h
          exact h
        have HST := Lib.hid hst
        clear hst
        go_wp2
        go_loopw [5, 6] (fun v i wx => ∃ k : Nat, k ≤ j + 1 ∧ i = .int .i64 k ∧ En w wx w.heap.size v (l.take k)) (fun _ i _ => j + 1 - (intOf i).toNat)
        case atStart =>
          exact ⟨0, by omega, rfl, ⟨World.ownsRow_made w #[] 0 (Nat.le_refl _) (by decide) rfl, by simp⟩, (Below.refl _ _).alloc (Nat.le_refl _) _, by simp⟩
        case round =>
          obtain ⟨k, hk, rfl, hen⟩ := hrel
          by_cases c : k < j + 1
          · have c1 : (k : Int) < (j : Int) + 1 := by omega
            have hz : l[k]? = some (l[k]'(by rw [EM.out]; omega)) := List.getElem?_eq_getElem _
            generalize l[k]'(by rw [EM.out]; omega) = z at *
            have b0 := (HB.out.below (hen.bel)).c k z hz
            have c2 : (k : Int) < (m : Int) := by omega
            have HE2 := Lib.hid hen
            have HZ := Lib.hid hz
            have HL := Lib.hid (show (l.take k).length ≤ 17592186044416 by rw [List.length_take]; have := EM.out; omega)
            clear hen hz
            go_wp2_with (first | (at_builtin; refine wp_push rfl _ _ rfl w.heap.size _ _ rfl (HE2.out.own.alloc _) ⟨wr.heap.size, 0, none⟩ 1 1 [z] rfl rfl (news1' wr _ _ rfl) (by have := HL.out; omega) (HE2.out.alloc _).sz ?_; intro v1 w1 hown1 hgrow1; have HE3 := Lib.hid ((HE2.out.alloc _).push hown1 hgrow1); clear hown1 hgrow1))
            go_roundw
            case rel => exact ⟨k + 1, by omega, by go_num, by rw [List.take_add_one, HZ.out]; exact HE3.out⟩
            case measure => simp [intOf]; omega
          · obtain rfl : k = j + 1 := by omega
            obtain ⟨⟨ho, hne⟩, hbel, hsz⟩ := hen
            have hlen : (l.take (j + 1)).length = j + 1 := by rw [List.length_take]; have := EM.out; omega
            obtain ⟨g, gc, hv, hbg, hgl, hcc⟩ := OwB.form ⟨ho, hne⟩
            rw [hlen] at hv ho
            subst hv
            have d0 : wr.cell? ⟨g, j, none⟩ = some (.int .u8 (x : Int)) := hcc j _ (by simp only [bcells, List.getElem?_map, List.getElem?_take, if_pos (Nat.lt_succ_self j), HX.out, Option.map_some])
            have d1 : wr.frozen? ⟨g, j, none⟩ = false := ho.frozenAt j
            obtain ⟨s1, s2⟩ := ho.stored j (.int .u8 ((x + 1 : Nat) : Int))
            rw [set_last HX.out] at s1
            have e8 : IntKind.u8.wrap ((x : Int) + 1) = ((x + 1 : Nat) : Int) := by have := HX8.out; simp only [IntKind.wrap_u8]; omega
            have hb1 := hbel.setCell (p := ⟨g, j, none⟩) hbg (.int .u8 ((x + 1 : Nat) : Int))
            have hfin : En w (wr.setCell ⟨g, j, none⟩ (.int .u8 ((x + 1 : Nat) : Int))) w.heap.size (.slice (some ⟨g, 0, none⟩) (j + 1) gc) (behB l) := by
              rw [behB_of (by rw [EM.out]; exact HST.out) HX.out]
              refine ⟨⟨?_, hne⟩, hb1, by simpa [World.setCell] using hsz⟩
              have : (l.take j ++ [x + 1]).length = j + 1 := by rw [List.length_append, List.length_take]; have := EM.out; simp; omega
              rw [this]
              exact s1
            have HF := Lib.hid hfin
            have HD := Lib.hid (show (true = true ↔ stripN l m ≠ 0) by rw [HST.out]; simp)
            have c1 : ((j : Int) + 1 == 0) = false := by simp; omega
            clear hfin hb1 s1 s2 ho hcc hsz hbel
            go_wp2
            have hp := HP.out _ _ true (by simpa using HD.out) HF.out
            simpa using hp

end Go.Proofs.Ytpknoclnmhomiaa
