/-
  Rows of codes looked through (slices.IndexFunc, ContainsFunc): contracts over the translation (layer 18).
  Conditions: the row lies in memory.
-/
import Derived.Test.YtccjeclncmogiaaNo8
namespace Go.Proofs.Ytccjeclncmogiaa
open Go.RowKit Go.Joins Go.ChangeShapes Go.WideShapes
set_option linter.unusedVariables false
set_option linter.unusedSimpArgs false

/-- where the first stands of which p says yes; -1: nowhere -/
def fidx {α : Type} (p : α → Bool) (q : List α) : Int := if (q.takeWhile fun x => !p x).length = q.length then -1 else ((q.takeWhile fun x => !p x).length : Nat)
theorem tw_hit {α : Type} {p : α → Bool} {q : List α} {k : Nat} {l : α} (h : ∀ j x, j < k → q[j]? = some x → p x = false) (hk : q[k]? = some l) (hp : p l = true) : (q.takeWhile fun x => !p x) = q.take k := by
  induction q generalizing k with
  | nil => simp at hk
  | cons a r ih =>
    cases k with
    | zero =>
      simp at hk
      subst hk
      simp [List.takeWhile, hp]
    | succ k =>
      have ha := h 0 a (by omega) rfl
      rw [List.takeWhile_cons_of_pos (by simp [ha]), List.take_succ_cons]
      congr 1
      exact ih (fun j x hj hx => h (j + 1) x (by omega) (by simpa using hx)) (by simpa using hk)
theorem tw_all {α : Type} {p : α → Bool} {q : List α} (h : ∀ j x, j < q.length → q[j]? = some x → p x = false) : (q.takeWhile fun x => !p x) = q := by
  induction q with
  | nil => rfl
  | cons a r ih =>
    have ha := h 0 a (by simp) rfl
    rw [List.takeWhile_cons_of_pos (by simp [ha])]
    congr 1
    exact ih fun j x hj hx => h (j + 1) x (by simp; omega) (by simpa using hx)
theorem fidx_any {α : Type} (p : α → Bool) (q : List α) : decide (0 ≤ fidx p q) = q.any p := by
  induction q with
  | nil => rfl
  | cons a r ih =>
    rw [List.any_cons, ← ih]
    unfold fidx
    cases ha : p a with
    | true =>
      rw [List.takeWhile_cons_of_neg (by simp [ha])]
      simp
    | false =>
      rw [List.takeWhile_cons_of_pos (by simp [ha])]
      simp only [List.length_cons, Nat.add_right_cancel_iff, Bool.false_or]
      by_cases c : (r.takeWhile fun x => !p x).length = r.length
      · rw [if_pos c, if_pos c]
      · rw [if_neg c, if_neg c]
        simp
        omega
theorem btr {B : Nat} {w w1 w2 : World} (h : Below B w w1) (h2 : Below w1.heap.size w1 w2) (hB : B ≤ w1.heap.size) : Below B w w2 := h.trans (h2.mono hB)
set_option maxHeartbeats 2000000 in
theorem idxc_any (w : World) (a : Option Addr) (cap : Nat) {K : Bl} (q : List XC) (h : XC.Row K w a cap q) (hm : q.length ≤ 9223372036854775807) (g : FuncId) (cs : Array Value) (p : XC → Bool) (hp : ∀ (W : World) (x : XC), x ∈ q → Below w.heap.size w W → Calls Try.prog g (#[x.val] ++ cs) W fun e w' => e = .returned (.bool (p x)) ∧ Below W.heap.size W w') (eg : ∀ args w, (callFunc g args).run Try.prog w = .ok (.enter g args) w) :
    Calls Try.prog 38 #[.slice a q.length cap, .func (.func g) #[] cs] w fun e w' => e = .returned (.int .i64 (fidx p q)) ∧ Below w.heap.size w w' := by
  obtain ⟨R, hR⟩ : ∃ R, fidx p q = R := ⟨_, rfl⟩
  have HR := Lib.hid hR
  obtain ⟨n, hn⟩ : ∃ n, q.length = n := ⟨_, rfl⟩
  have HN := Lib.hid hn
  have HP := Lib.hid hp
  have HO := Lib.hid (fun (wx : World) (hb : Below w.heap.size w wx) => XC.Row.below h hb)
  rw [hn] at hm ⊢
  rw [hR]
  clear hR hn hp h
  go_enter Try.func38, Try.ntmps38
  go_wp2_with fail
  go_loopw [8] (fun i wr => ∃ k : Nat, k ≤ n ∧ i = .int .i64 k ∧ Hid (Below w.heap.size w wr) ∧ Hid (∀ j x, j < k → q[j]? = some x → p x = false)) (fun i _ => n - (intOf i).toNat)
  case atStart => exact ⟨0, Nat.zero_le _, rfl, Below.refl _ _, fun j x hj => absurd hj (by omega)⟩
  case round =>
    obtain ⟨k, hk, rfl, HB, HK⟩ := hrel
    by_cases c : k < n
    · have c1 : (k : Int) < (n : Int) := by omega
      obtain ⟨l, hl⟩ : ∃ l, q[k]? = some l := ⟨_, List.getElem?_eq_getElem (by rw [HN.out]; exact c)⟩
      obtain ⟨gb, off, rfl, -, -, hra, -⟩ := XC.Row.at (HO.out wr HB.out) hl
      have HC := Lib.hid (HP.out wr l (List.mem_of_getElem? hl) HB.out)
      have HL := Lib.hid hl
      have HLD := Lib.hid (ld_C (x := l) hra)
      obtain ⟨b, hb⟩ : ∃ b, p l = b := ⟨_, rfl⟩
      rw [hb] at HC
      have HPL := Lib.hid hb
      obtain ⟨X, hX⟩ : ∃ X, l.val = X := ⟨_, rfl⟩
      rw [hX] at HC HLD
      clear hl hb hra hX
      cases b with
      | true =>
        have HF := Lib.hid (show R = (k : Nat) by
          rw [← HR.out]
          unfold fidx
          rw [tw_hit HK.out HL.out HPL.out, List.length_take, HN.out, Nat.min_eq_left (by omega), if_neg (by omega)])
        go_wp2_with (refine wpLd rfl _ rfl rfl HLD.out ?_; clear HLD)
        refine HC.out.mono ?_
        rintro e w' ⟨rfl, hb'⟩
        have HB2 := Lib.hid (btr HB.out hb' HB.out.size)
        clear hb'
        go_wp2_with fail
        go_ret
        exact ⟨by rw [HF.out]; rfl, HB2.out⟩
      | false =>
        have HK2 : Hid (∀ j x, j < k + 1 → q[j]? = some x → p x = false) := by
          intro j x hj hx
          by_cases e : j = k
          · subst e
            rw [HL.out] at hx
            injection hx with hx
            rw [← hx]; exact HPL.out
          · exact HK.out j x (by omega) hx
        go_wp2_with (refine wpLd rfl _ rfl rfl HLD.out ?_; clear HLD)
        refine HC.out.mono ?_
        rintro e w' ⟨rfl, hb'⟩
        have HB2 := Lib.hid (btr HB.out hb' HB.out.size)
        clear hb'
        go_wp2_with fail
        go_roundw
        case rel => exact ⟨k + 1, by omega, by go_num, HB2, HK2⟩
        case measure => simp [intOf]; omega
    · obtain rfl : k = n := by omega
      have HF := Lib.hid (show R = -1 by
        rw [← HR.out]
        unfold fidx
        rw [tw_all (fun j x hj hx => HK.out j x (by rw [← HN.out]; exact hj) hx), if_pos rfl])
      have c1 : decide ((k : Int) < (k : Int)) = false := by simp
      go_wp2_with fail
      go_ret
      exact ⟨by rw [HF.out]; rfl, HB.out⟩
theorem contc_any (w : World) (a : Option Addr) (cap : Nat) {K : Bl} (q : List XC) (h : XC.Row K w a cap q) (hm : q.length ≤ 9223372036854775807) (g : FuncId) (cs : Array Value) (p : XC → Bool) (hp : ∀ (W : World) (x : XC), x ∈ q → Below w.heap.size w W → Calls Try.prog g (#[x.val] ++ cs) W fun e w' => e = .returned (.bool (p x)) ∧ Below W.heap.size W w') (eg : ∀ args w, (callFunc g args).run Try.prog w = .ok (.enter g args) w) :
    Calls Try.prog 33 #[.slice a q.length cap, .func (.func g) #[] cs] w fun e w' => e = .returned (.bool (q.any p)) ∧ Below w.heap.size w w' := by
  have HC := Lib.hid (idxc_any w a cap q h hm g cs p hp eg)
  rw [← fidx_any]
  generalize fidx p q = R at HC ⊢
  clear h hp hm
  generalize q.length = n at HC ⊢
  by_cases c : 0 ≤ R
  · go_enter Try.func33, Try.ntmps33
    go_wp2_with fail
    refine HC.out.mono ?_
    rintro e w' ⟨rfl, hb'⟩
    have HB := Lib.hid hb'
    clear hb'
    go_wp2_with fail
    go_ret
    exact ⟨by simp [c], HB.out⟩
  · go_enter Try.func33, Try.ntmps33
    go_wp2_with fail
    refine HC.out.mono ?_
    rintro e w' ⟨rfl, hb'⟩
    have HB := Lib.hid hb'
    clear hb'
    go_wp2_with fail
    go_ret
    exact ⟨by simp [c], HB.out⟩

end Go.Proofs.Ytccjeclncmogiaa
