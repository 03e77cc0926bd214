/-
  Rows of instructions looked through (slices.IndexFunc, ContainsFunc); whole numbers looked for (Contains): contracts over the translation.
  Conditions: the row lies in memory.
-/
import Derived.Test.YtgndbhgpdcelpaaDoorCv1
namespace Go.Proofs.YtgndbhgpdcelpaaDoor
set_option maxRecDepth 100000
open Go.RowKit Go.Joins Go.ChangeShapes Go.WideShapes
set_option linter.unusedVariables false
set_option linter.unusedSimpArgs false

/-- where the first stands of which p says yes; -1: nowhere -/
def fidx {α : Type} (p : α → Bool) (q : List α) : Int := if (q.takeWhile fun x => !p x).length = q.length then -1 else ((q.takeWhile fun x => !p x).length : Nat)
theorem tw_hit {α : Type} {p : α → Bool} {q : List α} {k : Nat} {l : α} (h : ∀ j x, j < k → q[j]? = some x → p x = false) (hk : q[k]? = some l) (hp : p l = true) : (q.takeWhile fun x => !p x) = q.take k := by
  induction q generalizing k with
  | nil => simp at hk
  | cons a r ih =>
    cases k with
    | zero =>
      simp at hk
      subst hk
      simp [List.takeWhile, hp]
    | succ k =>
      have ha := h 0 a (by omega) rfl
      rw [List.takeWhile_cons_of_pos (by simp [ha]), List.take_succ_cons]
      congr 1
      exact ih (fun j x hj hx => h (j + 1) x (by omega) (by simpa using hx)) (by simpa using hk)
theorem tw_all {α : Type} {p : α → Bool} {q : List α} (h : ∀ j x, j < q.length → q[j]? = some x → p x = false) : (q.takeWhile fun x => !p x) = q := by
  induction q with
  | nil => rfl
  | cons a r ih =>
    have ha := h 0 a (by simp) rfl
    rw [List.takeWhile_cons_of_pos (by simp [ha])]
    congr 1
    exact ih fun j x hj hx => h (j + 1) x (by simp; omega) (by simpa using hx)
theorem fidx_any {α : Type} (p : α → Bool) (q : List α) : decide (0 ≤ fidx p q) = q.any p := by
  induction q with
  | nil => rfl
  | cons a r ih =>
    rw [List.any_cons, ← ih]
    unfold fidx
    cases ha : p a with
    | true =>
      rw [List.takeWhile_cons_of_neg (by simp [ha])]
      simp
    | false =>
      rw [List.takeWhile_cons_of_pos (by simp [ha])]
      simp only [List.length_cons, Nat.add_right_cancel_iff, Bool.false_or]
      by_cases c : (r.takeWhile fun x => !p x).length = r.length
      · rw [if_pos c, if_pos c]
      · rw [if_neg c, if_neg c]
        simp
        omega
theorem btr {B : Nat} {w w1 w2 : World} (h : Below B w w1) (h2 : Below w1.heap.size w1 w2) (hB : B ≤ w1.heap.size) : Below B w w2 := h.trans (h2.mono hB)
/-- what is asked of a predicate that may lay blocks of its own -/
def PrB (g : FuncId) (cs : Array Value) (p : Ins → Bool) (w : World) : Prop := ∀ (W : World) (x : Ins), Below w.heap.size w W → Calls Tryd.prog g (#[x.val] ++ cs) W fun e w' => e = .returned (.bool (p x)) ∧ Below W.heap.size W w'
theorem PrB.below {g : FuncId} {cs : Array Value} {p : Ins → Bool} {w w1 : World} (h : PrB g cs p w) (hb : Below w.heap.size w w1) : PrB g cs p w1 := fun W x h1 => h W x (hb.trans (h1.mono hb.size))
set_option maxHeartbeats 2000000 in
theorem idxf_any (w : World) (a : Option Addr) (cap : Nat) (q : List Ins) (h : RowA w a q) (hm : q.length ≤ 9223372036854775807) (g : FuncId) (cs : Array Value) (p : Ins → Bool) (hp : PrB g cs p w) (eg : ∀ args w, (callFunc g args).run Tryd.prog w = .ok (.enter g args) w) :
    Calls Tryd.prog 28 #[.slice a q.length cap, .func (.func g) #[] cs] w fun e w' => e = .returned (.int .i64 (fidx p q)) ∧ Below w.heap.size w w' := by
  obtain ⟨R, hR⟩ : ∃ R, fidx p q = R := ⟨_, rfl⟩
  have HR := Lib.hid hR
  obtain ⟨n, hn⟩ : ∃ n, q.length = n := ⟨_, rfl⟩
  have HN := Lib.hid hn
  have HP := Lib.hid hp
  have HO := Lib.hid (fun (wx : World) (hb : Below w.heap.size w wx) => RowA.below h hb)
  rw [hn] at hm ⊢
  rw [hR]
  clear hR hn hp h
  go_enter Tryd.func28, Tryd.ntmps28
  go_wp2_with fail
  go_loopw [8] (fun i wr => ∃ k : Nat, k ≤ n ∧ i = .int .i64 k ∧ Hid (Below w.heap.size w wr) ∧ Hid (∀ j x, j < k → q[j]? = some x → p x = false)) (fun i _ => n - (intOf i).toNat)
  case atStart => exact ⟨0, Nat.zero_le _, rfl, Below.refl _ _, fun j x hj => absurd hj (by omega)⟩
  case round =>
    obtain ⟨k, hk, rfl, HB, HK⟩ := hrel
    by_cases c : k < n
    · have c1 : (k : Int) < (n : Int) := by omega
      obtain ⟨l, hl⟩ : ∃ l, q[k]? = some l := ⟨_, List.getElem?_eq_getElem (by rw [HN.out]; exact c)⟩
      obtain ⟨gb, off, rfl, -, hra⟩ := RowA.at (HO.out wr HB.out) hl
      have HC := Lib.hid (HP.out wr l HB.out)
      have HL := Lib.hid hl
      have HLD := Lib.hid (ld_I hra)
      obtain ⟨b, hb⟩ : ∃ b, p l = b := ⟨_, rfl⟩
      rw [hb] at HC
      have HPL := Lib.hid hb
      obtain ⟨X, hX⟩ : ∃ X, l.val = X := ⟨_, rfl⟩
      rw [hX] at HC HLD
      clear hl hb hra hX
      cases b with
      | true =>
        have HF := Lib.hid (show R = (k : Nat) by
          rw [← HR.out]
          unfold fidx
          rw [tw_hit HK.out HL.out HPL.out, List.length_take, HN.out, Nat.min_eq_left (by omega), if_neg (by omega)])
        go_wp2_with (refine wpLd rfl _ rfl rfl HLD.out ?_; clear HLD)
        refine HC.out.mono ?_
        rintro e w' ⟨rfl, hb'⟩
        have HB2 := Lib.hid (btr HB.out hb' HB.out.size)
        clear hb'
        go_wp2_with fail
        go_ret
        exact ⟨by rw [HF.out]; rfl, HB2.out⟩
      | false =>
        have HK2 : Hid (∀ j x, j < k + 1 → q[j]? = some x → p x = false) := by
          intro j x hj hx
          by_cases e : j = k
          · subst e
            rw [HL.out] at hx
            injection hx with hx
            rw [← hx]; exact HPL.out
          · exact HK.out j x (by omega) hx
        go_wp2_with (refine wpLd rfl _ rfl rfl HLD.out ?_; clear HLD)
        refine HC.out.mono ?_
        rintro e w' ⟨rfl, hb'⟩
        have HB2 := Lib.hid (btr HB.out hb' HB.out.size)
        clear hb'
        go_wp2_with fail
        go_roundw
        case rel => exact ⟨k + 1, by omega, by go_num, HB2, HK2⟩
        case measure => simp [intOf]; omega
    · obtain rfl : k = n := by omega
      have HF := Lib.hid (show R = -1 by
        rw [← HR.out]
        unfold fidx
        rw [tw_all (fun j x hj hx => HK.out j x (by rw [← HN.out]; exact hj) hx), if_pos rfl])
      have c1 : decide ((k : Int) < (k : Int)) = false := by simp
      go_wp2_with fail
      go_ret
      exact ⟨by rw [HF.out]; rfl, HB.out⟩
theorem contf_any (w : World) (a : Option Addr) (cap : Nat) (q : List Ins) (h : RowA w a q) (hm : q.length ≤ 9223372036854775807) (g : FuncId) (cs : Array Value) (p : Ins → Bool) (hp : PrB g cs p w) (eg : ∀ args w, (callFunc g args).run Tryd.prog w = .ok (.enter g args) w) :
    Calls Tryd.prog 23 #[.slice a q.length cap, .func (.func g) #[] cs] w fun e w' => e = .returned (.bool (q.any p)) ∧ Below w.heap.size w w' := by
  have HC := Lib.hid (idxf_any w a cap q h hm g cs p hp eg)
  rw [← fidx_any]
  generalize fidx p q = R at HC ⊢
  clear h hp hm
  generalize q.length = n at HC ⊢
  by_cases c : 0 ≤ R
  · go_enter Tryd.func23, Tryd.ntmps23
    go_wp2_with fail
    refine HC.out.mono ?_
    rintro e w' ⟨rfl, hb'⟩
    have HB := Lib.hid hb'
    clear hb'
    go_wp2_with fail
    go_ret
    exact ⟨by simp [c], HB.out⟩
  · go_enter Tryd.func23, Tryd.ntmps23
    go_wp2_with fail
    refine HC.out.mono ?_
    rintro e w' ⟨rfl, hb'⟩
    have HB := Lib.hid hb'
    clear hb'
    go_wp2_with fail
    go_ret
    exact ⟨by simp [c], HB.out⟩
/-- whole numbers that lie at a slice's row -/
def IntsA (w : World) (a : Option Addr) (l : List Int) : Prop := ∃ b off, a = some ⟨b, off, none⟩ ∧ b < w.heap.size ∧ ∀ i x, l[i]? = some x → w.cell? ⟨b, off + i, none⟩ = some (.int .i64 x)
theorem IntsA.below {w w1 : World} {a : Option Addr} {l : List Int} (h : IntsA w a l) (hb : Below w.heap.size w w1) : IntsA w1 a l := by
  obtain ⟨b, off, rfl, h2, h3⟩ := h
  exact ⟨b, off, rfl, Nat.lt_of_lt_of_le h2 hb.size, fun i x hx => (hb.cell (p := ⟨b, _, none⟩) h2).trans (h3 i x hx)⟩
set_option maxHeartbeats 2000000 in
theorem index_i (w : World) (a : Option Addr) (cap : Nat) (q : List Int) (h : IntsA w a q) (hm : q.length ≤ 9223372036854775807) (v : Int) :
    Calls Tryd.prog 50 #[.slice a q.length cap, .int .i64 v] w fun e w' => e = .returned (.int .i64 (fidx (fun x => v == x) q)) ∧ w = w' := by
  obtain ⟨R, hR⟩ : ∃ R, fidx (fun x => v == x) q = R := ⟨_, rfl⟩
  have HR := Lib.hid hR
  obtain ⟨n, hn⟩ : ∃ n, q.length = n := ⟨_, rfl⟩
  have HN := Lib.hid hn
  obtain ⟨gb, off, rfl, -, h3⟩ := h
  have HO := Lib.hid h3
  rw [hn] at hm ⊢
  rw [hR]
  clear hR hn h3
  go_enter Tryd.func50, Tryd.ntmps50
  go_wp2_with fail
  go_loopw [8] (fun i wr => ∃ k : Nat, k ≤ n ∧ i = .int .i64 k ∧ w = wr ∧ Hid (∀ j x, j < k → q[j]? = some x → (v == x) = false)) (fun i _ => n - (intOf i).toNat)
  case atStart => exact ⟨0, Nat.zero_le _, rfl, rfl, fun j x hj => absurd hj (by omega)⟩
  case round =>
    obtain ⟨k, hk, rfl, rfl, HK⟩ := hrel
    by_cases c : k < n
    · have c1 : (k : Int) < (n : Int) := by omega
      obtain ⟨l, hl⟩ : ∃ l, q[k]? = some l := ⟨_, List.getElem?_eq_getElem (by rw [HN.out]; exact c)⟩
      have hc := HO.out k l hl
      have HL := Lib.hid hl
      clear hl
      cases hb : (v == l) with
      | true =>
        have HPL := Lib.hid hb
        have HF := Lib.hid (show R = (k : Nat) by
          rw [← HR.out]
          unfold fidx
          rw [tw_hit (p := fun x => v == x) HK.out HL.out HPL.out, List.length_take, HN.out, Nat.min_eq_left (by omega), if_neg (by omega)])
        go_wp2_with fail
        go_ret
        exact ⟨by rw [HF.out]; rfl, rfl⟩
      | false =>
        have HPL := Lib.hid hb
        have HK2 : Hid (∀ j x, j < k + 1 → q[j]? = some x → (v == x) = false) := by
          intro j x hj hx
          by_cases e : j = k
          · subst e
            rw [HL.out] at hx
            injection hx with hx
            rw [← hx]; exact HPL.out
          · exact HK.out j x (by omega) hx
        go_wp2_with fail
        go_roundw
        case rel => exact ⟨k + 1, by omega, by go_num, (by first | rfl | trivial), HK2⟩
        case measure => simp [intOf]; omega
    · obtain rfl : k = n := by omega
      have HF := Lib.hid (show R = -1 by
        rw [← HR.out]
        unfold fidx
        rw [tw_all (p := fun x => v == x) (fun j x hj hx => HK.out j x (by rw [← HN.out]; exact hj) hx), if_pos rfl])
      have c1 : decide ((k : Int) < (k : Int)) = false := by simp
      go_wp2_with fail
      go_ret
      exact ⟨by rw [HF.out]; rfl, rfl⟩
theorem cont_i (w : World) (a : Option Addr) (cap : Nat) (q : List Int) (h : IntsA w a q) (hm : q.length ≤ 9223372036854775807) (v : Int) :
    Calls Tryd.prog 45 #[.slice a q.length cap, .int .i64 v] w fun e w' => e = .returned (.bool (q.any fun x => v == x)) ∧ w = w' := by
  have HC := Lib.hid (index_i w a cap q h hm v)
  rw [← fidx_any]
  generalize fidx (fun x => v == x) q = R at HC ⊢
  clear h hm
  generalize q.length = n at HC ⊢
  by_cases c : 0 ≤ R
  · go_enter Tryd.func45, Tryd.ntmps45
    go_wp2_with fail
    refine HC.out.mono ?_
    rintro e w' ⟨rfl, rfl⟩
    go_wp2_with fail
    go_ret
    exact ⟨by simp [c], rfl⟩
  · go_enter Tryd.func45, Tryd.ntmps45
    go_wp2_with fail
    refine HC.out.mono ?_
    rintro e w' ⟨rfl, rfl⟩
    go_wp2_with fail
    go_ret
    exact ⟨by simp [c], rfl⟩

end Go.Proofs.YtgndbhgpdcelpaaDoor
