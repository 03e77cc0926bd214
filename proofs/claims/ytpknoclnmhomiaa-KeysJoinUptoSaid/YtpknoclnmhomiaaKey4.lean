/-
  Contract over the translation: a text out of a key's bytes (haspref05.text).
  Conditions: the bytes lie in memory.
-/
import Derived.Test.YtpknoclnmhomiaaKey3
namespace Go.Proofs.Ytpknoclnmhomiaa
open Go.RowKit Go.Joins Go.ChangeShapes Go.WideShapes
set_option linter.unusedVariables false

def tcons (c : Nat) (x : Int × List Nat × List Nat) : Int × List Nat × List Nat := if x.1 = 0 then (0, c :: x.2.1, x.2.2) else (x.1, [], [])
/-- a text read out of bytes, n of its bytes read before: the error, its bytes, what is left -/
def txt : Nat → List Nat → Int × List Nat × List Nat
  | _, [] => (3, [], [])
  | n, [c] => if c = 0 then (3, [], []) else if n = 200 then (1, [], []) else tcons c (3, [], [])
  | n, c :: x :: q => if c = 0 then (if x = 1 then (0, [], q) else if x ≠ 255 then (2, [], []) else if n = 200 then (1, [], []) else tcons 0 (txt (n + 1) q)) else if n = 200 then (1, [], []) else tcons c (txt (n + 1) (x :: q))

theorem txt_nil (n : Nat) : txt n [] = (3, [], []) := by unfold txt; rfl
theorem txt_c {n c : Nat} {r : List Nat} (hc : c ≠ 0) : txt n (c :: r) = if n = 200 then (1, [], []) else tcons c (txt (n + 1) r) := by
  cases r with
  | nil =>
    conv => lhs; rw [txt]
    rw [if_neg hc, txt_nil]
  | cons x q =>
    conv => lhs; rw [txt]
    rw [if_neg hc]
theorem txt_01 {n : Nat} : txt n [0] = (3, [], []) := by
  conv => lhs; rw [txt]
  rw [if_pos rfl]
theorem txt_0 {n x : Nat} {q : List Nat} : txt n (0 :: x :: q) = if x = 1 then (0, [], q) else if x ≠ 255 then (2, [], []) else if n = 200 then (1, [], []) else tcons 0 (txt (n + 1) q) := by
  conv => lhs; rw [txt]
  rw [if_pos rfl]

/-- with bytes ahead -/
def tapp (acc : List Nat) (x : Int × List Nat × List Nat) : Int × List Nat × List Nat := if x.1 = 0 then (0, acc ++ x.2.1, x.2.2) else (x.1, [], [])
theorem tapp_nil (n : Nat) (l : List Nat) : tapp [] (txt n l) = txt n l := by
  have h : ∀ x : Int × List Nat × List Nat, (x.1 ≠ 0 → x.2 = ([], [])) → tapp [] x = x := by
    intro x hx
    unfold tapp
    by_cases c : x.1 = 0
    · rw [if_pos c, List.nil_append, ← c]
    · rw [if_neg c]
      have := hx c
      rcases x with ⟨a, b⟩
      simp only at this ⊢
      rw [this]
  refine h _ ?_
  have ht : ∀ c x, (tcons c x).1 ≠ 0 → (tcons c x).2 = ([], []) := by
    intro c x
    unfold tcons
    split
    · intro h; exact absurd rfl h
    · intro _; rfl
  cases l with
  | nil => intro _; rw [txt_nil]
  | cons c r =>
    by_cases hc : c = 0
    · subst hc
      cases r with
      | nil => intro _; rw [txt_01]
      | cons x q =>
        rw [txt_0]
        repeat' split
        all_goals first | (intro _; rfl) | exact ht _ _ | (intro h; exact absurd rfl h)
    · rw [txt_c hc]
      split
      · intro _; rfl
      · exact ht _ _
theorem tapp_cons (acc : List Nat) (c : Nat) (x : Int × List Nat × List Nat) : tapp acc (tcons c x) = tapp (acc ++ [c]) x := by
  unfold tapp tcons
  by_cases h : x.1 = 0
  · rw [if_pos h, if_pos h, if_pos rfl, List.append_assoc]; rfl
  · rw [if_neg h, if_neg h, if_neg h]

def TxtOk (W : World) (l : List Nat) (X : Int × List Nat × List Nat) (e : Ending) (w' : World) : Prop :=
  ∃ s p, e = .returned (.tuple #[.string s, .int .i64 (p : Nat), .int .i64 X.1]) ∧ (X.1 = 0 → s = strB X.2.1 ∧ p ≤ l.length ∧ X.2.2 = l.drop p) ∧ Below W.heap.size W w'

set_option maxHeartbeats 4000000 in
theorem text_any (b off cap : Nat) (l : List Nat) (i0 : Nat) (hi : i0 ≤ l.length) (hm : l.length ≤ 17592186044416) (w : World) (hA : IsB w b off l) :
    Calls Try.prog 29 #[.slice (some ⟨b, off, none⟩) l.length cap, .int .i64 (i0 : Nat)] w fun e w' => TxtOk w l (txt 0 (l.drop i0)) e w' := by
  generalize hP : (fun (e : Ending) (w' : World) => TxtOk w l (txt 0 (l.drop i0)) e w') = P
  have hbad : ∀ (acc : List Nat) (X : Int × List Nat × List Nat) (p : Nat) (w' : World), txt 0 (l.drop i0) = tapp acc X → X.1 ≠ 0 → Below w.heap.size w w' → P (.returned (.tuple #[.string ⟨#[]⟩, .int .i64 (p : Nat), .int .i64 X.1])) w' := by
    intro acc X p w' h1 h2 h3
    rw [← hP, h1]
    have : tapp acc X = (X.1, [], []) := by unfold tapp; rw [if_neg h2]
    rw [this]
    exact ⟨_, _, rfl, fun h => absurd h h2, h3⟩
  have hgood : ∀ (acc : List Nat) (q : List Nat) (p : Nat) (w' : World), txt 0 (l.drop i0) = tapp acc (0, [], q) → p ≤ l.length → q = l.drop p → Below w.heap.size w w' → P (.returned (.tuple #[.string (strB acc), .int .i64 (p : Nat), .int .i64 0])) w' := by
    intro acc q p w' h1 h2 h3 h4
    rw [← hP, h1]
    have : tapp acc (0, [], q) = (0, acc, q) := by unfold tapp; rw [if_pos rfl, List.append_nil]
    rw [this]
    exact ⟨_, _, rfl, fun _ => ⟨rfl, h2, h3⟩, h4⟩
  have hT0 : txt 0 (l.drop i0) = tapp [] (txt ([] : List Nat).length (l.drop i0)) := (tapp_nil 0 _).symm
  obtain ⟨T, hT⟩ : ∃ T, txt 0 (l.drop i0) = T := ⟨_, rfl⟩
  have HT0 := Lib.hid (hT.symm.trans hT0)
  have HBAD := Lib.hid (hT ▸ hbad)
  have HGOOD := Lib.hid (hT ▸ hgood)
  have HB := Lib.hid hA
  clear hbad hgood hP hA hT hT0
  obtain ⟨m, em⟩ : ∃ m, l.length = m := ⟨_, rfl⟩
  have EM := Lib.hid em
  rw [em] at hi hm HGOOD ⊢
  clear em
  go_enter Try.func29, Try.ntmps29
  go_wp2
  go_loopw [1, 7] (fun i v wr => ∃ (p : Nat) (acc : List Nat), p ≤ m ∧ i = .int .i64 p ∧ En w wr w.heap.size v acc ∧ acc.length ≤ 200 ∧ (∀ x ∈ acc, x < 256) ∧ Hid (T = tapp acc (txt acc.length (l.drop p)))) (fun i _ _ => m - (intOf i).toNat)
  case atStart =>
    exact ⟨i0, [], hi, rfl, ⟨⟨World.ownsRow_made w #[] 0 (Nat.le_refl _) (by decide) rfl, by simp⟩, (Below.refl _ _).alloc (Nat.le_refl _) _, by simp⟩, by simp, by simp, HT0.out⟩
  case round =>
    obtain ⟨p, acc, hp, rfl, hen, hacc, hbytes, HT⟩ := hrel
    obtain ⟨g, gc, rfl, hbg, hgl, hcc⟩ := hen.own.form
    have hst := str_own hen.own
    have HE := Lib.hid hen
    obtain ⟨n, en⟩ : ∃ n, acc.length = n := ⟨_, rfl⟩
    rw [en] at hst HE HT hacc ⊢
    have EN := Lib.hid en
    have HBY := Lib.hid hbytes
    have hp1 : p ≤ 17592186044416 := by omega
    clear hen hcc en hbytes
    by_cases c : p < m
    · have c1 : (p : Int) < (m : Int) := by omega
      have c0 : decide ((m : Int) ≤ (p : Int)) = false := by simp; omega
      have hz : l[p]? = some (l[p]'(by rw [EM.out]; omega)) := List.getElem?_eq_getElem _
      have hdp : l.drop p = l[p]'(by rw [EM.out]; omega) :: l.drop (p + 1) := List.drop_eq_getElem_cons _
      generalize l[p]'(by rw [EM.out]; omega) = z at *
      have a0 := (HB.out.below HE.out.bel).c p z hz
      have c0n : decide (m ≤ p) = false := by simp; omega
      have hz8 := HB.out.lt z (List.mem_of_getElem? hz)
      have HD := Lib.hid hdp
      clear hz hdp
      by_cases z0 : z = 0
      · subst z0
        by_cases d : p + 1 < m
        · have d1 : (p : Int) + 1 < (m : Int) := by omega
          have d0 : decide ((m : Int) ≤ (p : Int) + 1) = false := by simp; omega
          have hy : l[p + 1]? = some (l[p + 1]'(by rw [EM.out]; omega)) := List.getElem?_eq_getElem _
          have hdq : l.drop (p + 1) = l[p + 1]'(by rw [EM.out]; omega) :: l.drop (p + 2) := List.drop_eq_getElem_cons _
          generalize l[p + 1]'(by rw [EM.out]; omega) = y at *
          have b0 := (HB.out.below HE.out.bel).c (p + 1) y hy
          have d0n : decide (m ≤ p + 1) = false := by simp; omega
          have hy8 := HB.out.lt y (List.mem_of_getElem? hy)
          have HDQ := Lib.hid hdq
          have b1 := b0
          rw [← Nat.add_assoc] at b1
          clear hy hdq
          by_cases y1 : y = 1
          · subst y1
            go_wp2
            have hg := HGOOD.out acc (l.drop (p + 2)) (p + 2) wr (HT.out.trans (by rw [HD.out, HDQ.out, txt_0, if_pos rfl])) (by omega) rfl HE.out.bel
            go_ret3
            rw [show ((p + 2 : Nat) : Int) = (p : Int) + 1 + 1 by omega] at hg
            exact hg
          · have y2 : ((y : Int) == 1) = false := by simp; omega
            have y2' : (y == 1) = false := by simpa using y1
            by_cases y3 : y = 255
            · subst y3
              by_cases n2 : n = 200
              · subst n2
                go_wp2
                have hg := HBAD.out acc (1, [], []) (p + 2) wr (HT.out.trans (by rw [HD.out, HDQ.out, txt_0, if_neg (by decide), if_neg (by decide), if_pos rfl])) (by decide) HE.out.bel
                go_ret3
                rw [show ((p + 2 : Nat) : Int) = (p : Int) + 1 + 1 by omega] at hg
                exact hg
              · have n3 : ((n : Int) == 200) = false := by simp; omega
                have n4 : (n == 200) = false := by simpa using n2
                go_wp2_with (first | (at_builtin; refine wp_push rfl _ _ rfl w.heap.size _ _ (by first | rfl | (rw [EN.out]; rfl)) (HE.out.own.alloc _) ⟨wr.heap.size, 0, none⟩ 1 1 [0] rfl rfl (news1' wr _ _ rfl) (by rw [EN.out]; omega) (HE.out.alloc _).sz ?_; intro v1 w1 hown1 hgrow1; have HE3 := Lib.hid ((HE.out.alloc _).push hown1 hgrow1); clear hown1 hgrow1))
                go_roundw
                case rel => exact ⟨p + 2, acc ++ [0], by omega, by go_num, HE3.out, by rw [List.length_append, EN.out]; simp; omega, by
                  intro x hx
                  rcases List.mem_append.1 hx with h | h
                  · exact HBY.out x h
                  · rw [List.mem_singleton] at h; omega, by
                  show T = _
                  rw [HT.out, HD.out, HDQ.out, txt_0, if_neg (by decide), if_neg (by decide), if_neg n2, tapp_cons, List.length_append, EN.out]
                  rfl⟩
                case measure => first | (simp [intOf]; done) | (simp [intOf]; omega)
            · have y4 : ((y : Int) != 255) = true := by simp; omega
              have y5 : (y != 255) = true := by simpa using y3
              have y6 : ¬ (y : Int) = 255 := by omega
              go_wp2
              have hg := HBAD.out acc (2, [], []) (p + 2) wr (HT.out.trans (by rw [HD.out, HDQ.out, txt_0, if_neg y1, if_pos y3])) (by decide) HE.out.bel
              go_ret3
              rw [show ((p + 2 : Nat) : Int) = (p : Int) + 1 + 1 by omega] at hg
              exact hg
        · have d1 : ¬ ((p : Int) + 1 < (m : Int)) := by omega
          have d2 : (m : Int) ≤ (p : Int) + 1 := by omega
          have hdn : l.drop (p + 1) = [] := List.drop_eq_nil_of_le (by rw [EM.out]; omega)
          have HDN := Lib.hid hdn
          clear hdn
          go_wp2
          have hg := HBAD.out acc (3, [], []) (p + 1) wr (HT.out.trans (by rw [HD.out, HDN.out, txt_01])) (by decide) HE.out.bel
          go_ret3
          rw [show ((p + 1 : Nat) : Int) = (p : Int) + 1 by omega] at hg
          exact hg
      · have z1 : ((z : Int) == 0) = false := by simp; omega
        have z2 : (z == 0) = false := by simpa using z0
        by_cases n2 : n = 200
        · subst n2
          go_wp2
          have hg := HBAD.out acc (1, [], []) (p + 1) wr (HT.out.trans (by rw [HD.out, txt_c z0, if_pos rfl])) (by decide) HE.out.bel
          go_ret3
          rw [show ((p + 1 : Nat) : Int) = (p : Int) + 1 by omega] at hg
          exact hg
        · have n3 : ((n : Int) == 200) = false := by simp; omega
          have n4 : (n == 200) = false := by simpa using n2
          go_wp2_with (first | (at_builtin; refine wp_push rfl _ _ rfl w.heap.size _ _ (by first | rfl | (rw [EN.out]; rfl)) (HE.out.own.alloc _) ⟨wr.heap.size, 0, none⟩ 1 1 [z] rfl rfl (news1' wr _ _ rfl) (by rw [EN.out]; omega) (HE.out.alloc _).sz ?_; intro v1 w1 hown1 hgrow1; have HE3 := Lib.hid ((HE.out.alloc _).push hown1 hgrow1); clear hown1 hgrow1))
          go_roundw
          case rel => exact ⟨p + 1, acc ++ [z], by omega, by go_num, HE3.out, by rw [List.length_append, EN.out]; simp; omega, by
            intro x hx
            rcases List.mem_append.1 hx with h | h
            · exact HBY.out x h
            · rw [List.mem_singleton] at h; omega, by
            show T = _
            rw [HT.out, HD.out, txt_c z0, if_neg n2, tapp_cons, List.length_append, EN.out]
            rfl⟩
          case measure => first | (simp [intOf]; done) | (simp [intOf]; omega)
    · obtain rfl : p = m := by omega
      have hdn : l.drop p = [] := List.drop_eq_nil_of_le (by rw [EM.out]; exact Nat.le_refl _)
      have HDN := Lib.hid hdn
      clear hdn
      go_wp2
      have hg := HBAD.out acc (3, [], []) p wr (HT.out.trans (by rw [HDN.out, txt_nil])) (by decide) HE.out.bel
      go_ret3
      exact hg

end Go.Proofs.Ytpknoclnmhomiaa
