/-
  haspref06.Decode: a row out of its bytes.
  Conditions: the columns and the bytes lie in memory.
-/
import Derived.Test.YtpknoclnmhomiabRow5
namespace Go.Proofs.Ytpknoclnmhomiab
open Go.RowKit Go.Joins Go.ChangeShapes Go.WideShapes
set_option linter.unusedVariables false

theorem one_all (t : Int) (b off cap : Nat) (l : List Nat) (p : Nat) (hp : p ≤ l.length) (hln : l.length ≤ 17592186044416) (hcap : l.length ≤ cap) (hcm : cap ≤ 9223372036854775807) (w : World) (hA : IsB w b off l) :
    Calls Try.prog 26 #[.int .i64 t, .slice (some ⟨b, off, none⟩) l.length cap, .int .i64 (p : Nat)] w fun e w' => OneOk w (rone t l p) e w' := by
  by_cases h : t < 1 ∨ 4 < t
  · exact one_wrong t b off cap l p hp hln hcap hcm w hA h
  · have hc : t = 1 ∨ t = 2 ∨ t = 3 ∨ t = 4 := by omega
    rcases hc with rfl | rfl | rfl | rfl
    · exact one_1 b off cap l p hp hln hcap hcm w hA
    · exact one_2 b off cap l p hp hln hcap hcm w hA
    · exact one_3 b off cap l p hp hln hcap hcm w hA
    · exact one_4 b off cap l p hp hln hcap hcm w hA
theorem rone_le (t : Int) (l : List Nat) (p : Nat) (h : (rone t l p).1 = 0) : (rone t l p).2.2 ≤ l.length := by
  unfold rone at h ⊢
  split at h
  · exact absurd h (by simp)
  · rename_i h1
    rw [if_neg h1]
    split at h
    · exact absurd h (by simp)
    · rename_i h2
      rw [if_neg h2]
      split at h
      · exact absurd h (by simp)
      · rename_i h3
        rw [if_neg h3]
        split at h
        · exact absurd h (by simp)
        · rename_i h4
          rw [if_neg h4]
          split at h
          · rename_i h5
            rw [if_pos h5]
            show p + nby t ≤ l.length
            omega
          · rename_i h5
            rw [if_neg h5]
            split at h
            · exact absurd h (by simp)
            · rename_i h6
              rw [if_neg h6]
              split at h
              · exact absurd h (by simp)
              · rename_i h7
                rw [if_neg h7]
                show p + nby t + _ ≤ l.length
                omega

def rcons (v : Vt) (x : List Vt × Int) : List Vt × Int := if x.2 = 0 then (v :: x.1, 0) else ([], x.2)
def rapp (acc : List Vt) (x : List Vt × Int) : List Vt × Int := if x.2 = 0 then (acc ++ x.1, 0) else ([], x.2)
theorem rapp_cons (acc : List Vt) (v : Vt) (x : List Vt × Int) : rapp acc (rcons v x) = rapp (acc ++ [v]) x := by
  unfold rapp rcons
  by_cases h : x.2 = 0
  · rw [if_pos h, if_pos h, if_pos rfl, List.append_assoc]; rfl
  · rw [if_neg h, if_neg h, if_neg h]
/-- the values from column i on, from byte p on: 'r' columns are left -/
def rdecF (tf : Nat → Int) (qf : Nat → Bool) (l : List Nat) : Nat → Nat → Nat → List Vt × Int
  | 0, _, p => if p < l.length then ([], 4) else ([], 0)
  | r + 1, i, p =>
    if bitN l i = true then (if qf i = true then ([], 60) else rcons (0, 0, Em) (rdecF tf qf l r (i + 1) p)) else
    if (rone (tf i) l p).1 = 0 then rcons (rone (tf i) l p).2.1 (rdecF tf qf l r (i + 1) (rone (tf i) l p).2.2) else ([], (rone (tf i) l p).1)
theorem rdecF_err (tf : Nat → Int) (qf : Nat → Bool) (l : List Nat) : ∀ r i p, (rdecF tf qf l r i p).2 ≠ 0 → (rdecF tf qf l r i p).1 = []
  | 0, i, p => by unfold rdecF; split <;> simp
  | r + 1, i, p => by
    unfold rdecF rcons
    repeat' split
    all_goals simp
/-- what bytes are read as, for columns -/
def rdec (m : Nat) (tf : Nat → Int) (qf : Nat → Bool) (l : List Nat) : List Vt × Int :=
  if l.length < (m + 7) / 8 then ([], 3) else
  if (List.range (8 * ((m + 7) / 8))).any (fun i => decide (m ≤ i) && bitN l i) then ([], 2) else rdecF tf qf l m 0 ((m + 7) / 8)
theorem rapp_nil (tf : Nat → Int) (qf : Nat → Bool) (l : List Nat) (r i p : Nat) : rapp [] (rdecF tf qf l r i p) = rdecF tf qf l r i p := by
  unfold rapp
  by_cases h : (rdecF tf qf l r i p).2 = 0
  · rw [if_pos h, List.nil_append, ← h]
  · rw [if_neg h, ← rdecF_err tf qf l r i p h]

theorem ownV_made (w : World) (B : Nat) (h : B ≤ w.heap.size) : OwV (w.alloc (.cells #[] 43)) B (.slice (some ⟨w.heap.size, 0, none⟩) 0 0) [] := ⟨World.ownsRow_made w #[] 0 h (by decide) rfl, by simp⟩
theorem envV_two (w : World) : EnV w ((w.alloc (.cells #[] 43)).alloc (.cells #[] 43)) w.heap.size (.slice (some ⟨w.heap.size + 1, 0, none⟩) 0 0) [] := by
  have h := ownV_made (w.alloc (.cells #[] 43)) w.heap.size (by simp)
  rw [show (w.alloc (.cells #[] 43)).heap.size = w.heap.size + 1 from by simp] at h
  exact ⟨h, ((Below.refl _ _).alloc (Nat.le_refl _) _).alloc (by simp) _, by simp; omega⟩

def RdOk (W : World) (X : List Vt × Int) (e : Ending) (w' : World) : Prop :=
  ∃ v, e = .returned (.tuple #[v, .int .i64 X.2]) ∧ (X.2 = 0 → OwV w' W.heap.size v X.1) ∧ (X.2 ≠ 0 → ∃ a c, v = .slice a 0 c) ∧ Below W.heap.size W w'

set_option maxRecDepth 100000 in
set_option maxHeartbeats 8000000 in
theorem rowdec_any (a a' : Option Addr) (b off m cap b' off' cap' : Nat) (l : List Nat) (mf : Nat → ByteArray) (tf : Nat → Int) (qf : Nat → Bool) (hm : m ≤ 68719476736) (hln : l.length ≤ 17592186044416) (hcap : l.length ≤ cap') (hcm : cap' ≤ maxLen) (w : World)
    (ha : m = 0 ∨ a = some ⟨b, off, none⟩) (ha' : l.length = 0 ∨ a' = some ⟨b', off', none⟩) (hA : IsC w b off m mf tf qf) (hB : IsB w b' off' l) :
    Calls Try.prog 18 #[.slice a m cap, .slice a' l.length cap'] w fun e w' => RdOk w (rdec m tf qf l) e w' := by
  generalize hP : (fun (e : Ending) (w' : World) => RdOk w (rdec m tf qf l) e w') = P
  obtain ⟨T, hT⟩ : ∃ T, rdec m tf qf l = T := ⟨_, rfl⟩
  have hbad : ∀ (e : Int) (c : Option Addr) (d : Nat) (w' : World), T = ([], e) → e ≠ 0 → Below w.heap.size w w' → P (.returned (.tuple #[.slice c 0 d, .int .i64 e])) w' := by
    intro e c d w' h1 h3 h4
    rw [← hP, hT, h1]
    exact ⟨_, rfl, fun h => absurd h h3, fun _ => ⟨_, _, rfl⟩, h4⟩
  have hgood : ∀ (acc : List Vt) (v : Value) (w' : World), T = (acc, 0) → EnV w w' w.heap.size v acc → P (.returned (.tuple #[v, .int .i64 0])) w' := by
    intro acc v w' h1 h2
    rw [← hP, hT, h1]
    exact ⟨_, rfl, fun _ => h2.own, fun h => absurd rfl h, h2.bel⟩
  have HBAD := Lib.hid hbad
  have HGOOD := Lib.hid hgood
  have HB := Lib.hid hB
  have HC := Lib.hid hA
  have HA' := Lib.hid ha'
  have HT := Lib.hid hT
  clear hbad hgood hP hA hB hT ha'
  obtain ⟨n, en⟩ : ∃ n, l.length = n := ⟨_, rfl⟩
  have EN := Lib.hid en
  rw [en] at hcap hln ⊢
  clear en
  have hn9 : n ≤ 17592186044416 := hln
  have hcm9 : cap' ≤ 9223372036854775807 := by unfold maxLen at hcm; omega
  clear hcm
  go_enter Try.func18, Try.ntmps18
  go_upto_region 2 with fail
  have hE0 := envV_two w
  have HE0 := Lib.hid hE0
  clear hE0
  generalize (w.alloc (.cells #[] 43)).alloc (.cells #[] 43) = wx at *
  generalize w.heap.size + 1 = g1 at *
  go_wp2
  go_loop [8] (fun x => ∃ q : Nat, 8 * q ≤ m + 7 ∧ x = .int .i64 q) (fun x => m + 7 - 8 * (intOf x).toNat)
  case atStart => exact ⟨0, by omega, rfl⟩
  case round =>
    obtain ⟨q, hq, rfl⟩ := hrel
    by_cases c : q * 8 < m
    · have c1 : (q : Int) * 8 < (m : Int) := by omega
      go_wp2
      go_round
      case rel => exact ⟨q + 1, by omega, by go_num⟩
      case measure => simp [intOf]; omega
    · have c1 : ¬ (q : Int) * 8 < (m : Int) := by omega
      have HQ := Lib.hid (show (m + 7) / 8 = q by omega)
      by_cases c2 : n < q
      · have c3 : (n : Int) < (q : Int) := by omega
        go_wp2
        exact HBAD.out 3 _ _ _ (by rw [← HT.out]; unfold rdec; rw [EN.out, HQ.out, if_pos c2]) (by decide) HE0.out.bel
      · have c3 : ¬ (n : Int) < (q : Int) := by omega
        have hqn : q ≤ n := by omega
        have hBX := HB.out.below HE0.out.bel
        have hap : 0 < q → a' = some ⟨b', off', none⟩ := fun h => by rcases HA'.out with g | g; (have := EN.out; omega); exact g
        have hlm : n ≤ maxLen := by unfold maxLen; omega
        have HBT := Lib.hid (fun (i : Nat) (h : i / 8 < n) w0 (h0 : IsB w0 b' off' l) => bit_any b' off' cap' l i (by rw [EN.out]; exact h) (by omega) (by rw [EN.out]; exact hlm) w0 h0)
        rw [EN.out] at HBT
        have HBX := Lib.hid hBX
        have HAP := Lib.hid hap
        clear hap hBX hlm
        go_wp2
        go_loop [9] (fun x => ∃ i : Nat, m ≤ i ∧ i ≤ 8 * q + 7 ∧ x = .int .i64 i ∧ Hid (∀ j, m ≤ j → j < i → bitN l j = false)) (fun x => 8 * q + 7 - (intOf x).toNat)
        case atStart => exact ⟨m, Nat.le_refl _, by omega, rfl, Lib.hid (fun j h1 h2 => absurd h2 (by omega))⟩
        case round =>
          obtain ⟨i, hi, hi2, rfl, HZ⟩ := hrel
          by_cases d : i < q * 8
          · have d1 : (i : Int) < (q : Int) * 8 := by omega
            obtain rfl := HAP.out (by omega)
            have hbt := HBT.out i (by omega) wx HBX.out
            by_cases hbz : bitN l i = true
            · have HX : Hid (T = ([], 2)) := Lib.hid (by
                rw [← HT.out]
                unfold rdec
                rw [EN.out, HQ.out, if_neg c2, if_pos]
                rw [List.any_eq_true]
                exact ⟨i, List.mem_range.2 (by omega), by rw [hbz]; simpa using hi⟩)
              rw [hbz] at hbt
              have HT1 := Lib.hid hbt
              clear hbt
              go_wp2_with (first | (go_at_call 25; refine HT1.out.mono ?_; rintro x w1 ⟨rfl, rfl⟩))
              exact HBAD.out 2 _ _ _ HX.out (by decide) HE0.out.bel
            · have hbf : bitN l i = false := by simpa using hbz
              rw [hbf] at hbt
              have HT1 := Lib.hid hbt
              have HZ2 : Hid (∀ j, m ≤ j → j < i + 1 → bitN l j = false) := Lib.hid (fun j h1 h2 => by
                by_cases e : j = i
                · rw [e]; exact hbf
                · exact HZ.out j h1 (by omega))
              clear hbt hbz hbf HZ
              go_wp2_with (first | (go_at_call 25; refine HT1.out.mono ?_; rintro x w1 ⟨rfl, rfl⟩))
              go_round
              case rel => exact ⟨i + 1, by omega, by omega, by go_num, HZ2⟩
              case measure => simp [intOf]; omega
          · have d1 : ¬ (i : Int) < (q : Int) * 8 := by omega
            have HX : Hid (T = rapp [] (rdecF tf qf l m 0 q)) := Lib.hid (by
              rw [← HT.out, rapp_nil]
              unfold rdec
              rw [EN.out, HQ.out, if_neg c2, if_neg]
              rw [List.any_eq_true]
              rintro ⟨j, h1, h2⟩
              have h3 := List.mem_range.1 h1
              by_cases h4 : m ≤ j
              · rw [HZ.out j h4 (by omega)] at h2; simp at h2
              · simp [h4] at h2)
            clear HZ HT
            go_wp2
            clear d1 d hi hi2
            go_loopw [7, 10, 11] (fun v at' i wr => ∃ (k p : Nat) (acc : List Vt), k ≤ m ∧ p ≤ n ∧ i = .int .i64 k ∧ at' = .int .i64 p ∧ EnV w wr w.heap.size v acc ∧ acc.length = k ∧ Hid (T = rapp acc (rdecF tf qf l (m - k) k p))) (fun _ _ i _ => m - (intOf i).toNat)
            case atStart => exact ⟨0, q, [], Nat.zero_le _, hqn, rfl, rfl, HE0.out, rfl, HX⟩
            clear HX HE0
            case round =>
              obtain ⟨k, p, acc, hk, hp, rfl, rfl, hen, hal, HT⟩ := hrel
              by_cases d : k < m
              · have d1 : (k : Int) < (m : Int) := by omega
                obtain rfl : a = some ⟨b, off, none⟩ := by rcases ha with h | h; omega; exact h
                obtain rfl := HAP.out (by omega)
                have hcl := HC.out.below hen.bel
                have c1' := hcl.c1 k d
                have c2' := hcl.c2 k d
                have hbl := HB.out.below hen.bel
                have hbt := HBT.out k (by omega) wr hbl
                have h1t := one_all (tf k) b' off' cap' l p (by rw [EN.out]; exact hp) (by rw [EN.out]; exact hln) (by rw [EN.out]; exact hcap) hcm9 wr hbl
                rw [EN.out] at h1t
                have hrs : rdecF tf qf l (m - k) k p = if bitN l k = true then (if qf k = true then ([], 60) else rcons (0, 0, Em) (rdecF tf qf l (m - (k + 1)) (k + 1) p)) else
                    if (rone (tf k) l p).1 = 0 then rcons (rone (tf k) l p).2.1 (rdecF tf qf l (m - (k + 1)) (k + 1) (rone (tf k) l p).2.2) else ([], (rone (tf k) l p).1) := by
                  rw [show m - k = (m - (k + 1)) + 1 from by omega]; rfl
                have hle := rone_le (tf k) l p
                rw [EN.out] at hle
                generalize rone (tf k) l p = X at *
                have HE := Lib.hid hen
                have HRS := Lib.hid hrs
                have HLE := Lib.hid hle
                have H1T := Lib.hid h1t
                have HAL := Lib.hid hal
                have HCL := Lib.hid hcl
                clear hen hcl hbl hrs hle h1t hal
                by_cases hbz : bitN l k = true
                · rw [hbz] at hbt
                  have HT1 := Lib.hid hbt
                  have hrs := HRS.out
                  rw [if_pos hbz] at hrs
                  by_cases hq2 : qf k = true
                  · rw [if_pos hq2] at hrs
                    rw [hq2] at c2'
                    have HX : Hid (T = ([], 60)) := Lib.hid (by rw [HT.out, hrs]; rfl)
                    clear hbt hrs hbz hq2
                    go_wp2_with (first | (go_at_call 25; refine HT1.out.mono ?_; rintro x w1 ⟨rfl, rfl⟩))
                    exact HBAD.out 60 _ _ _ HX.out (by decide) HE.out.bel
                  · rw [if_neg hq2] at hrs
                    have hq3 : qf k = false := by simpa using hq2
                    rw [hq3] at c2'
                    have HX : Hid (T = rapp (acc ++ [(0, 0, Em)]) (rdecF tf qf l (m - (k + 1)) (k + 1) p)) := Lib.hid (by rw [HT.out, hrs, rapp_cons])
                    clear hbt hrs hbz hq2 hq3
                    go_wp2_with (first | (at_builtin; refine wp_pushV rfl _ _ rfl w.heap.size _ _ rfl (HE.out.own.alloc _) ⟨wr.heap.size, 0, none⟩ 1 1 [(0, 0, Em)] rfl rfl (newsV wr _ _ _) (by have := HAL.out; omega) (HE.out.alloc _).sz ?_; intro v1 w1 hown1 hgrow1; have HEN := Lib.hid ((HE.out.alloc _).push hown1 hgrow1); clear hown1 hgrow1) | (go_at_call 25; refine HT1.out.mono ?_; rintro x w1 ⟨rfl, rfl⟩))
                    go_roundw
                    case rel => exact ⟨k + 1, p, acc ++ [(0, 0, Em)], by omega, hp, by go_num, rfl, HEN.out, by rw [List.length_append, HAL.out]; rfl, HX⟩
                    case measure => simp [intOf]; omega
                · have hbf : bitN l k = false := by simpa using hbz
                  rw [hbf] at hbt
                  have HT1 := Lib.hid hbt
                  have hrs := HRS.out
                  rw [if_neg hbz] at hrs
                  clear hbt hbz hbf c2'
                  obtain ⟨xe, ⟨xk, xn, xs⟩, xq⟩ := X
                  by_cases he : xe = 0
                  · subst he
                    rw [if_pos rfl] at hrs
                    have hxq : xq ≤ n := HLE.out rfl
                    have HX : Hid (T = rapp (acc ++ [(xk, xn, xs)]) (rdecF tf qf l (m - (k + 1)) (k + 1) xq)) := Lib.hid (by rw [HT.out, hrs, rapp_cons])
                    clear hrs
                    go_upto_region 21 with (first | (go_at_call 25; refine HT1.out.mono ?_; rintro x w1 ⟨rfl, rfl⟩) | (go_at_call 26; refine H1T.out.mono ?_; rintro x w2 ⟨v2, q2, rfl, hok, -, b2⟩; have hok2 : v2 = .agg #[.int .i64 xk, .int .i64 xn, .string xs] ∧ q2 = xq := hok rfl; obtain ⟨rfl, rfl⟩ := hok2; have HE2 := Lib.hid (HE.out.step b2); clear b2 hok))
                    have HEX := Lib.hid (HE2.out.alloc (Ob xk xn xs))
                    have HBX2 := Lib.hid (boxV_new w2 xk xn xs)
                    generalize w2.alloc (Ob xk xn xs) = wy at *
                    generalize w2.heap.size = gb at *
                    obtain ⟨x0, x1, x2⟩ := HBX2.out.cells
                    clear c1' HE HE2
                    go_wp2_with (first | (at_builtin; refine wp_pushV rfl _ _ rfl w.heap.size _ _ rfl (HEX.out.own.alloc _) ⟨wy.heap.size, 0, none⟩ 1 1 [(xk, xn, xs)] rfl rfl (newsV wy _ _ _) (by have := HAL.out; omega) (HEX.out.alloc _).sz ?_; intro v1 w1 hown1 hgrow1; have HEN := Lib.hid ((HEX.out.alloc _).push hown1 hgrow1); clear hown1 hgrow1))
                    go_roundw
                    case rel => exact ⟨k + 1, q2, acc ++ [(xk, xn, xs)], by omega, hxq, by go_num, rfl, HEN.out, by rw [List.length_append, HAL.out]; rfl, HX⟩
                    case measure => simp [intOf]; omega
                  · rw [if_neg he] at hrs
                    have HX : Hid (T = ([], xe)) := Lib.hid (by rw [HT.out, hrs]; unfold rapp; rw [if_neg he])
                    have HNE := Lib.hid he
                    have he2 : (xe != 0) = true := by simpa using he
                    clear hrs he
                    go_upto_region 21 with (first | (go_at_call 25; refine HT1.out.mono ?_; rintro x w1 ⟨rfl, rfl⟩) | (go_at_call 26; refine H1T.out.mono ?_; rintro x w2 ⟨v2, q2, rfl, -, ⟨k0, n0, s0, hv⟩, b2⟩; have hv2 : v2 = .agg #[.int .i64 k0, .int .i64 n0, .string s0] := hv; subst hv2; have HE2 := Lib.hid (HE.out.step b2); clear b2 hv))
                    have HEX := Lib.hid (HE2.out.alloc (Ob k0 n0 s0))
                    generalize w2.alloc (Ob k0 n0 s0) = wy at *
                    generalize w2.heap.size = gb at *
                    clear c1' HE HE2
                    go_wp2
                    exact HBAD.out xe _ _ _ HX.out HNE.out HEX.out.bel
              · have d1 : ¬ (k : Int) < (m : Int) := by omega
                obtain rfl : k = m := by omega
                have hrs : rdecF tf qf l (k - k) k p = if p < n then ([], 4) else ([], 0) := by rw [Nat.sub_self, ← EN.out]; rfl
                have HE := Lib.hid hen
                by_cases e : p < n
                · have e1 : (p : Int) < (n : Int) := by omega
                  rw [if_pos e] at hrs
                  have HX : Hid (T = ([], 4)) := Lib.hid (by rw [HT.out, hrs]; rfl)
                  clear hen hrs
                  go_wp2
                  exact HBAD.out 4 _ _ _ HX.out (by decide) HE.out.bel
                · have e1 : ¬ (p : Int) < (n : Int) := by omega
                  rw [if_neg e] at hrs
                  have HX : Hid (T = (acc, 0)) := Lib.hid (by rw [HT.out, hrs]; unfold rapp; rw [if_pos rfl, List.append_nil])
                  clear hen hrs
                  go_wp2
                  exact HGOOD.out acc _ _ HX.out HE.out

end Go.Proofs.Ytpknoclnmhomiab
