/-
  Contract over the translation: the values of a key's bytes (haspref05.Decode).
  Conditions: the bytes lie in memory.
-/
import Derived.Test.YtpknoclnmhomiaaKey5
namespace Go.Proofs.Ytpknoclnmhomiaa
open Go.RowKit Go.Joins Go.ChangeShapes Go.WideShapes
set_option linter.unusedVariables false

def DecOk (W : World) (X : List Vt × Int) (e : Ending) (w' : World) : Prop :=
  ∃ v, e = .returned (.tuple #[v, .int .i64 X.2]) ∧ (X.2 = 0 → OwV w' W.heap.size v X.1) ∧ (X.2 ≠ 0 → ∃ a c, v = .slice a 0 c) ∧ Below W.heap.size W w'

/-- the state of the region that reads a number -/
def DS (W w : World) (B : Nat) (v : Value) (l : List Vt) (g : Nat) (k : Int) : Prop := EnV W w B v l ∧ BoxX w g k Em ∧ B ≤ g ∧ v.ownBlock ≠ some g
theorem ds_all {W w : World} {B : Nat} {v : Value} {l : List Vt} {g : Nat} {k : Int} (h : DS W w B v l g k) :
    DS W w B v l g k ∧ w.cell? ⟨g, 0, none⟩ = some (.int .i64 k) ∧ w.cell? ⟨g, 1, none⟩ = some (bval w g 1) ∧ w.cell? ⟨g, 2, none⟩ = some (.string Em) ∧ w.frozen? ⟨g, 1, none⟩ = false := ⟨h, h.2.1.cells⟩
theorem DS.drew {W w : World} {B : Nat} {v : Value} {l : List Vt} {g : Nat} {k : Int} (h : DS W w B v l g k) : DS W w.drew B v l g k := ⟨h.1.drew, h.2.1.drew, h.2.2⟩
theorem DS.set {W w : World} {B : Nat} {v : Value} {l : List Vt} {g : Nat} {k : Int} (h : DS W w B v l g k) (u : Value) : DS W (w.setCell ⟨g, 1, none⟩ u) B v l g k := ⟨h.1.set h.2.2.1 h.2.2.2 u, h.2.1.set u, h.2.2⟩

theorem DS.bel {W w : World} {B : Nat} {v : Value} {l : List Vt} {g : Nat} {k : Int} (h : DS W w B v l g k) : Below B W w := h.1.bel
theorem ds_fin {W w : World} {B : Nat} {v : Value} {l : List Vt} {g : Nat} {k : Int} (h : DS W w B v l g k) (n : Int) : EnV W (w.setCell ⟨g, 1, none⟩ (.int .i64 n)) B v l ∧ BoxV (w.setCell ⟨g, 1, none⟩ (.int .i64 n)) g k n Em := ⟨(h.set _).1, h.2.1.setV n⟩

set_option maxRecDepth 100000 in
set_option maxHeartbeats 8000000 in
theorem refdecode_any (a : Option Addr) (b off cap : Nat) (l : List Nat) (hcap : l.length ≤ cap) (hcm : cap ≤ maxLen) (hm : l.length ≤ 1099511627776) (w : World) (ha : l.length = 0 ∨ a = some ⟨b, off, none⟩) (hA : IsB w b off l) :
    Calls Try.prog 17 #[.slice a l.length cap] w fun e w' => DecOk w (decK l) e w' := by
  generalize hP : (fun (e : Ending) (w' : World) => DecOk w (decK l) e w') = P
  obtain ⟨T, hT⟩ : ∃ T, decK l = T := ⟨_, rfl⟩
  have hbad : ∀ (acc : List Vt) (X : List Vt × Int) (e : Int) (a' : Option Addr) (c : Nat) (w' : World), T = vapp acc X → X.2 = e → e ≠ 0 → Below w.heap.size w w' → P (.returned (.tuple #[.slice a' 0 c, .int .i64 e])) w' := by
    intro acc X e a' c w' h1 h2 h3 h4
    subst h2
    rw [← hP, hT, h1]
    have : vapp acc X = ([], X.2) := by unfold vapp; rw [if_neg h3]
    rw [this]
    exact ⟨_, rfl, fun h => absurd h h3, fun _ => ⟨_, _, rfl⟩, h4⟩
  have hgood : ∀ (acc : List Vt) (v : Value) (w' : World), T = vapp acc ([], 0) → EnV w w' w.heap.size v acc → P (.returned (.tuple #[v, .int .i64 0])) w' := by
    intro acc v w' h1 h2
    rw [← hP, hT, h1]
    have : vapp acc ([], 0) = (acc, 0) := by unfold vapp; rw [if_pos rfl, List.append_nil]
    rw [this]
    exact ⟨_, rfl, fun _ => h2.own, fun h => absurd rfl h, h2.bel⟩
  have HBAD := Lib.hid hbad
  have HGOOD := Lib.hid hgood
  have HB := Lib.hid hA
  have HA := Lib.hid ha
  have HT0 := Lib.hid (show T = vapp [] (decK l) by rw [← hT]; exact (vapp_nil l).symm)
  clear hbad hgood hP hA hT ha
  obtain ⟨m, em⟩ : ∃ m, l.length = m := ⟨_, rfl⟩
  have EM := Lib.hid em
  rw [em] at hm hcap ⊢
  clear em
  have hcm' : cap ≤ 9223372036854775807 := by unfold maxLen at hcm; omega
  have hm9 : m ≤ 9223372036854775807 := by omega
  clear hcm
  go_enter Try.func17, Try.ntmps17
  go_wp2
  go_loopw [4, 6] (fun v i wr => ∃ (p : Nat) (acc : List Vt), p ≤ m ∧ i = .int .i64 p ∧ EnV w wr w.heap.size v acc ∧ acc.length ≤ p ∧ Hid (T = vapp acc (decK (l.drop p)))) (fun _ i _ => m - (intOf i).toNat)
  case atStart => exact ⟨0, [], Nat.zero_le _, rfl, EnV.made w _, by simp, HT0.out⟩
  case round =>
    obtain ⟨p, acc, hp, rfl, hen, hacc, HT⟩ := hrel
    by_cases c : p < m
    · have c1 : (p : Int) < (m : Int) := by omega
      obtain rfl : a = some ⟨b, off, none⟩ := by rcases HA.out with h | h; (have := EM.out; omega); exact h
      have hz : l[p]? = some (l[p]'(by rw [EM.out]; omega)) := List.getElem?_eq_getElem _
      have hdp : l.drop p = l[p]'(by rw [EM.out]; omega) :: l.drop (p + 1) := List.drop_eq_getElem_cons _
      generalize l[p]'(by rw [EM.out]; omega) = z at *
      have a0 := (HB.out.below hen.bel).c p z hz
      have hz8 := HB.out.lt z (List.mem_of_getElem? hz)
      have HD := Lib.hid hdp
      have hlr : (l.drop (p + 1)).length = m - (p + 1) := by rw [List.length_drop, EM.out]
      have hne : ∀ k, k ≥ wr.heap.size → u4.ownBlock ≠ some k := fun k hk e => by have := (hen.own.lt k e).2; omega
      have hp1 : p ≤ 1099511627776 := by omega
      have hgB := hen.sz
      have HE := Lib.hid hen
      have HLR := Lib.hid hlr
      clear hz hdp hen hlr
      have hzc : z = 0 ∨ 5 < z ∨ z = 1 ∨ z = 5 ∨ z = 2 ∨ z = 3 ∨ z = 4 := by omega
      rcases hzc with rfl | hz5 | rfl | rfl | rfl | rfl | rfl
      · rw [show (((0 : Nat) : Int)) = 0 from rfl] at a0
        go_wp2
        exact HBAD.out acc (decK (0 :: l.drop (p + 1))) 50 _ _ _ (HT.out.trans (by rw [HD.out])) (by rw [decK_cons]; rfl) (by decide) (HE.out.alloc (.cells #[.int .i64 (-1), .int .i64 0, .string Em] 35)).bel
      · have e1 : IntKind.i64.wrap ((z : Int) - 1) = (z : Int) - 1 := by rw [IntKind.wrap_i64]; omega
        have e2 : IntKind.i64.wrap (z : Int) = (z : Int) := by rw [IntKind.wrap_i64]; omega
        have e3 : decide ((z : Int) - 1 < 0) = false := by simp; omega
        have e4 : (4 : Int) < (z : Int) - 1 := by omega
        have e5 : wrap64 ((z : Int) - 1) = (z : Int) - 1 := by unfold wrap64; omega
        go_wp2
        exact HBAD.out acc (decK (z :: l.drop (p + 1))) 50 _ _ _ (HT.out.trans (by rw [HD.out])) (by rw [decK_cons, show decOne (z :: l.drop (p + 1)) = (50, (0, 0, Em), []) by rw [decOne_cons, if_pos (.inr hz5)]]; rfl) (by decide) (HE.out.alloc (.cells #[.int .i64 ((z : Int) - 1), .int .i64 0, .string Em] 35)).bel
      · rw [show (((1 : Nat) : Int)) = 1 from rfl] at a0
        go_upto_region 5 with fail
        have HEX := Lib.hid (HE.out.alloc (.cells #[.int .i64 0, .int .i64 0, .string Em] 35))
        have HBX := Lib.hid (boxV_new wr 0 0 Em)
        have hne2 := hne wr.heap.size (Nat.le_refl _)
        generalize wr.alloc (.cells #[.int .i64 0, .int .i64 0, .string Em] 35) = wx at *
        generalize wr.heap.size = g at *
        obtain ⟨x0, x1, x2⟩ := HBX.out.cells
        have y1 := HBX.out.frozen 1
        have y2 := HBX.out.frozen 2
        clear a0 hne HE
        go_wp2_with (first | (at_builtin; refine wp_pushV rfl _ _ rfl w.heap.size _ _ rfl (HEX.out.own.alloc _) ⟨wx.heap.size, 0, none⟩ 1 1 [(0, 0, Em)] rfl rfl (newsV wx _ _ _) (by omega) (HEX.out.alloc _).sz ?_; intro v1 w1 hown1 hgrow1; have HEN := Lib.hid ((HEX.out.alloc _).push hown1 hgrow1); clear hown1 hgrow1))
        go_roundw
        case rel => exact ⟨p + 1, acc ++ [(0, 0, Em)], by omega, by go_num, HEN.out, by rw [List.length_append]; simp; omega, by
          show T = _
          rw [HT.out, HD.out, decK_cons]
          exact vapp_cons _ _ _⟩
        case measure => first | (simp [intOf]; done) | (simp [intOf]; omega)
      · rw [show (((5 : Nat) : Int)) = 5 from rfl] at a0
        have htx := fun w' (h : Below w.heap.size w w') => text_any b off cap l (p + 1) (by have := EM.out; omega) (by have := EM.out; omega) w' (HB.out.below h)
        have hd1 : decOne (5 :: l.drop (p + 1)) = if (txt 0 (l.drop (p + 1))).1 = 0 then (0, (4, 0, strB (txt 0 (l.drop (p + 1))).2.1), (txt 0 (l.drop (p + 1))).2.2) else ((txt 0 (l.drop (p + 1))).1, (0, 0, Em), []) := rfl
        have htl := txt_len (l.drop (p + 1)) 0
        generalize txt 0 (l.drop (p + 1)) = X at *
        rw [EM.out] at htx
        have HTX := Lib.hid htx
        have HD1 := Lib.hid hd1
        have HTL := Lib.hid htl
        clear htx hd1 htl
        go_upto_region 5 with fail
        have HEX := Lib.hid (HE.out.alloc (.cells #[.int .i64 4, .int .i64 0, .string Em] 35))
        have HBX := Lib.hid (boxV_new wr 4 0 Em)
        have hne2 := hne wr.heap.size (Nat.le_refl _)
        generalize wr.alloc (.cells #[.int .i64 4, .int .i64 0, .string Em] 35) = wx at *
        generalize wr.heap.size = g at *
        obtain ⟨x0, x1, x2⟩ := HBX.out.cells
        have y1 := HBX.out.frozen 1
        have y2 := HBX.out.frozen 2
        clear a0 hne HE
        go_upto_region 19 with (first | (go_at_call 29; refine (HTX.out _ HEX.out.bel).mono ?_; rintro x w2 ⟨s, q, rfl, hok, b2⟩; have HE2 := Lib.hid (HEX.out.step b2); have HB2 := Lib.hid (HBX.out.below b2); have HOK := Lib.hid hok; obtain ⟨u0, u1, u2⟩ := HB2.out.cells; have v2 := HB2.out.frozen 2; have HE3 := Lib.hid (HE2.out.set (o := 2) hgB hne2 (.string s)); have HB3 := Lib.hid (HB2.out.setT s); clear x0 x1 x2 y1 y2 hok b2))
        generalize w2.setCell ⟨g, 2, none⟩ (.string s) = w3 at *
        obtain ⟨f0, f1, f2⟩ := HB3.out.cells
        clear u0 u1 u2 v2
        obtain ⟨xe, xt, xq⟩ := X
        by_cases q0 : xe = 0
        · subst q0
          obtain ⟨s1, s2, s3⟩ := HOK.out rfl
          have HX1 := Lib.hid s1
          have HX3 := Lib.hid s3
          rw [EM.out] at s2
          have hpq : p + 1 ≤ q := by
            have h1 := HTL.out rfl
            rw [show xq = l.drop q from s3, List.length_drop, List.length_drop, EM.out] at h1
            omega
          clear s1 s3
          go_wp2_with (first | (at_builtin; refine wp_pushV rfl _ _ rfl w.heap.size _ _ rfl (HE3.out.own.alloc _) ⟨w3.heap.size, 0, none⟩ 1 1 [(4, 0, s)] rfl rfl (newsV w3 _ _ _) (by omega) (HE3.out.alloc _).sz ?_; intro v1 w1 hown1 hgrow1; have HEN := Lib.hid ((HE3.out.alloc _).push hown1 hgrow1); clear hown1 hgrow1))
          go_roundw
          case rel => exact ⟨q, acc ++ [(4, 0, s)], s2, by go_num, HEN.out, by rw [List.length_append]; simp; omega, by
            show T = _
            have e1 : decOne (5 :: l.drop (p + 1)) = (0, (4, 0, strB xt), xq) := HD1.out
            rw [HT.out, HD.out, decK_cons, e1, ← HX1.out, show xq = l.drop q from HX3.out]
            exact vapp_cons _ _ _⟩
          case measure => first | (simp [intOf]; done) | (simp [intOf]; omega)
        · have q1 : (xe != 0) = true := by simpa using q0
          go_wp2
          have e1 : decOne (5 :: l.drop (p + 1)) = (xe, (0, 0, Em), []) := by rw [HD1.out]; exact if_neg q0
          exact HBAD.out acc (decK (5 :: l.drop (p + 1))) xe _ _ _ (HT.out.trans (by rw [HD.out])) (by rw [decK_cons, e1]; simp only [if_neg q0]) q0 HE3.out.bel
      · rw [show (((2 : Nat) : Int)) = 2 from rfl] at a0
        have hd1 : decOne (2 :: l.drop (p + 1)) = if (l.drop (p + 1)).length < 1 then (3, (0, 0, Em), []) else if (numK 1 (numU ((l.drop (p + 1)).take 1))).2 = 0 then (0, (1, (numK 1 (numU ((l.drop (p + 1)).take 1))).1, Em), (l.drop (p + 1)).drop 1) else ((numK 1 (numU ((l.drop (p + 1)).take 1))).2, (0, 0, Em), []) := rfl
        rw [HLR.out] at hd1
        by_cases hn : m - (p + 1) < 1
        · have d1 : (m : Int) - ((p : Int) + 1) < 1 := by omega
          rw [if_pos hn] at hd1
          have HD1 := Lib.hid hd1
          clear hd1
          go_upto_region 5 with fail
          have HEX := Lib.hid (HE.out.alloc (.cells #[.int .i64 1, .int .i64 0, .string Em] 35))
          have HBX := Lib.hid (boxV_new wr 1 0 Em)
          have hne2 := hne wr.heap.size (Nat.le_refl _)
          generalize wr.alloc (.cells #[.int .i64 1, .int .i64 0, .string Em] 35) = wx at *
          generalize wr.heap.size = g at *
          obtain ⟨x0, x1, x2⟩ := HBX.out.cells
          clear a0 hne HE
          go_wp2
          exact HBAD.out acc (decK (2 :: l.drop (p + 1))) 3 _ _ _ (HT.out.trans (by rw [HD.out])) (by rw [decK_cons, HD1.out]; rfl) (by decide) HEX.out.bel
        · have d1 : decide ((m : Int) - ((p : Int) + 1) < 1) = false := by simp; omega
          have d1' : ¬ ((m : Int) - ((p : Int) + 1) < 1) := by omega
          rw [if_neg hn] at hd1
          have hl' : ((l.drop (p + 1)).take 1).length = 1 := by rw [List.length_take, HLR.out]; omega
          have hnm := fun w' (h : Below w.heap.size w w') => number_any 1 (by omega) b (off + (p + 1)) (cap - (p + 1)) ((l.drop (p + 1)).take 1) (by rw [hl']; omega) (by rw [hl']; omega) w' (((HB.out.below h).drop (p + 1)).take 1)
          rw [hl'] at hnm
          generalize hK : numK 1 (numU ((l.drop (p + 1)).take 1)) = K at *
          obtain ⟨kn, ke⟩ := K
          have HN := Lib.hid hnm
          have HD1 := Lib.hid hd1
          have d2 : p + 1 + 1 ≤ m := by omega
          have e9 : IntKind.i64.wrap ((p : Int) + 1 + 1) = (p : Int) + 1 + 1 := by rw [IntKind.wrap_i64]; omega
          have hsl := slice_b b off m cap (p + 1) 1 (by omega) (by omega) ((p : Int) + 1) ((p : Int) + 1 + 1) (by omega) (by omega)
          have d3 : (p : Int) + 1 + 1 ≤ (cap : Int) := by omega
          have d4 : p + 1 + 1 ≤ cap := by omega
          clear hnm hd1 hK hl'
          go_upto_region 5 with fail
          have HEX := Lib.hid (HE.out.alloc (.cells #[.int .i64 1, .int .i64 0, .string Em] 35))
          have HBX := Lib.hid (boxV_new wr 1 0 Em)
          have hne2 := hne wr.heap.size (Nat.le_refl _)
          generalize wr.alloc (.cells #[.int .i64 1, .int .i64 0, .string Em] 35) = wx at *
          generalize wr.heap.size = g at *
          obtain ⟨x0, x1, x2⟩ := HBX.out.cells
          clear a0 hne HE
          have hds := ds_all (show DS w wx w.heap.size u4 acc g 1 from ⟨HEX.out, HBX.out.boxX, hgB, hne2⟩)
          clear x0 x1 x2
          go_upto_region 17 with fail
          go_cut [8] (fun e wy => e = .int .i64 ke ∧ EnV w wy w.heap.size u4 acc ∧ BoxV wy g 1 kn Em)
          case first =>
            clear HBAD HGOOD HT HD HD1 HEX HBX
            go_region_held3 (fun w' => DS w w' w.heap.size u4 acc g 1 ∧ w'.cell? ⟨g, 0, none⟩ = some (.int .i64 1) ∧ w'.cell? ⟨g, 1, none⟩ = some (bval w' g 1) ∧ w'.cell? ⟨g, 2, none⟩ = some (.string Em) ∧ w'.frozen? ⟨g, 1, none⟩ = false)
              (first | (go_split_ands; exact ds_all (by assumption)) | (go_split_ands; exact ds_all (DS.drew (by assumption))) | (go_split_ands; exact ds_all (DS.set (by assumption) _)))
              (first | (go_at_call 30; refine (HN.out _ ?_).mono ?_; exact DS.bel (And.left (by assumption)); rintro x w12 ⟨rfl, rfl⟩))
            all_goals
              go_wp2_with fail
              go_meet
              first
                | exact ⟨rfl, ds_fin hds.1.drew _⟩
                | exact ⟨rfl, ds_fin hds.1 _⟩
                | exact ⟨rfl, (ds_fin hds.1 _).1.drew, (ds_fin hds.1 _).2⟩
          case rest =>
            obtain ⟨rfl, hen, hbx⟩ := hcut
            have HE3 := Lib.hid hen
            have HB3 := Lib.hid hbx
            obtain ⟨f0, f1, f2⟩ := hbx.cells
            clear hds hen hbx HN
            by_cases q0 : ke = 0
            · subst q0
              go_wp2_with (first | (at_builtin; refine wp_pushV rfl _ _ rfl w.heap.size _ _ rfl (HE3.out.own.alloc _) ⟨wc.heap.size, 0, none⟩ 1 1 [(1, kn, Em)] rfl rfl (newsV wc _ _ _) (by omega) (HE3.out.alloc _).sz ?_; intro v1 w1 hown1 hgrow1; have HEN := Lib.hid ((HE3.out.alloc _).push hown1 hgrow1); clear hown1 hgrow1))
              go_roundw
              case rel => exact ⟨p + 1 + 1, acc ++ [(1, kn, Em)], d2, by go_num, HEN.out, by rw [List.length_append]; simp; omega, by
                show T = _
                have e1 : decOne (2 :: l.drop (p + 1)) = (0, (1, kn, Em), (l.drop (p + 1)).drop 1) := HD1.out
                rw [List.drop_drop] at e1
                rw [HT.out, HD.out, decK_cons, e1]
                exact vapp_cons _ _ _⟩
              case measure => first | (simp [intOf]; done) | (simp [intOf]; omega)
            · have q1 : (ke != 0) = true := by simpa using q0
              go_wp2
              have e1 : decOne (2 :: l.drop (p + 1)) = (ke, (0, 0, Em), []) := by rw [HD1.out]; exact if_neg q0
              exact HBAD.out acc (decK (2 :: l.drop (p + 1))) ke _ _ _ (HT.out.trans (by rw [HD.out])) (by rw [decK_cons, e1]; simp only [if_neg q0]) q0 HE3.out.bel
      · rw [show (((3 : Nat) : Int)) = 3 from rfl] at a0
        have hd1 : decOne (3 :: l.drop (p + 1)) = if (l.drop (p + 1)).length < 8 then (3, (0, 0, Em), []) else if (numK 2 (numU ((l.drop (p + 1)).take 8))).2 = 0 then (0, (2, (numK 2 (numU ((l.drop (p + 1)).take 8))).1, Em), (l.drop (p + 1)).drop 8) else ((numK 2 (numU ((l.drop (p + 1)).take 8))).2, (0, 0, Em), []) := rfl
        rw [HLR.out] at hd1
        by_cases hn : m - (p + 1) < 8
        · have d1 : (m : Int) - ((p : Int) + 1) < 8 := by omega
          rw [if_pos hn] at hd1
          have HD1 := Lib.hid hd1
          clear hd1
          go_upto_region 5 with fail
          have HEX := Lib.hid (HE.out.alloc (.cells #[.int .i64 2, .int .i64 0, .string Em] 35))
          have HBX := Lib.hid (boxV_new wr 2 0 Em)
          have hne2 := hne wr.heap.size (Nat.le_refl _)
          generalize wr.alloc (.cells #[.int .i64 2, .int .i64 0, .string Em] 35) = wx at *
          generalize wr.heap.size = g at *
          obtain ⟨x0, x1, x2⟩ := HBX.out.cells
          clear a0 hne HE
          go_wp2
          exact HBAD.out acc (decK (3 :: l.drop (p + 1))) 3 _ _ _ (HT.out.trans (by rw [HD.out])) (by rw [decK_cons, HD1.out]; rfl) (by decide) HEX.out.bel
        · have d1 : decide ((m : Int) - ((p : Int) + 1) < 8) = false := by simp; omega
          have d1' : ¬ ((m : Int) - ((p : Int) + 1) < 8) := by omega
          rw [if_neg hn] at hd1
          have hl' : ((l.drop (p + 1)).take 8).length = 8 := by rw [List.length_take, HLR.out]; omega
          have hnm := fun w' (h : Below w.heap.size w w') => number_any 2 (by omega) b (off + (p + 1)) (cap - (p + 1)) ((l.drop (p + 1)).take 8) (by rw [hl']; omega) (by rw [hl']; omega) w' (((HB.out.below h).drop (p + 1)).take 8)
          rw [hl'] at hnm
          generalize hK : numK 2 (numU ((l.drop (p + 1)).take 8)) = K at *
          obtain ⟨kn, ke⟩ := K
          have HN := Lib.hid hnm
          have HD1 := Lib.hid hd1
          have d2 : p + 1 + 8 ≤ m := by omega
          have e9 : IntKind.i64.wrap ((p : Int) + 1 + 8) = (p : Int) + 1 + 8 := by rw [IntKind.wrap_i64]; omega
          have hsl := slice_b b off m cap (p + 1) 8 (by omega) (by omega) ((p : Int) + 1) ((p : Int) + 1 + 8) (by omega) (by omega)
          have d3 : (p : Int) + 1 + 8 ≤ (cap : Int) := by omega
          have d4 : p + 1 + 8 ≤ cap := by omega
          clear hnm hd1 hK hl'
          go_upto_region 5 with fail
          have HEX := Lib.hid (HE.out.alloc (.cells #[.int .i64 2, .int .i64 0, .string Em] 35))
          have HBX := Lib.hid (boxV_new wr 2 0 Em)
          have hne2 := hne wr.heap.size (Nat.le_refl _)
          generalize wr.alloc (.cells #[.int .i64 2, .int .i64 0, .string Em] 35) = wx at *
          generalize wr.heap.size = g at *
          obtain ⟨x0, x1, x2⟩ := HBX.out.cells
          clear a0 hne HE
          have hds := ds_all (show DS w wx w.heap.size u4 acc g 2 from ⟨HEX.out, HBX.out.boxX, hgB, hne2⟩)
          clear x0 x1 x2
          go_upto_region 17 with fail
          go_cut [8] (fun e wy => e = .int .i64 ke ∧ EnV w wy w.heap.size u4 acc ∧ BoxV wy g 2 kn Em)
          case first =>
            clear HBAD HGOOD HT HD HD1 HEX HBX
            go_region_held3 (fun w' => DS w w' w.heap.size u4 acc g 2 ∧ w'.cell? ⟨g, 0, none⟩ = some (.int .i64 2) ∧ w'.cell? ⟨g, 1, none⟩ = some (bval w' g 1) ∧ w'.cell? ⟨g, 2, none⟩ = some (.string Em) ∧ w'.frozen? ⟨g, 1, none⟩ = false)
              (first | (go_split_ands; exact ds_all (by assumption)) | (go_split_ands; exact ds_all (DS.drew (by assumption))) | (go_split_ands; exact ds_all (DS.set (by assumption) _)))
              (first | (go_at_call 30; refine (HN.out _ ?_).mono ?_; exact DS.bel (And.left (by assumption)); rintro x w12 ⟨rfl, rfl⟩))
            all_goals
              go_wp2_with fail
              go_meet
              first
                | exact ⟨rfl, ds_fin hds.1.drew _⟩
                | exact ⟨rfl, ds_fin hds.1 _⟩
                | exact ⟨rfl, (ds_fin hds.1 _).1.drew, (ds_fin hds.1 _).2⟩
          case rest =>
            obtain ⟨rfl, hen, hbx⟩ := hcut
            have HE3 := Lib.hid hen
            have HB3 := Lib.hid hbx
            obtain ⟨f0, f1, f2⟩ := hbx.cells
            clear hds hen hbx HN
            by_cases q0 : ke = 0
            · subst q0
              go_wp2_with (first | (at_builtin; refine wp_pushV rfl _ _ rfl w.heap.size _ _ rfl (HE3.out.own.alloc _) ⟨wc.heap.size, 0, none⟩ 1 1 [(2, kn, Em)] rfl rfl (newsV wc _ _ _) (by omega) (HE3.out.alloc _).sz ?_; intro v1 w1 hown1 hgrow1; have HEN := Lib.hid ((HE3.out.alloc _).push hown1 hgrow1); clear hown1 hgrow1))
              go_roundw
              case rel => exact ⟨p + 1 + 8, acc ++ [(2, kn, Em)], d2, by go_num, HEN.out, by rw [List.length_append]; simp; omega, by
                show T = _
                have e1 : decOne (3 :: l.drop (p + 1)) = (0, (2, kn, Em), (l.drop (p + 1)).drop 8) := HD1.out
                rw [List.drop_drop] at e1
                rw [HT.out, HD.out, decK_cons, e1]
                exact vapp_cons _ _ _⟩
              case measure => first | (simp [intOf]; done) | (simp [intOf]; omega)
            · have q1 : (ke != 0) = true := by simpa using q0
              go_wp2
              have e1 : decOne (3 :: l.drop (p + 1)) = (ke, (0, 0, Em), []) := by rw [HD1.out]; exact if_neg q0
              exact HBAD.out acc (decK (3 :: l.drop (p + 1))) ke _ _ _ (HT.out.trans (by rw [HD.out])) (by rw [decK_cons, e1]; simp only [if_neg q0]) q0 HE3.out.bel
      · rw [show (((4 : Nat) : Int)) = 4 from rfl] at a0
        have hd1 : decOne (4 :: l.drop (p + 1)) = if (l.drop (p + 1)).length < 8 then (3, (0, 0, Em), []) else if (numK 3 (numU ((l.drop (p + 1)).take 8))).2 = 0 then (0, (3, (numK 3 (numU ((l.drop (p + 1)).take 8))).1, Em), (l.drop (p + 1)).drop 8) else ((numK 3 (numU ((l.drop (p + 1)).take 8))).2, (0, 0, Em), []) := rfl
        rw [HLR.out] at hd1
        by_cases hn : m - (p + 1) < 8
        · have d1 : (m : Int) - ((p : Int) + 1) < 8 := by omega
          rw [if_pos hn] at hd1
          have HD1 := Lib.hid hd1
          clear hd1
          go_upto_region 5 with fail
          have HEX := Lib.hid (HE.out.alloc (.cells #[.int .i64 3, .int .i64 0, .string Em] 35))
          have HBX := Lib.hid (boxV_new wr 3 0 Em)
          have hne2 := hne wr.heap.size (Nat.le_refl _)
          generalize wr.alloc (.cells #[.int .i64 3, .int .i64 0, .string Em] 35) = wx at *
          generalize wr.heap.size = g at *
          obtain ⟨x0, x1, x2⟩ := HBX.out.cells
          clear a0 hne HE
          go_wp2
          exact HBAD.out acc (decK (4 :: l.drop (p + 1))) 3 _ _ _ (HT.out.trans (by rw [HD.out])) (by rw [decK_cons, HD1.out]; rfl) (by decide) HEX.out.bel
        · have d1 : decide ((m : Int) - ((p : Int) + 1) < 8) = false := by simp; omega
          have d1' : ¬ ((m : Int) - ((p : Int) + 1) < 8) := by omega
          rw [if_neg hn] at hd1
          have hl' : ((l.drop (p + 1)).take 8).length = 8 := by rw [List.length_take, HLR.out]; omega
          have hnm := fun w' (h : Below w.heap.size w w') => number_any 3 (by omega) b (off + (p + 1)) (cap - (p + 1)) ((l.drop (p + 1)).take 8) (by rw [hl']; omega) (by rw [hl']; omega) w' (((HB.out.below h).drop (p + 1)).take 8)
          rw [hl'] at hnm
          generalize hK : numK 3 (numU ((l.drop (p + 1)).take 8)) = K at *
          obtain ⟨kn, ke⟩ := K
          have HN := Lib.hid hnm
          have HD1 := Lib.hid hd1
          have d2 : p + 1 + 8 ≤ m := by omega
          have e9 : IntKind.i64.wrap ((p : Int) + 1 + 8) = (p : Int) + 1 + 8 := by rw [IntKind.wrap_i64]; omega
          have hsl := slice_b b off m cap (p + 1) 8 (by omega) (by omega) ((p : Int) + 1) ((p : Int) + 1 + 8) (by omega) (by omega)
          have d3 : (p : Int) + 1 + 8 ≤ (cap : Int) := by omega
          have d4 : p + 1 + 8 ≤ cap := by omega
          clear hnm hd1 hK hl'
          go_upto_region 5 with fail
          have HEX := Lib.hid (HE.out.alloc (.cells #[.int .i64 3, .int .i64 0, .string Em] 35))
          have HBX := Lib.hid (boxV_new wr 3 0 Em)
          have hne2 := hne wr.heap.size (Nat.le_refl _)
          generalize wr.alloc (.cells #[.int .i64 3, .int .i64 0, .string Em] 35) = wx at *
          generalize wr.heap.size = g at *
          obtain ⟨x0, x1, x2⟩ := HBX.out.cells
          clear a0 hne HE
          have hds := ds_all (show DS w wx w.heap.size u4 acc g 3 from ⟨HEX.out, HBX.out.boxX, hgB, hne2⟩)
          clear x0 x1 x2
          go_upto_region 17 with fail
          go_cut [8] (fun e wy => e = .int .i64 ke ∧ EnV w wy w.heap.size u4 acc ∧ BoxV wy g 3 kn Em)
          case first =>
            clear HBAD HGOOD HT HD HD1 HEX HBX
            go_region_held3 (fun w' => DS w w' w.heap.size u4 acc g 3 ∧ w'.cell? ⟨g, 0, none⟩ = some (.int .i64 3) ∧ w'.cell? ⟨g, 1, none⟩ = some (bval w' g 1) ∧ w'.cell? ⟨g, 2, none⟩ = some (.string Em) ∧ w'.frozen? ⟨g, 1, none⟩ = false)
              (first | (go_split_ands; exact ds_all (by assumption)) | (go_split_ands; exact ds_all (DS.drew (by assumption))) | (go_split_ands; exact ds_all (DS.set (by assumption) _)))
              (first | (go_at_call 30; refine (HN.out _ ?_).mono ?_; exact DS.bel (And.left (by assumption)); rintro x w12 ⟨rfl, rfl⟩))
            all_goals
              go_wp2_with fail
              go_meet
              first
                | exact ⟨rfl, ds_fin hds.1.drew _⟩
                | exact ⟨rfl, ds_fin hds.1 _⟩
                | exact ⟨rfl, (ds_fin hds.1 _).1.drew, (ds_fin hds.1 _).2⟩
          case rest =>
            obtain ⟨rfl, hen, hbx⟩ := hcut
            have HE3 := Lib.hid hen
            have HB3 := Lib.hid hbx
            obtain ⟨f0, f1, f2⟩ := hbx.cells
            clear hds hen hbx HN
            by_cases q0 : ke = 0
            · subst q0
              go_wp2_with (first | (at_builtin; refine wp_pushV rfl _ _ rfl w.heap.size _ _ rfl (HE3.out.own.alloc _) ⟨wc.heap.size, 0, none⟩ 1 1 [(3, kn, Em)] rfl rfl (newsV wc _ _ _) (by omega) (HE3.out.alloc _).sz ?_; intro v1 w1 hown1 hgrow1; have HEN := Lib.hid ((HE3.out.alloc _).push hown1 hgrow1); clear hown1 hgrow1))
              go_roundw
              case rel => exact ⟨p + 1 + 8, acc ++ [(3, kn, Em)], d2, by go_num, HEN.out, by rw [List.length_append]; simp; omega, by
                show T = _
                have e1 : decOne (4 :: l.drop (p + 1)) = (0, (3, kn, Em), (l.drop (p + 1)).drop 8) := HD1.out
                rw [List.drop_drop] at e1
                rw [HT.out, HD.out, decK_cons, e1]
                exact vapp_cons _ _ _⟩
              case measure => first | (simp [intOf]; done) | (simp [intOf]; omega)
            · have q1 : (ke != 0) = true := by simpa using q0
              go_wp2
              have e1 : decOne (4 :: l.drop (p + 1)) = (ke, (0, 0, Em), []) := by rw [HD1.out]; exact if_neg q0
              exact HBAD.out acc (decK (4 :: l.drop (p + 1))) ke _ _ _ (HT.out.trans (by rw [HD.out])) (by rw [decK_cons, e1]; simp only [if_neg q0]) q0 HE3.out.bel
    · obtain rfl : p = m := by omega
      have hdn : l.drop p = [] := List.drop_eq_nil_of_le (by rw [EM.out]; exact Nat.le_refl _)
      have HDN := Lib.hid hdn
      have HE := Lib.hid hen
      clear hdn hen
      go_wp2
      exact HGOOD.out acc _ _ (HT.out.trans (by rw [HDN.out]; rfl)) HE.out

end Go.Proofs.Ytpknoclnmhomiaa
