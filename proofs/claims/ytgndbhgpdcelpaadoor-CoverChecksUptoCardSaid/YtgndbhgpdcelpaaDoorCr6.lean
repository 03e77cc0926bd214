/-
  The document's check of a plan (haspref22): a contract over the translation.
  Conditions: the row lies in memory.
-/
import Derived.Test.YtgndbhgpdcelpaaDoorCr5
import Derived.Test.YtgndbhgpdcelpaaDoorCr1
import Derived.Test.YtgndbhgpdcelpaaDoorCv17
namespace Go.Proofs.YtgndbhgpdcelpaaDoor
set_option maxRecDepth 100000
open Go.RowKit Go.Joins Go.ChangeShapes Go.WideShapes
set_option linter.unusedVariables false
set_option linter.unusedSimpArgs false

/-- does a lock stand behind locks alone? -/
def lkP (q : List Ins) (k : Nat) (x : Ins) : Bool := if x.op == 1 && decide (0 < k) then (match q[k - 1]? with | some y => y.op == 1 | none => false) else true
def okK (q : List Ins) (k : Nat) (x : Ins) : Bool := rtB q.length x && lkP q k x && rdR q x
def okAllK (q : List Ins) : Bool := (List.range q.length).all fun k => match q[k]? with | some x => okK q k x | none => true
theorem okK_no {q : List Ins} {k : Nat} {x : Ins} (hx : q[k]? = some x) (h : okK q k x = false) : okAllK q = false := by
  unfold okAllK
  rw [List.all_eq_false]
  exact ⟨k, List.mem_range.2 (List.getElem?_eq_some_iff.1 hx).1, by rw [hx]; simp [h]⟩
theorem okK_yes {q : List Ins} (h : ∀ (k : Nat) (x : Ins), k < q.length → q[k]? = some x → okK q k x = true) : okAllK q = true := by
  unfold okAllK
  rw [List.all_eq_true]
  intro k hk
  have hk' := List.mem_range.1 hk
  rw [List.getElem?_eq_getElem hk']
  exact h k _ hk' (List.getElem?_eq_getElem hk')
def chkB (tb : ByteArray) (q : List Ins) : Bool := enB q && okAllK q && chB tb q
set_option maxHeartbeats 32000000 in
set_option maxRecDepth 100000 in
theorem check22 (w : World) (tb : ByteArray) (a : Option Addr) (cap : Nat) (q : List Ins) (h : RowA w a q) (hm : q.length ≤ 1048576) :
    Calls Tryd.prog 9 #[.agg #[.string tb, .slice a q.length cap]] w fun e w' => e = .returned (.int .i64 (erI (chkB tb q))) ∧ Below w.heap.size w w' := by
  obtain ⟨R, hR⟩ : ∃ R, chkB tb q = R := ⟨_, rfl⟩
  rw [hR]
  unfold chkB at hR
  obtain ⟨n, hn⟩ : ∃ n, q.length = n := ⟨_, rfl⟩
  have HN := Lib.hid hn
  obtain ⟨W1, hW1⟩ : ∃ W1, w.alloc (.cells #[.string tb, .slice a q.length cap] 25) = W1 := ⟨_, rfl⟩
  obtain ⟨HB1, z0, z1, hz, hbx⟩ := ck_box hW1
  have HH := Lib.hid (h.below HB1.out)
  have HRO := Lib.hid (fun (V : World) (hV : Below W1.heap.size W1 V) => (h.below HB1.out).below hV)
  have HPX := Lib.hid (fun (V : World) (hV : Below W1.heap.size W1 V) => hbx.below hV)
  have HCH := Lib.hid (fun (V : World) (hV : Below W1.heap.size W1 V) => changes22 V tb a cap q ((h.below HB1.out).below hV) hm)
  have HRD := Lib.hid (fun (V : World) (hV : Below W1.heap.size W1 V) (x : Ins) (hx : x ∈ q) => read22 V tb a cap q ((h.below HB1.out).below hV) hm x hx)
  have HRT := Lib.hid (fun (V : World) (x : Ins) => right22 x q.length hm V)
  have HNO := Lib.hid (show ∀ (k : Nat) (x : Ins), q[k]? = some x → okK q k x = false → R = false from fun k x hx hk => by rw [← hR, okK_no hx hk]; simp)
  unfold enB at hR
  rw [hn] at hm HCH HRD HPX hW1 z1 hR ⊢
  clear h hz hbx
  by_cases c1 : 1 ≤ n
  case neg =>
    obtain rfl : R = false := by rw [← hR]; simp [c1]
    have c1' : ¬ (1 : Int) ≤ n := by omega
    clear hR hn
    go_enter Tryd.func9, Tryd.ntmps9
    go_wp2_with fail
    go_ret
    exact ⟨rfl, HB1.out⟩
  case pos =>
    by_cases c2 : n ≤ 4096
    case neg =>
      obtain rfl : R = false := by rw [← hR]; simp [c2]
      have c1' : (1 : Int) ≤ n := by omega
      clear hR hn
      go_enter Tryd.func9, Tryd.ntmps9
      go_wp2_with fail
      go_ret
      exact ⟨rfl, HB1.out⟩
    case pos =>
      obtain ⟨xl, hxl⟩ : ∃ x, q[n - 1]? = some x := ⟨_, List.getElem?_eq_getElem (by omega)⟩
      obtain ⟨gb, off, rfl, -, hra⟩ := HH.out.at hxl
      have f0 := (rng_cells hra).1
      have hk1 : ((n : Int) - 1).toNat = n - 1 := by omega
      have hk2 : (0 : Int) ≤ (n : Int) - 1 := by omega
      have hk3 : (n : Int) - 1 < (n : Int) := by omega
      rw [hxl] at hR
      simp only [c1, c2, decide_true, Bool.true_and] at hR
      have c1' : (1 : Int) ≤ n := by omega
      have c2' : (n : Int) ≤ 4096 := by omega
      have HR := Lib.hid hR
      clear hR hxl hra hn
      cases hb : xl.op == 12 with
      | false =>
        obtain rfl : R = false := by rw [← HR.out, hb]; rfl
        have hb2 : (xl.op != 12) = true := by simp [bne, hb]
        go_enter Tryd.func9, Tryd.ntmps9
        go_wp2_with fail
        go_ret
        exact ⟨rfl, HB1.out⟩
      | true =>
        have hb2 : (xl.op != 12) = false := by simp [bne, hb]
        have HR2 := Lib.hid (show (okAllK q && chB tb q) = R by rw [← HR.out, hb]; rfl)
        clear HR
        go_enter Tryd.func9, Tryd.ntmps9
        go_wp2_with fail
        try rw [hW1]
        clear hW1 hk1 hk2 hk3 f0
        go_loopw [4] (fun i wr => ∃ k : Nat, k ≤ n ∧ i = .int .i64 k ∧ Hid (Below W1.heap.size W1 wr) ∧ Hid (∀ (j : Nat) (x : Ins), j < k → q[j]? = some x → okK q j x = true)) (fun i _ => n - (intOf i).toNat)
        case atStart => exact ⟨0, Nat.zero_le _, rfl, Below.refl _ _, fun j x hj => absurd hj (by omega)⟩
        case round =>
          obtain ⟨k, hk, rfl, HB, HK⟩ := hrel
          have y0 : wr.cell? ⟨w.heap.size, 0, none⟩ = some (.string tb) := (HPX.out wr HB.out).cell rfl
          have y1 : wr.cell? ⟨w.heap.size, 1, none⟩ = some (.slice (some ⟨gb, off, none⟩) n cap) := (HPX.out wr HB.out).cell rfl
          by_cases c : k < n
          · have c1 : (k : Int) < (n : Int) := by omega
            obtain ⟨x, hl⟩ : ∃ l, q[k]? = some l := ⟨_, List.getElem?_eq_getElem (by rw [HN.out]; exact c)⟩
            obtain ⟨gb2, off2, e9, -, hra⟩ := RowA.at (HRO.out wr HB.out) hl
            injection e9 with e9
            injection e9 with e9 e10
            subst e9 e10
            have HLD := Lib.hid (ld_I hra)
            obtain ⟨wz, hst, hbz, hbx⟩ := put_I wr x
            have HST := Lib.hid hst
            have HBZ := Lib.hid (btr HB.out hbz HB.out.size)
            have HXZ := Lib.hid hbx
            obtain ⟨f0, -, -, -, -, -, -⟩ := n14 hbx
            have HLX := Lib.hid (ld_I (b := wr.heap.size) (o := 0) (x := x) fun j v hj => by rw [Nat.zero_add]; exact hbx.cell (by simpa using hj))
            have HNO2 := Lib.hid (fun hk => HNO.out k x hl hk)
            have HKN := Lib.hid (show okK q k x = true → ∀ (j : Nat) (y : Ins), j < k + 1 → q[j]? = some y → okK q j y = true from fun ho j y hj hy => by
              by_cases e : j = k
              · subst e
                rw [hl] at hy
                injection hy with hy
                rw [← hy]; exact ho
              · exact HK.out j y (by omega) hy)
            have HR1 := Lib.hid (HRT.out wz x)
            have HMEM := Lib.hid (List.mem_of_getElem? hl)
            have HRDX := Lib.hid (fun (V : World) (hV : Below W1.heap.size W1 V) => HRD.out V hV x HMEM.out)
            obtain ⟨rt, hrt⟩ : ∃ rt, rtB q.length x = rt := ⟨_, rfl⟩
            rw [hrt] at HR1
            rw [HN.out] at HR1
            obtain ⟨rd, hrd⟩ : ∃ rd, rdR q x = rd := ⟨_, rfl⟩
            rw [hrd] at HRDX
            obtain ⟨lk, hlk⟩ : ∃ lk, lkP q k x = lk := ⟨_, rfl⟩
            have HOK := Lib.hid (show okK q k x = (rt && lk && rd) by unfold okK; rw [hrt, hrd, hlk])
            have HLK := Lib.hid hlk
            obtain ⟨X, hX⟩ : ∃ X, x.val = X := ⟨_, rfl⟩
            rw [hX] at HST HLD HLX HR1 HRDX
            have HX9 := Lib.hid hX
            have HL := Lib.hid hl
            clear hl hra hX hst hbz hbx hrt hrd hlk HNO HRD HRT
            go_wp2_with (first | (refine wpLd rfl _ rfl rfl HLD.out ?_; clear HLD) | (refine wpSt rfl _ _ rfl rfl rfl HST.out ?_; clear HST) | (refine wpLd rfl _ rfl rfl HLX.out ?_))
            refine HR1.out.mono ?_
            rintro e w5 ⟨rfl, hb5⟩
            have HB5 := Lib.hid (btr HBZ.out hb5 HBZ.out.size)
            have HX5 := Lib.hid (HXZ.out.below hb5)
            have g0 : w5.cell? ⟨wr.heap.size, 0, none⟩ = some (.int .i64 x.op) := HX5.out.cell rfl
            have HLX5 := Lib.hid (ld_I (b := wr.heap.size) (o := 0) (x := x) fun j v hj => by rw [Nat.zero_add]; exact HX5.out.cell (by simpa using hj))
            rw [HX9.out] at HLX5
            have g1 : w5.cell? ⟨w.heap.size, 0, none⟩ = some (.string tb) := (HPX.out w5 HB5.out).cell rfl
            have g2 : w5.cell? ⟨w.heap.size, 1, none⟩ = some (.slice (some ⟨gb, off, none⟩) n cap) := (HPX.out w5 HB5.out).cell rfl
            have k2 : (k : Int) ≤ 4096 := by omega
            clear hb5 HLX HR1
            cases rt with
            | false =>
              have HFN := Lib.hid (show R = false from HNO2.out (by rw [HOK.out]; rfl))
              have HWF := Lib.hid (btr HB1.out HB5.out HB1.out.size)
              go_wp2_with fail
              go_ret
              exact ⟨by rw [HFN.out]; rfl, HWF.out⟩
            | true =>
              cases c3 : x.op == 1 with
              | false =>
                obtain rfl : lk = true := by rw [← HLK.out]; unfold lkP; rw [c3]; rfl
                go_wp2_with (first | (refine wpLd rfl _ rfl rfl HLX5.out ?_; clear HLX5))
                refine (HRDX.out w5 HB5.out).mono ?_
                rintro e w6 ⟨rfl, hb6⟩
                have HB6 := Lib.hid (btr HB5.out hb6 HB5.out.size)
                clear hb6
                cases rd with
                | false =>
                  have HFN := Lib.hid (show R = false from HNO2.out (by rw [HOK.out, Bool.and_false]))
                  have HWF := Lib.hid (btr HB1.out HB6.out HB1.out.size)
                  go_wp2_with fail
                  go_ret
                  exact ⟨by rw [HFN.out]; rfl, HWF.out⟩
                | true =>
                  have HK2 := Lib.hid (HKN.out (by rw [HOK.out]; rfl))
                  go_wp2_with fail
                  go_roundw
                  case rel => exact ⟨k + 1, by omega, by go_num, HB6, HK2⟩
                  case measure => simp [intOf]; omega
              | true =>
                by_cases c4 : 0 < k
                case neg =>
                  obtain rfl : k = 0 := by omega
                  obtain rfl : lk = true := by rw [← HLK.out]; unfold lkP; simp
                  go_wp2_with (first | (refine wpLd rfl _ rfl rfl HLX5.out ?_; clear HLX5))
                  refine (HRDX.out w5 HB5.out).mono ?_
                  rintro e w6 ⟨rfl, hb6⟩
                  have HB6 := Lib.hid (btr HB5.out hb6 HB5.out.size)
                  clear hb6
                  cases rd with
                  | false =>
                    have HFN := Lib.hid (show R = false from HNO2.out (by rw [HOK.out, Bool.and_false]))
                    have HWF := Lib.hid (btr HB1.out HB6.out HB1.out.size)
                    go_wp2_with fail
                    go_ret
                    exact ⟨by rw [HFN.out]; rfl, HWF.out⟩
                  | true =>
                    have HK2 := Lib.hid (HKN.out (by rw [HOK.out]; rfl))
                    go_wp2_with fail
                    go_roundw
                    case rel => exact ⟨0 + 1, by omega, by go_num, HB6, HK2⟩
                    case measure => simp [intOf]; omega
                case pos =>
                  have c5 : (0 : Int) < (k : Int) := by omega
                  obtain ⟨y, hy⟩ : ∃ y, q[k - 1]? = some y := ⟨_, List.getElem?_eq_getElem (by rw [HN.out]; omega)⟩
                  have hlk : (y.op == 1) = lk := by rw [← HLK.out]; unfold lkP; rw [c3, hy]; simp [c4]
                  obtain ⟨gb2, off2, e9, -, hra⟩ := RowA.at (HRO.out w5 HB5.out) hy
                  injection e9 with e9
                  injection e9 with e9 e10
                  subst e9 e10
                  have p0 := (rng_cells hra).1
                  have hk1 : ((k : Int) - 1).toNat = k - 1 := by omega
                  have hk2 : (0 : Int) ≤ (k : Int) - 1 := by omega
                  have hk3 : (k : Int) - 1 < (n : Int) := by omega
                  clear hra hy
                  cases lk with
                  | false =>
                    have hl2 : (y.op != 1) = true := by simp [bne, hlk]
                    have HFN := Lib.hid (show R = false from HNO2.out (by rw [HOK.out]; rfl))
                    have HWF := Lib.hid (btr HB1.out HB5.out HB1.out.size)
                    go_wp2_with fail
                    go_ret
                    exact ⟨by rw [HFN.out]; rfl, HWF.out⟩
                  | true =>
                    have hl2 : (y.op != 1) = false := by simp [bne, hlk]
                    go_wp2_with (first | (refine wpLd rfl _ rfl rfl HLX5.out ?_; clear HLX5))
                    refine (HRDX.out w5 HB5.out).mono ?_
                    rintro e w6 ⟨rfl, hb6⟩
                    have HB6 := Lib.hid (btr HB5.out hb6 HB5.out.size)
                    clear hb6
                    cases rd with
                    | false =>
                      have HFN := Lib.hid (show R = false from HNO2.out (by rw [HOK.out, Bool.and_false]))
                      have HWF := Lib.hid (btr HB1.out HB6.out HB1.out.size)
                      go_wp2_with fail
                      go_ret
                      exact ⟨by rw [HFN.out]; rfl, HWF.out⟩
                    | true =>
                      have HK2 := Lib.hid (HKN.out (by rw [HOK.out]; rfl))
                      go_wp2_with fail
                      go_roundw
                      case rel => exact ⟨k + 1, by omega, by go_num, HB6, HK2⟩
                      case measure => simp [intOf]; omega
          · obtain rfl : k = n := by omega
            have cf : decide ((k : Int) < (k : Int)) = false := by simp
            have HOA := Lib.hid (show okAllK q = true from okK_yes fun j x hj hx => HK.out j x (by rw [← HN.out]; exact hj) hx)
            have HC := Lib.hid (HCH.out wr HB.out)
            have HR3 := Lib.hid (show chB tb q = R by rw [← HR2.out, HOA.out]; rfl)
            rw [HR3.out] at HC
            go_wp2_with fail
            refine HC.out.mono ?_
            rintro e w5 ⟨rfl, hb5⟩
            have HW5 := Lib.hid (btr HB1.out (btr HB.out hb5 HB.out.size) HB1.out.size)
            clear hb5
            cases R with
            | false =>
              go_wp2_with fail
              go_ret
              exact ⟨rfl, HW5.out⟩
            | true =>
              go_wp2_with fail
              go_ret
              exact ⟨rfl, HW5.out⟩

end Go.Proofs.YtgndbhgpdcelpaaDoor
