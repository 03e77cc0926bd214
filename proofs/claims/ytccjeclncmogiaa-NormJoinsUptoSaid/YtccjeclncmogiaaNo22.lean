/-
  Over which sources a code goes (norm's Sources), over the translation (layer 18).
  Conditions: the code lies in memory, its numbers are of 64 bits, and it is not greater than 4194304.
-/
import Derived.Test.YtccjeclncmogiaaNo21
namespace Go.Proofs.Ytccjeclncmogiaa
open Go.RowKit Go.Joins Go.ChangeShapes Go.WideShapes
set_option linter.unusedVariables false
set_option linter.unusedSimpArgs false

theorem tabs_wf : ∀ (N : Nat) (x : XC), depC x.er < N → x.Wd → ∀ t ∈ tabs x.er, (Lit.int .i64 t).wf = true
  | 0, x, h => absurd h (by omega)
  | N + 1, .mk op ty a cap args vk vn vs tab col, h => by
    intro hw t ht
    have hd := dep_arg h
    unfold XC.Wd at hw
    rw [XC.er, tabs] at ht
    rcases List.mem_append.1 ht with ht | ht
    · split at ht
      · rw [List.mem_singleton.1 ht]; exact hw.1.2.2.2.2.1
      · cases ht
    · have hl : ∀ l : List XC, (∀ x ∈ l, depC x.er < N) → (∀ x ∈ l, x.Wd) → ∀ t ∈ tabsL (XC.erL l), (Lit.int .i64 t).wf = true := by
        intro l
        induction l with
        | nil => intro _ _ t ht; rw [XC.erL, tabsL] at ht; cases ht
        | cons a r ih =>
          intro h1 h2 t ht
          rw [XC.erL, tabsL] at ht
          rcases List.mem_append.1 ht with ht | ht
          · exact tabs_wf N a (h1 a (List.mem_cons_self ..)) (h2 a (List.mem_cons_self ..)) t ht
          · exact ih (fun x hx => h1 x (List.mem_cons_of_mem _ hx)) (fun x hx => h2 x (List.mem_cons_of_mem _ hx)) t ht
      exact hl args hd (XC.wdL_iff.1 hw.2) t ht
set_option maxRecDepth 100000 in
set_option maxHeartbeats 4000000 in
theorem sources_any {K : Bl} {w : World} (x : XC) (hs : szC x.er ≤ 4194304) (hw : x.Wd) (hm : XC.Mem K w x) (hK : ∀ k, K k → k < w.heap.size) :
    Calls Try.prog 12 #[x.val] w fun e w' => ∃ v l, e = .returned v ∧ QI w' w.heap.size v l ∧ l.Pairwise (fun a b => a < b) ∧ (∀ t, t ∈ l ↔ t ∈ tabs x.er) ∧ Below w.heap.size w w' := by
  have htl := tabs_len _ x.er (Nat.lt_succ_self _)
  have hwf := tabs_wf _ x (Nat.lt_succ_self _) hw
  have HM := Lib.hid (fun (wv : World) (b : Nat) (hb : Below w.heap.size w wv) (hS : SetN wv b (fun _ => False) 0) (hn : w.heap.size ≤ b) => meet_q _ K wv x b 0 (fun _ => False) (Nat.lt_succ_self _) hS (hm.below hb) (fun k hk e => by have := hK k hk; omega))
  obtain ⟨T, hT⟩ : ∃ T, tabs x.er = T := ⟨_, rfl⟩
  rw [hT] at htl hwf HM ⊢
  generalize hP : (fun (e : Ending) (w' : World) => ∃ v l, e = .returned v ∧ QI w' w.heap.size v l ∧ l.Pairwise (fun a b => a < b) ∧ (∀ t, t ∈ l ↔ t ∈ T) ∧ Below w.heap.size w w') = P
  have HP := Lib.hid hP
  have HT := Lib.hid (And.intro htl (And.intro hs hwf))
  obtain ⟨op, ty, a, cap, args, vk, vn, vs, tab, col⟩ := x
  obtain ⟨n, hn⟩ : ∃ n, args.length = n := ⟨_, rfl⟩
  simp only [XC.val] at HM ⊢
  rw [hn] at HM ⊢
  have b1 : Below w.heap.size w (w.alloc (.cells (cel op ty (.slice a n cap) vk vn vs tab col) 26)) := (Below.refl _ _).alloc (Nat.le_refl _) _
  have hn1 := Bx.new w (cel op ty (.slice a n cap) vk vn vs tab col) 26
  obtain ⟨wa, hwa⟩ : ∃ wa, w.alloc (.cells (cel op ty (.slice a n cap) vk vn vs tab col) 26) = wa := ⟨_, rfl⟩
  rw [hwa] at b1 hn1
  have b2 : Below wa.heap.size wa (wa.alloc (.map #[] 0)) := (Below.refl _ _).alloc (Nat.le_refl _) _
  have hS := setn_made wa wa.heap.size rfl
  obtain ⟨wb, hwb⟩ : ∃ wb, wa.alloc (.map #[] 0) = wb := ⟨_, rfl⟩
  rw [hwb] at b2 hS
  have hmk : (Instr.makeMap 48 none).run Try.prog wa = .ok (.map (some wa.heap.size)) wb := by rw [← hwb]; rfl
  have hn3 := hn1.below b2
  have b3 := b1.trans (b2.mono b1.size)
  have HC := Lib.hid (HM.out wb wa.heap.size b3 hS b1.size)
  have HB3 := Lib.hid (And.intro b3 b1.size)
  have k0 : wb.cell? ⟨w.heap.size, 0, none⟩ = some (.int .i64 op) := hn3.cell rfl
  have k1 : wb.cell? ⟨w.heap.size, 1, none⟩ = some (.int .i64 ty) := hn3.cell rfl
  have k2 : wb.cell? ⟨w.heap.size, 2, none⟩ = some (.slice a n cap) := hn3.cell rfl
  have k3 : wb.cell? ⟨w.heap.size, 3, none⟩ = some (.int .i64 vk) := hn3.cell rfl
  have k4 : wb.cell? ⟨w.heap.size, 4, none⟩ = some (.int .i64 vn) := hn3.cell rfl
  have k5 : wb.cell? ⟨w.heap.size, 5, none⟩ = some (.string vs) := hn3.cell rfl
  have k6 : wb.cell? ⟨w.heap.size, 6, none⟩ = some (.int .i64 tab) := hn3.cell rfl
  have k7 : wb.cell? ⟨w.heap.size, 7, none⟩ = some (.int .i64 col) := hn3.cell rfl
  clear hP b1 hn1 b2 hS hn3 b3 hm hK HM hn htl hwf hs hw hT
  go_enter Try.func12, Try.ntmps12
  go_wp2_with fail
  try go_at_call 24
  refine HC.out.mono ?_
  rintro e w3 ⟨rfl, hs3, f3⟩
  obtain ⟨f, nn, hM, hf, hnn⟩ := hs3
  have hb3 : Below w.heap.size w w3 := HB3.out.1.trans ((f3.mono (F1 := fun k => w.heap.size ≤ k) (fun k hk => by have := HB3.out.2; omega)).below (fun k hk => hk) HB3.out.1.size)
  have HK := Lib.hid (keysM_any (some wa.heap.size) w3)
  have HMM := Lib.hid (And.intro hM (And.intro hf (And.intro hnn hb3)))
  clear hM hf hnn f3 hb3
  go_wp2_with fail
  try go_at_call 26
  refine HK.out.mono ?_
  rintro e w4 ⟨rfl, rfl⟩
  have HSO := Lib.hid (sortedM_any w3 _ wa.heap.size nn f HMM.out.1 (fun y v hy => HT.out.2.2 y (by have := (HMM.out.2.1 y).1 (by rw [hy]; rfl); simpa using this)) (by have h1 := HMM.out.2.2.1; have h2 := HT.out.1; have h3 := HT.out.2.1; omega) w3.heap.size rfl rfl)
  go_wp2_with fail
  try go_at_call 25
  refine HSO.out.mono ?_
  rintro e w5 ⟨v, l, rfl, hl, hmem, hq, hb5⟩
  have HF := Lib.hid (show P (.returned v) w5 by
    rw [← HP.out]
    have hb4 : Below w3.heap.size w3 (w3.alloc (.cells #[.map (some wa.heap.size)] 48)) := (Below.refl _ _).alloc (Nat.le_refl _) _
    have hb := HMM.out.2.2.2
    refine ⟨v, l, rfl, hq.le (Nat.le_trans hb.size hb4.size), hl, fun t => by rw [hmem, HMM.out.2.1]; simp, hb.trans ((hb4.trans (hb5.mono hb4.size)).mono hb.size)⟩)
  clear hl hmem hq hb5
  go_wp2_with fail
  exact HF.out

end Go.Proofs.Ytccjeclncmogiaa
