/-
  A condition taken apart (norm's Conjuncts), over the translation (layer 18).
  Conditions: the condition lies in memory, and is not greater than 4194304.
-/
import Derived.Test.YtccjeclncmogiaaNo10
namespace Go.Proofs.Ytccjeclncmogiaa
open Go.RowKit Go.Joins Go.ChangeShapes Go.WideShapes
set_option linter.unusedVariables false
set_option linter.unusedSimpArgs false

theorem apc_q : ∀ N : Nat, ApcQ N
  | 0 => fun K B w v l x h => absurd h (by omega)
  | N + 1 => fun K B w v l x h hs hl hB hm hK => by
    obtain ⟨op, ty, a, cap, args, vk, vn, vs, tab, col⟩ := x
    have hd := dep_arg h
    by_cases hc : op = 17 ∧ args.length = 2
    · obtain ⟨rfl, h2⟩ := hc
      match args, h2, hs, hm, hd with
      | [x, y], _, hs, hm, hd => exact apc_two (apc_q N) ty a cap x y vk vn vs tab col (hd x (by simp)) (hd y (by simp)) hs hl hB hm hK
    · exact apc_one op ty a cap args vk vn vs tab col (by
        by_cases h1 : op = 17
        · exact .inr fun h2 => hc ⟨h1, h2⟩
        · exact .inl h1) hs hl hB hm
set_option maxRecDepth 100000 in
set_option maxHeartbeats 2000000 in
/-- a condition taken apart -/
theorem conj_any {K : Bl} {w : World} (x : XC) (hs : szC x.er ≤ 4194304) (hm : XC.Mem K w x) :
    Calls Try.prog 6 #[x.val] w fun e w' => ∃ v' l', e = .returned v' ∧ LsC (w.heap.size + 1) w' v' l' ∧ l'.map XC.er = conj x.er ∧ Below w.heap.size w w' ∧ l'.length ≤ szC x.er := by
  generalize hP : (fun (e : Ending) (w' : World) => ∃ v' l', e = .returned v' ∧ LsC (w.heap.size + 1) w' v' l' ∧ l'.map XC.er = conj x.er ∧ Below w.heap.size w w' ∧ l'.length ≤ szC x.er) = P
  have HP := Lib.hid hP
  have HA := Lib.hid (fun (wa : World) (hb : Below w.heap.size w wa) (hw : w.heap.size + 1 ≤ wa.heap.size) => apc_q _ _ (w.heap.size + 1) wa (.slice none 0 0) [] x (Nat.lt_succ_self _) (by simpa using hs) (LsC.nil _ _) hw ((XC.Mem.old x hm).below hb) (fun k hk => Nat.lt_succ_of_lt hk.2))
  obtain ⟨op, ty, a, cap, args, vk, vn, vs, tab, col⟩ := x
  obtain ⟨n, hn⟩ : ∃ n, args.length = n := ⟨_, rfl⟩
  simp only [XC.val] at HA ⊢
  rw [hn] at HA ⊢
  have b1 : Below w.heap.size w (w.alloc (.cells (cel op ty (.slice a n cap) vk vn vs tab col) 26)) := (Below.refl _ _).alloc (Nat.le_refl _) _
  have hn1 := Bx.new w (cel op ty (.slice a n cap) vk vn vs tab col) 26
  obtain ⟨wa, hwa⟩ : ∃ wa, w.alloc (.cells (cel op ty (.slice a n cap) vk vn vs tab col) 26) = wa := ⟨_, rfl⟩
  rw [hwa] at b1 hn1
  have HC := Lib.hid (HA.out wa b1 hn1.lt)
  have k0 : wa.cell? ⟨w.heap.size, 0, none⟩ = some (.int .i64 op) := hn1.cell rfl
  have k1 : wa.cell? ⟨w.heap.size, 1, none⟩ = some (.int .i64 ty) := hn1.cell rfl
  have k2 : wa.cell? ⟨w.heap.size, 2, none⟩ = some (.slice a n cap) := hn1.cell rfl
  have k3 : wa.cell? ⟨w.heap.size, 3, none⟩ = some (.int .i64 vk) := hn1.cell rfl
  have k4 : wa.cell? ⟨w.heap.size, 4, none⟩ = some (.int .i64 vn) := hn1.cell rfl
  have k5 : wa.cell? ⟨w.heap.size, 5, none⟩ = some (.string vs) := hn1.cell rfl
  have k6 : wa.cell? ⟨w.heap.size, 6, none⟩ = some (.int .i64 tab) := hn1.cell rfl
  have k7 : wa.cell? ⟨w.heap.size, 7, none⟩ = some (.int .i64 col) := hn1.cell rfl
  have HB := Lib.hid b1
  clear hP hs hm HA b1 hn1 hn
  go_enter Try.func6, Try.ntmps6
  go_wp2_with fail
  try go_at_call 19
  refine HC.out.mono ?_
  rintro e w3 ⟨v3, l3, rfl, hl3, he3, f3, n3, c3⟩
  have HF := Lib.hid (show P (.returned v3) w3 by
    rw [← HP.out]
    exact ⟨v3, l3, rfl, by simpa using hl3, he3, HB.out.trans ((f3.mono (F1 := fun _ => False) (fun k hk => by simp [Value.ownBlock] at hk)).nothing.mono HB.out.size), c3⟩)
  clear hl3 he3 f3 n3 c3
  go_wp2_with fail
  exact HF.out

end Go.Proofs.Ytccjeclncmogiaa
