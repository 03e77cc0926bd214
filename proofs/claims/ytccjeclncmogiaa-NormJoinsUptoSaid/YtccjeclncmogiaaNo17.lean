/-
  How a condition bounds a column (norm's Bound), over the translation (layer 18).
  Conditions: the condition lies in memory, and is not greater than 4194304.
-/
import Derived.Test.YtccjeclncmogiaaNo16
namespace Go.Proofs.Ytccjeclncmogiaa
open Go.RowKit Go.Joins Go.ChangeShapes Go.WideShapes
set_option linter.unusedVariables false
set_option linter.unusedSimpArgs false

abbrev zr10 : Array Value := #[.int .i64 0, .int .i64 0, .int .i64 0, .int .i64 0, .slice none 0 0, .int .i64 0, .int .i64 0, .string ⟨#[]⟩, .int .i64 0, .int .i64 0]
/-- the cells of a range -/
def XC.rng (c op : Int) : XC → Array Value
  | .mk op1 ty a cap args vk vn vs tab col => #[.int .i64 c, .int .i64 op, .int .i64 op1, .int .i64 ty, .slice a args.length cap, .int .i64 vk, .int .i64 vn, .string vs, .int .i64 tab, .int .i64 col]
/-- how it ends: the range r is what bnd tells -/
def BnE (K : World → XC → Prop) (w : World) (b : Bool × Int × Int × Cd) (e : Ending) (w' : World) : Prop := ∃ y : XC, e = .returned (.tuple #[.agg (y.rng b.2.1 b.2.2.1), .bool b.1]) ∧ y.er = b.2.2.2 ∧ K w' y ∧ Below w.heap.size w w'
theorem turn_cases (op : Int) : turn op = 0 ∨ (op = 1 ∨ op = 3 ∨ op = 4 ∨ op = 5 ∨ op = 6) ∧ (turn op == 0) = false := by
  unfold turn
  by_cases c1 : op = 1
  · subst c1; exact .inr ⟨.inl rfl, rfl⟩
  by_cases c3 : op = 3
  · subst c3; exact .inr ⟨.inr (.inl rfl), rfl⟩
  by_cases c4 : op = 4
  · subst c4; exact .inr ⟨.inr (.inr (.inl rfl)), rfl⟩
  by_cases c5 : op = 5
  · subst c5; exact .inr ⟨.inr (.inr (.inr (.inl rfl))), rfl⟩
  by_cases c6 : op = 6
  · subst c6; exact .inr ⟨.inr (.inr (.inr (.inr rfl))), rfl⟩
  exact .inl (by simp [c1, c3, c4, c5, c6])
theorem bnd_none {op ty vk vn tab col t : Int} {vs : ByteArray} {args : List Cd} (h : turn op = 0 ∨ args.length ≠ 2) : bnd (.mk op ty args vk vn vs tab col) t = (false, 0, 0, zCd) := by
  unfold bnd
  simp only [Cd.args, Cd.op]
  match args, h with
  | [], _ => rfl
  | [a], _ => rfl
  | [a, b], h =>
    have h1 : turn op = 0 := by
      rcases h with h | h
      · exact h
      · simp at h
    simp [h1]
  | a :: b :: d :: r, _ => rfl
theorem zC_er : XC.er (.mk 0 0 none 0 [] 0 0 ⟨#[]⟩ 0 0) = zCd := by rw [XC.er, XC.erL]; rfl
theorem infoRg : (Try.prog.info? 30).map (·.size) = some 10 := by kernel_rfl
theorem XC.rng_len (c op : Int) (x : XC) : (x.rng c op).size = 10 := by cases x; rfl
theorem XC.rng_one (c op : Int) (x : XC) : ∀ u ∈ (x.rng c op).toList, u.oneCell' = true := by
  cases x
  intro u hu
  unfold XC.rng at hu
  simp only [List.mem_cons, List.not_mem_nil, or_false] at hu
  rcases hu with rfl | rfl | rfl | rfl | rfl | rfl | rfl | rfl | rfl | rfl <;> rfl
/-- a range stored into its box -/
theorem st_R {w : World} {g : Nat} {u0 u1 u2 u3 u4 u5 u6 u7 u8 u9 : Value} (hb : Bx w g #[u0, u1, u2, u3, u4, u5, u6, u7, u8, u9] 30) (c op : Int) (x : XC) : ∃ wz, (Instr.storeAt 30 (.pointer (some ⟨g, 0, none⟩)) (.agg (x.rng c op))).run Try.prog w = .ok () wz ∧ Frm (fun k => k = g) w wz ∧ Bx wz g (x.rng c op) 30 := by
  have hl := XC.rng_len c op x
  have h1 := XC.rng_one c op x
  generalize x.rng c op = r at hl h1 ⊢
  refine ⟨_, run_storeAt_mid (P := Try.prog) w g 0 30 r (fun j hj => ?_) (by rw [infoRg, hl]) (by simpa using all_oneCell_toArray h1), ?_, ?_⟩
  · rw [Nat.zero_add]
    exact ⟨by rw [cell_of_block hb, Array.getElem?_eq_getElem (by rw [hl] at hj; exact hj)]; rfl, hb.frz j⟩
  · exact setc_frm (F := fun k => k = g) (.inl rfl) _ _ (Frm.refl _ _)
  · have := setc_all hb r.toList (by simp [hl])
    simpa using this
set_option maxRecDepth 100000 in
set_option maxHeartbeats 4000000 in
theorem bound_none {K : World → XC → Prop} (hK : ∀ w', K w' (.mk 0 0 none 0 [] 0 0 ⟨#[]⟩ 0 0)) {w : World} (op ty : Int) (a : Option Addr) (n cap : Nat) (vk vn : Int) (vs : ByteArray) (tab col t : Int) (hc : turn op = 0 ∨ n ≠ 2) :
    Calls Try.prog 8 #[.agg (cel op ty (.slice a n cap) vk vn vs tab col), .int .i64 t] w (BnE K w (false, 0, 0, zCd)) := by
  generalize hP : BnE K w (false, 0, 0, zCd) = P
  have HP := Lib.hid hP
  have b1 : Below w.heap.size w (w.alloc (.cells (cel op ty (.slice a n cap) vk vn vs tab col) 26)) := (Below.refl _ _).alloc (Nat.le_refl _) _
  have hx1 := Bx.new w (cel op ty (.slice a n cap) vk vn vs tab col) 26
  obtain ⟨wa, hwa⟩ : ∃ wa, w.alloc (.cells (cel op ty (.slice a n cap) vk vn vs tab col) 26) = wa := ⟨_, rfl⟩
  rw [hwa] at b1 hx1
  have hx2 := Bx.new wa #[.int .i64 0, .int .i64 0, .int .i64 0, .int .i64 0, .slice none 0 0, .int .i64 0, .int .i64 0, .string ⟨#[]⟩, .int .i64 0, .int .i64 0] 30
  have b2 : Below wa.heap.size wa (wa.alloc (.cells #[.int .i64 0, .int .i64 0, .int .i64 0, .int .i64 0, .slice none 0 0, .int .i64 0, .int .i64 0, .string ⟨#[]⟩, .int .i64 0, .int .i64 0] 30)) := (Below.refl _ _).alloc (Nat.le_refl _) _
  obtain ⟨wb, hwb⟩ : ∃ wb, wa.alloc (.cells #[.int .i64 0, .int .i64 0, .int .i64 0, .int .i64 0, .slice none 0 0, .int .i64 0, .int .i64 0, .string ⟨#[]⟩, .int .i64 0, .int .i64 0] 30) = wb := ⟨_, rfl⟩
  rw [hwb] at hx2 b2
  have hx3 := hx1.below b2
  have b3 := b1.trans (b2.mono b1.size)
  have HT := Lib.hid (turned_any wb op)
  have HB3 := Lib.hid b3
  have l0 : wb.cell? ⟨w.heap.size, 0, none⟩ = some (.int .i64 op) := hx3.cell rfl
  have l2 : wb.cell? ⟨w.heap.size, 2, none⟩ = some (.slice a n cap) := hx3.cell rfl
  obtain ⟨wz, hst, fz, hbz⟩ := st_R hx2 0 0 (.mk 0 0 none 0 [] 0 0 ⟨#[]⟩ 0 0)
  simp only [XC.rng, List.length_nil] at hst hbz
  have HST := Lib.hid hst
  have HBZ := Lib.hid hbz
  have HF := Lib.hid (show P (.returned (.tuple #[.agg #[.int .i64 0, .int .i64 0, .int .i64 0, .int .i64 0, .slice none 0 0, .int .i64 0, .int .i64 0, .string ⟨#[]⟩, .int .i64 0, .int .i64 0], .bool false])) wz by
    rw [← HP.out]
    exact ⟨.mk 0 0 none 0 [] 0 0 ⟨#[]⟩ 0 0, rfl, zC_er, hK wz, HB3.out.trans ((fz.mono (F1 := fun k => w.heap.size ≤ k) (fun k hk => by have := b1.size; omega)).below (fun k hk => hk) HB3.out.size)⟩)
  have hc' : turn op = 0 ∨ ((turn op == 0) = false ∧ ((n : Int) == 2) = false) := by
    by_cases h1 : turn op = 0
    · exact .inl h1
    · refine .inr ⟨by simp [h1], ?_⟩
      rcases hc with hc | hc
      · exact absurd hc h1
      · simp; omega
  clear hP b1 hx1 hx2 b2 hx3 b3 hst hbz fz hK hc
  go_enter Try.func8, Try.ntmps8
  rcases hc' with hc' | ⟨hc', hc2⟩
  · rw [hc'] at HT
    go_wp2_with fail
    try go_at_call 20
    refine HT.out.mono ?_
    rintro e w3 ⟨rfl, rfl⟩
    go_wp2_with (refine wpSt rfl _ _ rfl rfl rfl HST.out ?_; clear HST)
    refine retB (R := P) (w := wz) (b := false) Try.results8 HBZ.out ?_ ?_ ?_ HF.out
    · rfl
    · rfl
    · rfl
  · generalize turn op = q at HT hc'
    go_wp2_with fail
    try go_at_call 20
    refine HT.out.mono ?_
    rintro e w3 ⟨rfl, rfl⟩
    go_wp2_with (refine wpSt rfl _ _ rfl rfl rfl HST.out ?_; clear HST)
    refine retB (R := P) (w := wz) (b := false) Try.results8 HBZ.out ?_ ?_ ?_ HF.out
    · rfl
    · rfl
    · rfl

end Go.Proofs.Ytccjeclncmogiaa
