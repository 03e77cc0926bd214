/-
  The two regions of norm's Bound that hand out a range, over any frame (layer 18).
  Conditions: none.
-/
import Derived.Test.YtccjeclncmogiaaNo17
import Derived.Deep.RegionLaw
import Derived.Deep.RegionHeld3
namespace Go.Proofs.Ytccjeclncmogiaa
open Go.RowKit Go.Joins Go.ChangeShapes Go.WideShapes
set_option linter.unusedVariables false
set_option linter.unusedSimpArgs false

section
variable {P : Program} {ops : Array Oper} {Q : Exit → Act → World → Prop}
theorem wpOp_K {i : Nat} {o : Oper} {a : Act} {w : World} {S : World → Prop} {L : Act → World → Prop} (hi : ops[i]? = some o) (hgd : o.guard = none)
    (h : ∀ K : Act → World → Prop, Hid (∀ a' w', S w' → L a' w' → K a' w') → o.wp P a w K Q) : wpOp P ops Q i (fun a' w' => S w' ∧ L a' w') a w := by
  have hw : Region.wanted o (yielded ops a.tmps) = true := by simp [Region.wanted, hgd]
  unfold wpOp
  rw [hi]
  simp only [hw, if_true]
  exact .inl (h _ (Lib.hid fun a' w' h1 h2 => ⟨h1, h2⟩))
end
theorem op_Sr {o : Oper} {a : Act} {w : World} {K : Act → World → Prop} {Q : Exit → Act → World → Prop} (p v : Operand) (ho : o.op = .store 30 p v) {g : Nat} {u0 u1 u2 u3 u4 u5 u6 u7 u8 u9 : Value} {c op : Int} {x : XC} (hb : Bx w g #[u0, u1, u2, u3, u4, u5, u6, u7, u8, u9] 30) (hp : a.eval p = .pointer (some ⟨g, 0, none⟩)) (hv : a.eval v = .agg (x.rng c op))
    (h : ∀ wz, Frm (fun k => k = g) w wz → Bx wz g (x.rng c op) 30 → K (a.put o.dst undef) wz) : Oper.wp Try.prog o a w K Q := by
  obtain ⟨wz, hst, hf, hz⟩ := st_R hb c op x
  unfold Oper.wp execOp
  simp only [ho, hp, hv, Sem.run_bind, Sem.run_pure, Result.andThen_ok, hst]
  exact h wz hf hz
set_option maxHeartbeats 8000000 in
set_option maxRecDepth 100000 in
theorem reg6 {v0 v1 v3 v5 v6 v9 v10 v11 v12 v13 v14 v15 v16 v17 v18 v19 v20 v21 v22 v23 v24 v25 v26 v27 v28 v29 v30 v31 v32 v33 v34 v35 v36 v37 v38 v39 v40 v41 v42 v43 v44 v45 v46 v47 v48 v49 v50 : Value} {df : List Deferred} {gc go gb g0 : Nat} {cc oo op1 ty1 vk1 vn1 tab1 col1 : Int} {a1 : Option Addr} {n1 cap1 : Nat} {vs1 : ByteArray} {w : World} {Q : Exit → Act → World → Prop} {R : XC → World → Prop} {z0 z1 z2 z3 z4 z5 z6 z7 z8 z9 : Value}
    (hgc : w.cell? ⟨gc, 7, none⟩ = some (.int .i64 cc)) (lgc : gc < w.heap.size) (ngc : gc ≠ gb) (hg0 : w.cell? ⟨g0, 0, none⟩ = some (.int .i64 oo)) (lg0 : g0 < w.heap.size) (ng0 : g0 ≠ gb) (hgo : Bx w go #[.int .i64 op1, .int .i64 ty1, .slice a1 n1 cap1, .int .i64 vk1, .int .i64 vn1, .string vs1, .int .i64 tab1, .int .i64 col1] 26) (ngo : go ≠ gb) (hz : Bx w gb #[z0, z1, z2, z3, z4, z5, z6, z7, z8, z9] 30)
    (hC : Calls Try.prog 22 #[.agg #[.int .i64 op1, .int .i64 ty1, .slice a1 n1 cap1, .int .i64 vk1, .int .i64 vn1, .string vs1, .int .i64 tab1, .int .i64 col1]] w.drew fun e w' => ∃ y : XC, e = .returned y.val ∧ R y w' ∧ Below w.heap.size w w')
    (hQ : ∀ (c : List PanicEntry) (d : Option Tmp) (v : Value) (a : Act) (w : World), Q (.panic c) (a.put d v) w → Q (.panic c) a w)
    (h : ∀ (y : XC) (w6 wz : World) (a' : Act), R y w6 → Below w.heap.size w w6 → Frm (fun k => k = gb) w6 wz → Bx wz gb (y.rng cc oo) 30 → a'.tmps[4]?.getD undef = .pointer (some ⟨gb, 0, none⟩) → a'.tmps[5]?.getD undef = .bool true → a'.defers = df → Q .normal a' wz) :
    (Code.region 6 #[{ dst := some 33, op := Op.fieldAddr 26 (.tmp 7) 5, type := 0, pos := "norm.go:46", after := #[], guard := none }, { dst := some 34, op := Op.load 3 (.tmp 33), type := 3, pos := "norm.go:46", after := #[{ on := 0, ground := .data }], guard := none }, { dst := some 35, op := Op.fieldAddr 26 (.tmp 2) 0, type := 0, pos := "norm.go:46", after := #[], guard := none }, { dst := some 36, op := Op.load 3 (.tmp 35), type := 3, pos := "norm.go:46", after := #[{ on := 2, ground := .data }], guard := none }, { dst := some 37, op := Op.load 26 (.tmp 8), type := 26, pos := "norm.go:46", after := #[], guard := none }, { dst := some 38, op := Op.call { callee := .value (.func 22), args := #[.tmp 37], argTypes := #[26] }, type := 26, pos := "norm.go:46", after := #[{ on := 4, ground := .data }], guard := none }, { dst := some 39, op := Op.build 30 #[(0, .tmp 34), (1, .tmp 36), (2, .tmp 38)], type := 30, pos := "norm.go:46", after := #[{ on := 1, ground := .data }, { on := 3, ground := .data }, { on := 5, ground := .data }], guard := none }, { dst := none, op := Op.store 30 (.tmp 4) (.tmp 39), type := 0, pos := "norm.go:46", after := #[{ on := 6, ground := .data }, { on := 5, ground := .chain }, { on := 0, ground := .phase }, { on := 1, ground := .phase }, { on := 2, ground := .phase }, { on := 3, ground := .phase }, { on := 4, ground := .phase }, { on := 5, ground := .phase }, { on := 6, ground := .phase }], guard := none }, { dst := some 5, op := Op.assign (.const (.bool true)), type := 4, pos := "norm.go:46", after := #[{ on := 7, ground := .chain }, { on := 0, ground := .phase }, { on := 1, ground := .phase }, { on := 2, ground := .phase }, { on := 3, ground := .phase }, { on := 4, ground := .phase }, { on := 5, ground := .phase }, { on := 6, ground := .phase }, { on := 7, ground := .phase }], guard := none }] true).wp Try.prog Q { tmps := #[v0, v1, .pointer (some ⟨g0, 0, none⟩), v3, .pointer (some ⟨gb, 0, none⟩), v5, v6, .pointer (some ⟨gc, 0, none⟩), .pointer (some ⟨go, 0, none⟩), v9, v10, v11, v12, v13, v14, v15, v16, v17, v18, v19, v20, v21, v22, v23, v24, v25, v26, v27, v28, v29, v30, v31, v32, v33, v34, v35, v36, v37, v38, v39, v40, v41, v42, v43, v44, v45, v46, v47, v48, v49, v50], defers := df } w := by
  have hs : ∀ v0 : World, Frm (fun k => k = gb) w v0 → (fun v0 => v0.cell? ⟨gc, 7, none⟩ = some (.int .i64 cc) ∧ v0.cell? ⟨g0, 0, none⟩ = some (.int .i64 oo) ∧ v0.cell? ⟨go, 0, none⟩ = some (.int .i64 op1) ∧ v0.cell? ⟨go, 1, none⟩ = some (.int .i64 ty1) ∧ v0.cell? ⟨go, 2, none⟩ = some (.slice a1 n1 cap1) ∧ v0.cell? ⟨go, 3, none⟩ = some (.int .i64 vk1) ∧ v0.cell? ⟨go, 4, none⟩ = some (.int .i64 vn1) ∧ v0.cell? ⟨go, 5, none⟩ = some (.string vs1) ∧ v0.cell? ⟨go, 6, none⟩ = some (.int .i64 tab1) ∧ v0.cell? ⟨go, 7, none⟩ = some (.int .i64 col1)) v0 := fun v0 f => by
    have hb := hgo.frm' f ngo
    exact ⟨(f.cell lgc ngc 7).trans hgc, (f.cell lg0 ng0 0).trans hg0, hb.cell rfl, hb.cell rfl, hb.cell rfl, hb.cell rfl, hb.cell rfl, hb.cell rfl, hb.cell rfl, hb.cell rfl⟩
  have hs0 := hs w.drew (Frm.drew (Frm.refl _ _))
  refine wp_region_held_drew (S := fun v0 => v0.cell? ⟨gc, 7, none⟩ = some (.int .i64 cc) ∧ v0.cell? ⟨g0, 0, none⟩ = some (.int .i64 oo) ∧ v0.cell? ⟨go, 0, none⟩ = some (.int .i64 op1) ∧ v0.cell? ⟨go, 1, none⟩ = some (.int .i64 ty1) ∧ v0.cell? ⟨go, 2, none⟩ = some (.slice a1 n1 cap1) ∧ v0.cell? ⟨go, 3, none⟩ = some (.int .i64 vk1) ∧ v0.cell? ⟨go, 4, none⟩ = some (.int .i64 vn1) ∧ v0.cell? ⟨go, 5, none⟩ = some (.string vs1) ∧ v0.cell? ⟨go, 6, none⟩ = some (.int .i64 tab1) ∧ v0.cell? ⟨go, 7, none⟩ = some (.int .i64 col1)) (by kernel_rfl) hs0 (fun hHeld => ?_)
  clear hs0
  refine wpAnyH_take (i := 0) (oi := { dst := some 33, op := Op.fieldAddr 26 (.tmp 7) 5, type := 0, pos := "norm.go:46", after := #[], guard := none }) (v := .pointer (some ⟨gc, 7, none⟩)) (by kernel_rfl) (by kernel_rfl) (by kernel_rfl) (by kernel_rfl) (fun c a w h => hQ c _ _ a w h) (Or.inl ⟨by rfl, (by intro w9 hSw; (try dsimp only at hSw); (try go_split_ands); go_simp)⟩) (by assumption) ?_
  simp only [Act.put, List.setIfInBounds_toArray, List.set_cons_zero, List.set_cons_succ]
  refine wpAnyH_take (i := 1) (oi := { dst := some 34, op := Op.load 3 (.tmp 33), type := 3, pos := "norm.go:46", after := #[{ on := 0, ground := .data }], guard := none }) (v := .int .i64 cc) (by kernel_rfl) (by kernel_rfl) (by kernel_rfl) (by kernel_rfl) (fun c a w h => hQ c _ _ a w h) (Or.inl ⟨by rfl, (by intro w9 hSw; (try dsimp only at hSw); (try go_split_ands); go_simp)⟩) (by assumption) ?_
  simp only [Act.put, List.setIfInBounds_toArray, List.set_cons_zero, List.set_cons_succ]
  refine wpAnyH_take (i := 2) (oi := { dst := some 35, op := Op.fieldAddr 26 (.tmp 2) 0, type := 0, pos := "norm.go:46", after := #[], guard := none }) (v := .pointer (some ⟨g0, 0, none⟩)) (by kernel_rfl) (by kernel_rfl) (by kernel_rfl) (by kernel_rfl) (fun c a w h => hQ c _ _ a w h) (Or.inl ⟨by rfl, (by intro w9 hSw; (try dsimp only at hSw); (try go_split_ands); go_simp)⟩) (by assumption) ?_
  simp only [Act.put, List.setIfInBounds_toArray, List.set_cons_zero, List.set_cons_succ]
  refine wpAnyH_take (i := 3) (oi := { dst := some 36, op := Op.load 3 (.tmp 35), type := 3, pos := "norm.go:46", after := #[{ on := 2, ground := .data }], guard := none }) (v := .int .i64 oo) (by kernel_rfl) (by kernel_rfl) (by kernel_rfl) (by kernel_rfl) (fun c a w h => hQ c _ _ a w h) (Or.inl ⟨by rfl, (by intro w9 hSw; (try dsimp only at hSw); (try go_split_ands); go_simp)⟩) (by assumption) ?_
  simp only [Act.put, List.setIfInBounds_toArray, List.set_cons_zero, List.set_cons_succ]
  refine wpAnyH_take (i := 4) (oi := { dst := some 37, op := Op.load 26 (.tmp 8), type := 26, pos := "norm.go:46", after := #[], guard := none }) (v := .agg #[.int .i64 op1, .int .i64 ty1, .slice a1 n1 cap1, .int .i64 vk1, .int .i64 vn1, .string vs1, .int .i64 tab1, .int .i64 col1]) (by kernel_rfl) (by kernel_rfl) (by kernel_rfl) (by kernel_rfl) (fun c a w h => hQ c _ _ a w h) (Or.inl ⟨by rfl, (by intro w9 hSw; (try dsimp only at hSw); (try go_split_ands); go_simp)⟩) (by assumption) ?_
  simp only [Act.put, List.setIfInBounds_toArray, List.set_cons_zero, List.set_cons_succ]
  refine wpAnyH_all (rs := [5]) (by kernel_rfl) (by simp) (fun i hi => ?_)
  obtain rfl : i = 5 := by simpa using hi
  refine wpOp_K (o := { dst := some 38, op := Op.call { callee := .value (.func 22), args := #[.tmp 37], argTypes := #[26] }, type := 26, pos := "norm.go:46", after := #[{ on := 4, ground := .data }], guard := none }) (by kernel_rfl) rfl (fun K hK => ?_)
  go_simp
  go_wp2_with (go_at_call 22; refine hC.mono ?_; rintro e w6 ⟨yc, rfl, hr, hb⟩; have HR6 := Lib.hid (And.intro hr hb); clear hr hb)
  have hb6 := HR6.out.2
  have hz6 := hz.below hb6
  refine hK.out _ _ (hs _ (Frm.of_below hb6)) ?_
  obtain ⟨op9, ty9, a9, cap9, args9, vk9, vn9, vs9, tab9, col9⟩ := yc
  try simp only [XC.val]
  try simp only [Act.put, List.setIfInBounds_toArray, List.set_cons_zero, List.set_cons_succ]
  refine wpAnyH_take (i := 6) (oi := { dst := some 39, op := Op.build 30 #[(0, .tmp 34), (1, .tmp 36), (2, .tmp 38)], type := 30, pos := "norm.go:46", after := #[{ on := 1, ground := .data }, { on := 3, ground := .data }, { on := 5, ground := .data }], guard := none }) (v := .agg #[.int .i64 cc, .int .i64 oo, .int .i64 op9, .int .i64 ty9, .slice a9 args9.length cap9, .int .i64 vk9, .int .i64 vn9, .string vs9, .int .i64 tab9, .int .i64 col9]) (by kernel_rfl) (by kernel_rfl) (by kernel_rfl) (by kernel_rfl) (fun c a w h => hQ c _ _ a w h) (Or.inl ⟨by rfl, (by intro w9 hSw; (try dsimp only at hSw); go_simp)⟩) (by exact hs _ (Frm.of_below hb6)) ?_
  try simp only [Act.put, List.setIfInBounds_toArray, List.set_cons_zero, List.set_cons_succ]
  refine wpAnyH_all (rs := [7]) (by kernel_rfl) (by simp) (fun i hi => ?_)
  obtain rfl : i = 7 := by simpa using hi
  refine wpOp_K (o := { dst := none, op := Op.store 30 (.tmp 4) (.tmp 39), type := 0, pos := "norm.go:46", after := #[{ on := 6, ground := .data }, { on := 5, ground := .chain }, { on := 0, ground := .phase }, { on := 1, ground := .phase }, { on := 2, ground := .phase }, { on := 3, ground := .phase }, { on := 4, ground := .phase }, { on := 5, ground := .phase }, { on := 6, ground := .phase }], guard := none }) (by kernel_rfl) rfl (fun K2 hK2 => ?_)
  refine op_Sr (x := .mk op9 ty9 a9 cap9 args9 vk9 vn9 vs9 tab9 col9) (c := cc) (op := oo) (.tmp 4) (.tmp 39) rfl hz6 ?_ ?_ ?_
  · rfl
  · rfl
  intro wz fz bz
  refine hK2.out _ _ (hs _ ((Frm.of_below hb6).trans fz (New.refl _ _))) ?_
  try simp only [Act.put, List.setIfInBounds_toArray, List.set_cons_zero, List.set_cons_succ]
  refine wpAnyH_take (i := 8) (oi := { dst := some 5, op := Op.assign (.const (.bool true)), type := 4, pos := "norm.go:46", after := #[{ on := 7, ground := .chain }, { on := 0, ground := .phase }, { on := 1, ground := .phase }, { on := 2, ground := .phase }, { on := 3, ground := .phase }, { on := 4, ground := .phase }, { on := 5, ground := .phase }, { on := 6, ground := .phase }, { on := 7, ground := .phase }], guard := none }) (v := .bool true) (by kernel_rfl) (by kernel_rfl) (by kernel_rfl) (by kernel_rfl) (fun c a w h => hQ c _ _ a w h) (Or.inl ⟨by rfl, (by intro w9 hSw; (try dsimp only at hSw); go_simp)⟩) (by exact hs _ ((Frm.of_below hb6).trans fz (New.refl _ _))) ?_
  try simp only [Act.put, List.setIfInBounds_toArray, List.set_cons_zero, List.set_cons_succ]
  refine wpAnyH_done (by kernel_rfl) ?_ _
  exact h _ _ _ _ HR6.out.1 hb6 fz bz rfl rfl rfl
set_option maxHeartbeats 8000000 in
set_option maxRecDepth 100000 in
theorem reg8 {v0 v1 v2 v3 v5 v9 v10 v11 v12 v13 v14 v15 v16 v17 v18 v19 v20 v21 v22 v23 v24 v25 v26 v27 v28 v29 v30 v31 v32 v33 v34 v35 v36 v37 v38 v39 v40 v41 v42 v43 v44 v45 v46 v47 v48 v49 v50 : Value} {df : List Deferred} {gc go gb : Nat} {cc oo op1 ty1 vk1 vn1 tab1 col1 : Int} {a1 : Option Addr} {n1 cap1 : Nat} {vs1 : ByteArray} {w : World} {Q : Exit → Act → World → Prop} {R : XC → World → Prop} {z0 z1 z2 z3 z4 z5 z6 z7 z8 z9 : Value}
    (hgc : w.cell? ⟨gc, 7, none⟩ = some (.int .i64 cc)) (lgc : gc < w.heap.size) (ngc : gc ≠ gb) (hgo : Bx w go #[.int .i64 op1, .int .i64 ty1, .slice a1 n1 cap1, .int .i64 vk1, .int .i64 vn1, .string vs1, .int .i64 tab1, .int .i64 col1] 26) (ngo : go ≠ gb) (hz : Bx w gb #[z0, z1, z2, z3, z4, z5, z6, z7, z8, z9] 30)
    (hC : Calls Try.prog 22 #[.agg #[.int .i64 op1, .int .i64 ty1, .slice a1 n1 cap1, .int .i64 vk1, .int .i64 vn1, .string vs1, .int .i64 tab1, .int .i64 col1]] w.drew fun e w' => ∃ y : XC, e = .returned y.val ∧ R y w' ∧ Below w.heap.size w w')
    (hQ : ∀ (c : List PanicEntry) (d : Option Tmp) (v : Value) (a : Act) (w : World), Q (.panic c) (a.put d v) w → Q (.panic c) a w)
    (h : ∀ (y : XC) (w6 wz : World) (a' : Act), R y w6 → Below w.heap.size w w6 → Frm (fun k => k = gb) w6 wz → Bx wz gb (y.rng cc oo) 30 → a'.tmps[4]?.getD undef = .pointer (some ⟨gb, 0, none⟩) → a'.tmps[5]?.getD undef = .bool true → a'.defers = df → Q .normal a' wz) :
    (Code.region 8 #[{ dst := some 44, op := Op.fieldAddr 26 (.tmp 8) 5, type := 0, pos := "norm.go:49", after := #[], guard := none }, { dst := some 45, op := Op.load 3 (.tmp 44), type := 3, pos := "norm.go:49", after := #[{ on := 0, ground := .data }], guard := none }, { dst := some 46, op := Op.move (.tmp 6), type := 3, pos := "norm.go:49", after := #[], guard := none }, { dst := some 47, op := Op.load 26 (.tmp 7), type := 26, pos := "norm.go:49", after := #[], guard := none }, { dst := some 48, op := Op.call { callee := .value (.func 22), args := #[.tmp 47], argTypes := #[26] }, type := 26, pos := "norm.go:49", after := #[{ on := 3, ground := .data }], guard := none }, { dst := some 49, op := Op.build 30 #[(0, .tmp 45), (1, .tmp 46), (2, .tmp 48)], type := 30, pos := "norm.go:49", after := #[{ on := 1, ground := .data }, { on := 2, ground := .data }, { on := 4, ground := .data }], guard := none }, { dst := none, op := Op.store 30 (.tmp 4) (.tmp 49), type := 0, pos := "norm.go:49", after := #[{ on := 5, ground := .data }, { on := 4, ground := .chain }, { on := 0, ground := .phase }, { on := 1, ground := .phase }, { on := 2, ground := .phase }, { on := 3, ground := .phase }, { on := 4, ground := .phase }, { on := 5, ground := .phase }], guard := none }, { dst := some 5, op := Op.assign (.const (.bool true)), type := 4, pos := "norm.go:49", after := #[{ on := 6, ground := .chain }, { on := 0, ground := .phase }, { on := 1, ground := .phase }, { on := 2, ground := .phase }, { on := 3, ground := .phase }, { on := 4, ground := .phase }, { on := 5, ground := .phase }, { on := 6, ground := .phase }], guard := none }] true).wp Try.prog Q { tmps := #[v0, v1, v2, v3, .pointer (some ⟨gb, 0, none⟩), v5, .int .i64 oo, .pointer (some ⟨go, 0, none⟩), .pointer (some ⟨gc, 0, none⟩), v9, v10, v11, v12, v13, v14, v15, v16, v17, v18, v19, v20, v21, v22, v23, v24, v25, v26, v27, v28, v29, v30, v31, v32, v33, v34, v35, v36, v37, v38, v39, v40, v41, v42, v43, v44, v45, v46, v47, v48, v49, v50], defers := df } w := by
  have hs : ∀ v0 : World, Frm (fun k => k = gb) w v0 → (fun v0 => v0.cell? ⟨gc, 7, none⟩ = some (.int .i64 cc) ∧ v0.cell? ⟨go, 0, none⟩ = some (.int .i64 op1) ∧ v0.cell? ⟨go, 1, none⟩ = some (.int .i64 ty1) ∧ v0.cell? ⟨go, 2, none⟩ = some (.slice a1 n1 cap1) ∧ v0.cell? ⟨go, 3, none⟩ = some (.int .i64 vk1) ∧ v0.cell? ⟨go, 4, none⟩ = some (.int .i64 vn1) ∧ v0.cell? ⟨go, 5, none⟩ = some (.string vs1) ∧ v0.cell? ⟨go, 6, none⟩ = some (.int .i64 tab1) ∧ v0.cell? ⟨go, 7, none⟩ = some (.int .i64 col1)) v0 := fun v0 f => by
    have hb := hgo.frm' f ngo
    exact ⟨(f.cell lgc ngc 7).trans hgc, hb.cell rfl, hb.cell rfl, hb.cell rfl, hb.cell rfl, hb.cell rfl, hb.cell rfl, hb.cell rfl, hb.cell rfl⟩
  have hs0 := hs w.drew (Frm.drew (Frm.refl _ _))
  refine wp_region_held_drew (S := fun v0 => v0.cell? ⟨gc, 7, none⟩ = some (.int .i64 cc) ∧ v0.cell? ⟨go, 0, none⟩ = some (.int .i64 op1) ∧ v0.cell? ⟨go, 1, none⟩ = some (.int .i64 ty1) ∧ v0.cell? ⟨go, 2, none⟩ = some (.slice a1 n1 cap1) ∧ v0.cell? ⟨go, 3, none⟩ = some (.int .i64 vk1) ∧ v0.cell? ⟨go, 4, none⟩ = some (.int .i64 vn1) ∧ v0.cell? ⟨go, 5, none⟩ = some (.string vs1) ∧ v0.cell? ⟨go, 6, none⟩ = some (.int .i64 tab1) ∧ v0.cell? ⟨go, 7, none⟩ = some (.int .i64 col1)) (by kernel_rfl) hs0 (fun hHeld => ?_)
  clear hs0
  refine wpAnyH_take (i := 0) (oi := { dst := some 44, op := Op.fieldAddr 26 (.tmp 8) 5, type := 0, pos := "norm.go:49", after := #[], guard := none }) (v := .pointer (some ⟨gc, 7, none⟩)) (by kernel_rfl) (by kernel_rfl) (by kernel_rfl) (by kernel_rfl) (fun c a w h => hQ c _ _ a w h) (Or.inl ⟨by rfl, (by intro w9 hSw; (try dsimp only at hSw); (try go_split_ands); go_simp)⟩) (by assumption) ?_
  simp only [Act.put, List.setIfInBounds_toArray, List.set_cons_zero, List.set_cons_succ]
  refine wpAnyH_take (i := 1) (oi := { dst := some 45, op := Op.load 3 (.tmp 44), type := 3, pos := "norm.go:49", after := #[{ on := 0, ground := .data }], guard := none }) (v := .int .i64 cc) (by kernel_rfl) (by kernel_rfl) (by kernel_rfl) (by kernel_rfl) (fun c a w h => hQ c _ _ a w h) (Or.inl ⟨by rfl, (by intro w9 hSw; (try dsimp only at hSw); (try go_split_ands); go_simp)⟩) (by assumption) ?_
  simp only [Act.put, List.setIfInBounds_toArray, List.set_cons_zero, List.set_cons_succ]
  refine wpAnyH_take (i := 2) (oi := { dst := some 46, op := Op.move (.tmp 6), type := 3, pos := "norm.go:49", after := #[], guard := none }) (v := .int .i64 oo) (by kernel_rfl) (by kernel_rfl) (by kernel_rfl) (by kernel_rfl) (fun c a w h => hQ c _ _ a w h) (Or.inl ⟨by rfl, (by intro w9 hSw; (try dsimp only at hSw); (try go_split_ands); go_simp)⟩) (by assumption) ?_
  simp only [Act.put, List.setIfInBounds_toArray, List.set_cons_zero, List.set_cons_succ]
  refine wpAnyH_take (i := 3) (oi := { dst := some 47, op := Op.load 26 (.tmp 7), type := 26, pos := "norm.go:49", after := #[], guard := none }) (v := .agg #[.int .i64 op1, .int .i64 ty1, .slice a1 n1 cap1, .int .i64 vk1, .int .i64 vn1, .string vs1, .int .i64 tab1, .int .i64 col1]) (by kernel_rfl) (by kernel_rfl) (by kernel_rfl) (by kernel_rfl) (fun c a w h => hQ c _ _ a w h) (Or.inl ⟨by rfl, (by intro w9 hSw; (try dsimp only at hSw); (try go_split_ands); go_simp)⟩) (by assumption) ?_
  simp only [Act.put, List.setIfInBounds_toArray, List.set_cons_zero, List.set_cons_succ]
  refine wpAnyH_all (rs := [4]) (by kernel_rfl) (by simp) (fun i hi => ?_)
  obtain rfl : i = 4 := by simpa using hi
  refine wpOp_K (o := { dst := some 48, op := Op.call { callee := .value (.func 22), args := #[.tmp 47], argTypes := #[26] }, type := 26, pos := "norm.go:49", after := #[{ on := 3, ground := .data }], guard := none }) (by kernel_rfl) rfl (fun K hK => ?_)
  go_simp
  go_wp2_with (go_at_call 22; refine hC.mono ?_; rintro e w6 ⟨yc, rfl, hr, hb⟩; have HR6 := Lib.hid (And.intro hr hb); clear hr hb)
  have hb6 := HR6.out.2
  have hz6 := hz.below hb6
  refine hK.out _ _ (hs _ (Frm.of_below hb6)) ?_
  obtain ⟨op9, ty9, a9, cap9, args9, vk9, vn9, vs9, tab9, col9⟩ := yc
  try simp only [XC.val]
  try simp only [Act.put, List.setIfInBounds_toArray, List.set_cons_zero, List.set_cons_succ]
  refine wpAnyH_take (i := 5) (oi := { dst := some 49, op := Op.build 30 #[(0, .tmp 45), (1, .tmp 46), (2, .tmp 48)], type := 30, pos := "norm.go:49", after := #[{ on := 1, ground := .data }, { on := 2, ground := .data }, { on := 4, ground := .data }], guard := none }) (v := .agg #[.int .i64 cc, .int .i64 oo, .int .i64 op9, .int .i64 ty9, .slice a9 args9.length cap9, .int .i64 vk9, .int .i64 vn9, .string vs9, .int .i64 tab9, .int .i64 col9]) (by kernel_rfl) (by kernel_rfl) (by kernel_rfl) (by kernel_rfl) (fun c a w h => hQ c _ _ a w h) (Or.inl ⟨by rfl, (by intro w9 hSw; (try dsimp only at hSw); go_simp)⟩) (by exact hs _ (Frm.of_below hb6)) ?_
  try simp only [Act.put, List.setIfInBounds_toArray, List.set_cons_zero, List.set_cons_succ]
  refine wpAnyH_all (rs := [6]) (by kernel_rfl) (by simp) (fun i hi => ?_)
  obtain rfl : i = 6 := by simpa using hi
  refine wpOp_K (o := { dst := none, op := Op.store 30 (.tmp 4) (.tmp 49), type := 0, pos := "norm.go:49", after := #[{ on := 5, ground := .data }, { on := 4, ground := .chain }, { on := 0, ground := .phase }, { on := 1, ground := .phase }, { on := 2, ground := .phase }, { on := 3, ground := .phase }, { on := 4, ground := .phase }, { on := 5, ground := .phase }], guard := none }) (by kernel_rfl) rfl (fun K2 hK2 => ?_)
  refine op_Sr (x := .mk op9 ty9 a9 cap9 args9 vk9 vn9 vs9 tab9 col9) (c := cc) (op := oo) (.tmp 4) (.tmp 49) rfl hz6 ?_ ?_ ?_
  · rfl
  · rfl
  intro wz fz bz
  refine hK2.out _ _ (hs _ ((Frm.of_below hb6).trans fz (New.refl _ _))) ?_
  try simp only [Act.put, List.setIfInBounds_toArray, List.set_cons_zero, List.set_cons_succ]
  refine wpAnyH_take (i := 7) (oi := { dst := some 5, op := Op.assign (.const (.bool true)), type := 4, pos := "norm.go:49", after := #[{ on := 6, ground := .chain }, { on := 0, ground := .phase }, { on := 1, ground := .phase }, { on := 2, ground := .phase }, { on := 3, ground := .phase }, { on := 4, ground := .phase }, { on := 5, ground := .phase }, { on := 6, ground := .phase }], guard := none }) (v := .bool true) (by kernel_rfl) (by kernel_rfl) (by kernel_rfl) (by kernel_rfl) (fun c a w h => hQ c _ _ a w h) (Or.inl ⟨by rfl, (by intro w9 hSw; (try dsimp only at hSw); go_simp)⟩) (by exact hs _ ((Frm.of_below hb6).trans fz (New.refl _ _))) ?_
  try simp only [Act.put, List.setIfInBounds_toArray, List.set_cons_zero, List.set_cons_succ]
  refine wpAnyH_done (by kernel_rfl) ?_ _
  exact h _ _ _ _ HR6.out.1 hb6 fz bz rfl rfl rfl

end Go.Proofs.Ytccjeclncmogiaa
