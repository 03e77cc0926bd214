/-
  A list of codes that is made, and a condition taken apart into it (norm's appendConjuncts, Conjuncts), over the translation (layer 18).
  Conditions: the condition lies in memory, and is not greater than 4194304.
-/
import Derived.Test.YtccjeclncmogiaaNo8
namespace Go.Proofs.Ytccjeclncmogiaa
open Go.RowKit Go.Joins Go.ChangeShapes Go.WideShapes
set_option linter.unusedVariables false
set_option linter.unusedSimpArgs false

/-- a return of one slot -/
theorem retT {R : Ending → World → Prop} {fn : Func} {k : Nat} (hr : fn.results = #[.tmp k]) {a : Act} {w : World} {v : Value} (h : a.tmps[k]?.getD undef = v) (hd : a.defers = []) (hR : R (.returned v) w) : bodyPost Try.prog fn R .ret a w :=
  bodyPost_ret (v := v) (by simp [results, hr, go_sem, h]) hd hR
/-- a list of codes of the call's own, and what its codes hold -/
structure LsC (B : Nat) (w : World) (v : Value) (l : List XC) : Prop where
  own : OwR ck w B v l
  mm : ∀ x ∈ l, XC.Mem (fun k => B ≤ k ∧ v.ownBlock ≠ some k) w x
  al : ∀ x ∈ l, x.Al
theorem LsC.nil (B : Nat) (w : World) : LsC B w (.slice none 0 0) [] := ⟨OwR.nil _ _, (fun x hx => by cases hx), (fun x hx => by cases hx)⟩
theorem LsC.below {B : Nat} {w w1 : World} {v : Value} {l : List XC} (h : LsC B w v l) (hb : Below w.heap.size w w1) : LsC B w1 v l := ⟨h.own.below hb, fun x hx => (h.mm x hx).below hb, h.al⟩
theorem LsC.room {B : Nat} {w : World} {v : Value} {l : List XC} (h : LsC B w v l) (hB : B ≤ w.heap.size) (y : XC) : B ≤ (w.alloc (.cells y.encA 26)).heap.size ∧ OwR ck (w.alloc (.cells y.encA 26)) B v l ∧ ∀ j u, (ck.cells [y])[j]? = some u → (w.alloc (.cells y.encA 26)).cell? ((⟨w.heap.size, 0, none⟩ : Addr).add j) = some u :=
  ⟨Nat.le_trans hB ((Below.refl w.heap.size w).alloc (Nat.le_refl _) (.cells y.encA 26)).size, h.own.below ((Below.refl _ _).alloc (Nat.le_refl _) _), one_new ck w y y.encA (by rw [XC.encA_eq]; rfl)⟩
theorem LsC.push {B : Nat} {w w' : World} {v v' : Value} {l : List XC} {y : XC} (h : LsC B w v l) (hy : XC.Mem (fun k => B ≤ k ∧ v.ownBlock ≠ some k) w y) (ha : y.Al)
    (ho : OwR ck w' B v' (l ++ [y])) (hg : (w.alloc (.cells y.encA 26)).grownBy w' v.ownBlock) (hn : NewR (w.alloc (.cells y.encA 26)) v v') : LsC B w' v' (l ++ [y]) ∧ Frm (fun k => v.ownBlock = some k) w w' ∧ NewR w v v' := by
  have b3 : Below w.heap.size w (w.alloc (.cells y.encA 26)) := (Below.refl _ _).alloc (Nat.le_refl _) _
  have hs3 := b3.size
  have f : Frm (fun k => v.ownBlock = some k) (w.alloc (.cells y.encA 26)) w' := (Frm.refl _ _).grown hg (fun k hk => .inl hk)
  have hne : ∀ k, k < w.heap.size → v.ownBlock ≠ some k → v'.ownBlock ≠ some k := fun k hk h1 h3 => by
    rcases hn k h3 with g | g
    · exact h1 g
    · omega
  have key : ∀ x, XC.Mem (fun k => B ≤ k ∧ v.ownBlock ≠ some k) w x → XC.Mem (fun k => B ≤ k ∧ v'.ownBlock ≠ some k) w' x := fun x hx =>
    XC.Mem.mono (fun k hk => ⟨hk.1.1, hne k hk.2 hk.1.2⟩) x (XC.Mem.frm f (fun k hk e => hk.1.2 e) x ((XC.Mem.old x hx).below b3))
  refine ⟨⟨ho, fun x hx => ?_, fun x hx => ?_⟩, (Frm.of_below b3).trans f (New.refl _ _), fun k hk => ?_⟩
  · rcases List.mem_append.1 hx with hx | hx
    · exact key x (h.mm x hx)
    · rw [List.mem_singleton.1 hx]; exact key y hy
  · rcases List.mem_append.1 hx with hx | hx
    · exact h.al x hx
    · rw [List.mem_singleton.1 hx]; exact ha
  · rcases hn k hk with g | g
    · exact .inl g
    · exact .inr (by omega)
/-- appendConjuncts, for conditions less deep than N -/
def ApcQ (N : Nat) : Prop := ∀ (K : Bl) (B : Nat) (w : World) (v : Value) (l : List XC) (x : XC), depC x.er < N → l.length + szC x.er ≤ 4194304 → LsC B w v l → B ≤ w.heap.size → XC.Mem K w x → (∀ k, K k → k < B) →
    Calls Try.prog 19 #[v, x.val] w fun e w' => ∃ v' l', e = .returned v' ∧ LsC B w' v' (l ++ l') ∧ l'.map XC.er = conj x.er ∧ Frm (fun k => v.ownBlock = some k) w w' ∧ NewR w v v' ∧ l'.length ≤ szC x.er
theorem XC.at_row {K : Bl} {w : World} {a : Option Addr} {cap : Nat} {x y : XC} (h : XC.Row K w a cap [x, y]) : ∃ b o, a = some ⟨b, o, none⟩ ∧ K b ∧ b < w.heap.size ∧ (∀ j u, x.enc[j]? = some u → w.cell? ⟨b, o + j, none⟩ = some u) ∧ (∀ j u, y.enc[j]? = some u → w.cell? ⟨b, o + 8 + j, none⟩ = some u) ∧ XC.Mem K w x ∧ XC.Mem K w y := by
  obtain ⟨b, o, e1, e2, e3, e4, e5⟩ := h.at (k := 0) (x := x) rfl
  obtain ⟨b', o', d1, -, -, d4, d5⟩ := h.at (k := 1) (x := y) rfl
  rw [e1] at d1
  injection d1 with d1
  injection d1 with d1 d2
  subst d1 d2
  exact ⟨b, o, e1, e2, e3, fun j u hj => by have := e4 j u hj; rwa [Nat.zero_mul, Nat.add_zero] at this, fun j u hj => by have := d4 j u hj; rwa [Nat.one_mul] at this, e5, d5⟩
set_option maxRecDepth 100000 in
set_option maxHeartbeats 4000000 in
theorem apc_one {K : Bl} {B : Nat} {w : World} {v : Value} {l : List XC} (op ty : Int) (a : Option Addr) (cap : Nat) (args : List XC) (vk vn : Int) (vs : ByteArray) (tab col : Int) (hc : op ≠ 17 ∨ args.length ≠ 2)
    (hs : l.length + szC (XC.er (.mk op ty a cap args vk vn vs tab col)) ≤ 4194304) (hl : LsC B w v l) (hB : B ≤ w.heap.size) (hm : XC.Mem K w (.mk op ty a cap args vk vn vs tab col)) :
    Calls Try.prog 19 #[v, XC.val (.mk op ty a cap args vk vn vs tab col)] w fun e w' => ∃ v' l', e = .returned v' ∧ LsC B w' v' (l ++ l') ∧ l'.map XC.er = conj (XC.er (.mk op ty a cap args vk vn vs tab col)) ∧ Frm (fun k => v.ownBlock = some k) w w' ∧ NewR w v v' ∧ l'.length ≤ szC (XC.er (.mk op ty a cap args vk vn vs tab col)) := by
  have hconj : conj (XC.er (.mk op ty a cap args vk vn vs tab col)) = [XC.er (.mk op ty a cap args vk vn vs tab col)] := by
    rw [XC.er]
    exact conj_one (by rw [XC.erL_length]; exact hc)
  rw [hconj]
  have hsp : 1 ≤ szC (XC.er (.mk op ty a cap args vk vn vs tab col)) := by rw [XC.er, szC]; omega
  generalize hP : (fun (e : Ending) (w' : World) => ∃ v' l', e = .returned v' ∧ LsC B w' v' (l ++ l') ∧ l'.map XC.er = [XC.er (.mk op ty a cap args vk vn vs tab col)] ∧ Frm (fun k => v.ownBlock = some k) w w' ∧ NewR w v v' ∧ l'.length ≤ szC (XC.er (.mk op ty a cap args vk vn vs tab col))) = P
  have HP := Lib.hid hP
  have b1 : Below w.heap.size w (w.alloc (.cells (cel op ty (.slice a args.length cap) vk vn vs tab col) 26)) := (Below.refl _ _).alloc (Nat.le_refl _) _
  have hn1 := Bx.new w (cel op ty (.slice a args.length cap) vk vn vs tab col) 26
  obtain ⟨wa, hwa⟩ : ∃ wa, w.alloc (.cells (cel op ty (.slice a args.length cap) vk vn vs tab col) 26) = wa := ⟨_, rfl⟩
  rw [hwa] at b1 hn1
  have HLA := Lib.hid (hl.below b1)
  have HC := Lib.hid (copy_q _ K wa (.mk op ty a cap args vk vn vs tab col) (Nat.lt_succ_self _) (by omega) (hm.below b1))
  have HX := Lib.hid (And.intro hsp (And.intro hs (And.intro b1 hB)))
  have HLN := Lib.hid (show l.length + 1 ≤ 4294967297 by omega)
  have k0 : wa.cell? ⟨w.heap.size, 0, none⟩ = some (.int .i64 op) := hn1.cell rfl
  have k1 : wa.cell? ⟨w.heap.size, 1, none⟩ = some (.int .i64 ty) := hn1.cell rfl
  have k2 : wa.cell? ⟨w.heap.size, 2, none⟩ = some (.slice a args.length cap) := hn1.cell rfl
  have k3 : wa.cell? ⟨w.heap.size, 3, none⟩ = some (.int .i64 vk) := hn1.cell rfl
  have k4 : wa.cell? ⟨w.heap.size, 4, none⟩ = some (.int .i64 vn) := hn1.cell rfl
  have k5 : wa.cell? ⟨w.heap.size, 5, none⟩ = some (.string vs) := hn1.cell rfl
  have k6 : wa.cell? ⟨w.heap.size, 6, none⟩ = some (.int .i64 tab) := hn1.cell rfl
  have k7 : wa.cell? ⟨w.heap.size, 7, none⟩ = some (.int .i64 col) := hn1.cell rfl
  have hc' : ((op == 17) = false) ∨ (op = 17 ∧ ((args.length : Int) == 2) = false) := by
    by_cases h1 : op = 17
    · refine .inr ⟨h1, ?_⟩
      rcases hc with hc | hc
      · exact absurd h1 hc
      · simp; omega
    · exact .inl (by simp [h1])
  simp only [XC.val] at HC ⊢
  generalize args.length = n at *
  clear hP b1 hn1 hm hs hl hB hconj hsp hc
  go_enter Try.func19, Try.ntmps19
  rcases hc' with hc' | ⟨rfl, hc2⟩
  all_goals
    go_wp2_with (first | (go_at_call 22; refine HC.out.mono ?_; rintro e w3 ⟨y, rfl, hye, hya, hym, b3⟩; have HB3 := Lib.hid b3; have HY := Lib.hid (And.intro hye (And.intro hya hym)); have HL3 := Lib.hid (HLA.out.below b3); have hrm := HL3.out.room (Nat.le_trans HX.out.2.2.2 (Nat.le_trans HX.out.2.2.1.size HB3.out.size)) y; have HBS := Lib.hid hrm.1; have HOW := Lib.hid hrm.2.1; have HNW := Lib.hid hrm.2.2; obtain ⟨op2, ty2, a2, cap2, args2, vk2, vn2, vs2, tab2, col2⟩ := y; simp only [XC.encA] at HOW HNW HBS; clear hye hya hym b3 hrm) | (at_builtin; have hzz := HOW; clear hzz; refine OwR.wp (K := ck) rfl _ _ rfl B v l rfl HOW.out HBS.out ⟨w3.heap.size, 0, none⟩ 1 1 [.mk op2 ty2 a2 cap2 args2 vk2 vn2 vs2 tab2 col2] rfl rfl HNW.out HLN.out ?_; intro v9 w9 o9 g9 n9; have HO9 := Lib.hid (And.intro o9 (And.intro g9 n9)); clear o9 g9 n9))
    have HF := Lib.hid (show P (.returned v9) w9 by
      rw [← HP.out]
      have hbl := HX.out.2.2.1
      have hw1 : w.heap.size ≤ wa.heap.size := hbl.size
      have hv : ∀ k, v.ownBlock = some k → k < wa.heap.size := fun k hk => (HLA.out.own.lt hk).2.1
      obtain ⟨q1, q2, q3⟩ := HL3.out.push (XC.Mem.mono (fun k hk => ⟨by have := HX.out.2.2.2; omega, fun e => by have := hv k e; omega⟩) _ HY.out.2.2) HY.out.2.1 HO9.out.1 HO9.out.2.1 HO9.out.2.2
      have hb3 := hbl.trans (HB3.out.mono hbl.size)
      refine ⟨v9, _, rfl, q1, by simp [HY.out.1], (Frm.of_below (F := fun k => v.ownBlock = some k) hb3).trans q2 (New.refl _ _), fun k hk => ?_, HX.out.1⟩
      rcases q3 k hk with e | e
      · exact .inl e
      · exact .inr (Nat.le_trans hb3.size e))
    exact HF.out

end Go.Proofs.Ytccjeclncmogiaa
