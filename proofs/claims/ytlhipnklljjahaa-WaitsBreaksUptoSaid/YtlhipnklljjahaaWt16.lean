/-
  Taking out again and again one for whom none waits (peel): a contract over the translation.
  Conditions: the graph lies in memory.
-/
import Derived.Test.YtlhipnklljjahaaWt15
namespace Go.Proofs.Ytlhipnklljjahaa
open Go.RowKit Go.Joins Go.ChangeShapes Go.WideShapes
open Go.MapKept
set_option linter.unusedVariables false
set_option linter.unnecessarySimpa false
set_option linter.unusedSimpArgs false

/-- those that a range has met, and what it counted -/
structure VsI (S : Int → List Int) (f : Int → Option Value) (left : Int → Bool) (D : List Int) (A : Int → Nat) : Prop where
  nd : D.Nodup
  md : ∀ k, k ∈ D ↔ ((f k).isSome = true ∧ left k = false)
  ca : ∀ x, A x = cntS S D x
theorem VsI.start (S : Int → List Int) (f : Int → Option Value) : VsI S f (fun k => (f k).isSome) [] (fun _ => 0) := ⟨List.nodup_nil, fun k => by cases hf : (f k).isSome <;> simp, fun x => rfl⟩
theorem VsI.more {S : Int → List Int} {f : Int → Option Value} {left : Int → Bool} {D : List Int} {A A' : Int → Nat} (h : VsI S f left D A) {k : Int} {v : Value} (hl : left k = true) (hf : f k = some v) (hA : ∀ x, A' x = cntS S D x + if x ∈ S k then 1 else 0) :
    VsI S f (fun z => left z && z != k) (D ++ [k]) A' := by
  refine ⟨?_, fun z => ?_, fun x => by rw [hA, cntS_snoc]⟩
  · rw [List.nodup_append]
    refine ⟨h.nd, by simp, fun x hx y hy => ?_⟩
    simp at hy
    subst hy
    intro e
    subst e
    have := (h.md x).1 hx
    rw [hl] at this
    cases this.2
  · rw [List.mem_append, h.md]
    simp only [List.mem_singleton, Bool.and_eq_false_iff, bne_eq_false_iff_eq]
    constructor
    · rintro (⟨h1, h2⟩ | rfl)
      · exact ⟨h1, .inl h2⟩
      · exact ⟨by rw [hf]; rfl, .inr rfl⟩
    · rintro ⟨h1, h2 | h2⟩
      · exact .inl ⟨h1, h2⟩
      · exact .inr h2
/-- the first numbers of edges -/
theorem keys_le {E : List Eg} {D : List Int} (hn : D.Nodup) (hd : ∀ k ∈ D, Sx E k ≠ []) : D.length ≤ E.length := by
  have := nodup_len2 D (E.map (·.1)) hn fun k hk => by
    cases hs : Sx E k with
    | nil => exact absurd hs (hd k hk)
    | cons y r =>
      have : (k, y) ∈ E := (mem_Sx ..).1 (by rw [hs]; exact List.mem_cons_self ..)
      exact List.mem_map.2 ⟨_, this, rfl⟩
  simpa using this

/-- the memory while the graph is only read -/
structure Pm (w wx : World) (bx a r b : Nat) (f : Int → Option Value) (left : Int → Bool) (cnt : Nat) (A : Int → Nat) : Prop where
  bel : Below w.heap.size w wx
  rg : IRg wx b r f left cnt
  ct : CntM wx a A
  bxc : wx.heap[bx]? = some (.cells #[.map (some b)] 35 (0, 0))
theorem Pm.next {w wx wy : World} {bx a r b : Nat} {f : Int → Option Value} {left left' : Int → Bool} {cnt cnt' : Nat} {A : Int → Nat} (h : Pm w wx bx a r b f left cnt A) (hf : Frm (fun k => k = r) wx wy) (hr : w.heap.size ≤ r) (h1 : a ≠ r) (h2 : bx ≠ r) (hg : IRg wy b r f left' cnt') : Pm w wy bx a r b f left' cnt' A :=
  ⟨h.bel.trans (hf.below (fun k hk => by rw [hk]; exact hr) h.bel.size), hg, h.ct.step hf h1, (hf.heap (Array.getElem?_eq_some_iff.1 h.bxc).1 h2).trans h.bxc⟩
theorem Pm.put {w wx wy : World} {bx a r b : Nat} {f : Int → Option Value} {left : Int → Bool} {cnt : Nat} {A A' : Int → Nat} (h : Pm w wx bx a r b f left cnt A) (hf : Frm (fun k => k = a) wx wy) (ha : w.heap.size ≤ a) (h1 : r ≠ a) (h2 : bx ≠ a) (h3 : b ≠ a) (hc : CntM wy a A') : Pm w wy bx a r b f left cnt A' :=
  ⟨h.bel.trans (hf.below (fun k hk => by rw [hk]; exact ha) h.bel.size), h.rg.step hf h3 h1, hc, (hf.heap (Array.getElem?_eq_some_iff.1 h.bxc).1 h2).trans h.bxc⟩
theorem QR.kind {w : World} {B : Nat} {e : TypeId} {v : Value} {xs : List Value} (h : QR w B e v xs) {k : Nat} (hk : v.ownBlock = some k) : ∃ cur, w.heap[k]? = some (.cells cur e (0, 0)) := by
  rcases h with ⟨rfl, -⟩ | ⟨g, o, cap, cur, rfl, h2, h3, -⟩
  · simp [Value.ownBlock] at hk
  · simp only [Value.ownBlock, Option.some.injEq] at hk
    subst hk
    exact ⟨cur, h3⟩
theorem QI.cellN {w : World} {B g o n cap : Nat} {l : List Int} (h : QI w B (.slice (some ⟨g, o, none⟩) n cap) l) : IsN w g o l := by
  obtain ⟨h1, h2, h3⟩ := QR.cell h
  exact ⟨fun _ => h3, fun i x hx => h1 i _ (icells_at hx)⟩
theorem IRg.kinds {w : World} {b r : Nat} {f : Int → Option Value} {left : Int → Bool} {cnt : Nat} (h : IRg w b r f left cnt) : (∃ es c, w.heap[b]? = some (.map es c)) ∧ ∃ m s e c, w.heap[r]? = some (.mapIter m s e c) := by
  obtain ⟨es, clock, since, seen, c0, h1, -, -, -, h2, -⟩ := h
  exact ⟨⟨_, _, h1⟩, ⟨_, _, _, _, h2⟩⟩
theorem CntM.kind {w : World} {b : Nat} {A : Int → Nat} (h : CntM w b A) : ∃ es c, w.heap[b]? = some (.map es c) := by
  obtain ⟨f, n, ⟨es, c, h1, -⟩, -⟩ := h
  exact ⟨es, c, h1⟩
theorem ty_ig : (3 : TypeId) ≠ 35 := by decide
theorem Pm.apart {w wx : World} {bx a r b B : Nat} {f : Int → Option Value} {left : Int → Bool} {cnt : Nat} {A : Int → Nat} (h : Pm w wx bx a r b f left cnt A) {v : Value} {l : List Int} (q : QI wx B v l) {k : Nat} (hk : v.ownBlock = some k) : k ≠ b ∧ k ≠ r ∧ k ≠ a ∧ k ≠ bx := by
  obtain ⟨cur, hc⟩ := QR.kind q hk
  obtain ⟨⟨es, c, h1⟩, ⟨m, s, e, c', h2⟩⟩ := h.rg.kinds
  obtain ⟨es', c2, h3⟩ := h.ct.kind
  refine ⟨?_, ?_, ?_, ?_⟩ <;> rintro rfl
  · rw [hc] at h1; injection h1 with h1; cases h1
  · rw [hc] at h2; injection h2 with h2; cases h2
  · rw [hc] at h3; injection h3 with h3; cases h3
  · have := h.bxc; rw [hc] at this; injection this with this; injection this with e1 e2; exact ty_ig e2
theorem Pm.grown {w wx wy : World} {bx a r b : Nat} {f : Int → Option Value} {left : Int → Bool} {cnt : Nat} {A : Int → Nat} (h : Pm w wx bx a r b f left cnt A) {v : Value} {l : List Int} (q : QI wx w.heap.size v l) (hf : Frm (fun k => v.ownBlock = some k) wx wy) : Pm w wy bx a r b f left cnt A :=
  ⟨h.bel.trans (hf.below (fun k hk => (q.lt k hk).1) h.bel.size), h.rg.step hf (fun hc => (h.apart q hc).1 rfl) (fun hc => (h.apart q hc).2.1 rfl), h.ct.step hf (fun hc => (h.apart q hc).2.2.1 rfl), (hf.heap (Array.getElem?_eq_some_iff.1 h.bxc).1 (fun hc => (h.apart q hc).2.2.2 rfl)).trans h.bxc⟩
theorem Pm.below {w wx wy : World} {bx a r b : Nat} {f : Int → Option Value} {left : Int → Bool} {cnt : Nat} {A : Int → Nat} (h : Pm w wx bx a r b f left cnt A) (hb : Below wx.heap.size wx wy) : Pm w wy bx a r b f left cnt A :=
  ⟨btr h.bel hb, h.rg.step (F := fun _ => False) (Frm.of_below hb) (fun h => h) (fun h => h), h.ct.below hb, (hb.block _ (Array.getElem?_eq_some_iff.1 h.bxc).1).trans h.bxc⟩
/-- the loose ones among those met -/
structure LoI (f : Int → Option Value) (left : Int → Bool) (L : List Int) (A : Int → Nat) : Prop where
  nd : L.Nodup
  l0 : ∀ k ∈ L, A k = 0 ∧ (f k).isSome = true ∧ left k = false
  l1 : ∀ k, (f k).isSome = true → left k = false → A k = 0 → k ∈ L
theorem LoI.start (f : Int → Option Value) (A : Int → Nat) : LoI f (fun k => (f k).isSome) [] A := ⟨List.nodup_nil, fun k h => by simp at h, fun k h1 h2 => by rw [h1] at h2; cases h2⟩
theorem LoI.skip {f : Int → Option Value} {left : Int → Bool} {L : List Int} {A : Int → Nat} (h : LoI f left L A) {k : Int} (hl : left k = true) (hA : A k ≠ 0) : LoI f (fun z => left z && z != k) L A := by
  refine ⟨h.nd, fun z hz => ?_, fun z h1 h2 h3 => ?_⟩
  · obtain ⟨a, b, c⟩ := h.l0 z hz; exact ⟨a, b, by simp [c]⟩
  · simp only [Bool.and_eq_false_iff, bne_eq_false_iff_eq] at h2
    rcases h2 with h2 | rfl
    · exact h.l1 z h1 h2 h3
    · exact absurd h3 hA
theorem LoI.push {f : Int → Option Value} {left : Int → Bool} {L : List Int} {A : Int → Nat} (h : LoI f left L A) {k : Int} {v : Value} (hl : left k = true) (hf : f k = some v) (hA : A k = 0) : LoI f (fun z => left z && z != k) (L ++ [k]) A := by
  refine ⟨?_, fun z hz => ?_, fun z h1 h2 h3 => ?_⟩
  · rw [List.nodup_append]
    refine ⟨h.nd, by simp, fun x hx y hy e => ?_⟩
    simp at hy
    subst hy e
    have := (h.l0 x hx).2.2
    rw [hl] at this
    cases this
  · rcases List.mem_append.1 hz with g | g
    · obtain ⟨a, b, c⟩ := h.l0 z g; exact ⟨a, b, by simp [c]⟩
    · simp at g; subst g; exact ⟨hA, by rw [hf]; rfl, by simp⟩
  · simp only [Bool.and_eq_false_iff, bne_eq_false_iff_eq] at h2
    rcases h2 with h2 | rfl
    · exact List.mem_append.2 (.inl (h.l1 z h1 h2 h3))
    · exact List.mem_append.2 (.inr (by simp))
/-- the memory while the graph is taken apart -/
structure Pm3 (w wx : World) (B bx a b : Nat) (f : Int → Option Value) (n : Nat) (M : Int → List Int) (A : Int → Nat) (v7 : Value) (L : List Int) : Prop where
  frm : Frm (fun k => k = b) w wx
  gr : GrM B wx b f n M
  rl : ∀ x v, f x = some v → ∀ k, v.ownBlock = some k → k < w.heap.size
  ct : CntM wx a A
  bxc : wx.heap[bx]? = some (.cells #[.map (some b)] 35 (0, 0))
  lo : QI wx w.heap.size v7 L
  ab : w.heap.size ≤ bx ∧ bx < a
  bw : b < w.heap.size
theorem Pm3.apart {w wx : World} {B bx a b n : Nat} {f : Int → Option Value} {M : Int → List Int} {A : Int → Nat} {v7 : Value} {L : List Int} (h : Pm3 w wx B bx a b f n M A v7 L) {k : Nat} (hk : v7.ownBlock = some k) : k ≠ b ∧ k ≠ a ∧ k ≠ bx ∧ w.heap.size ≤ k := by
  obtain ⟨cur, hc⟩ := QR.kind h.lo hk
  obtain ⟨es', c2, h3⟩ := h.ct.kind
  refine ⟨?_, ?_, ?_, (h.lo.lt k hk).1⟩
  · have := (h.lo.lt k hk).1; have := h.bw; omega
  · rintro rfl; rw [hc] at h3; injection h3 with h3; cases h3
  · rintro rfl; have := h.bxc; rw [hc] at this; injection this with this; injection this with e1 e2; exact ty_ig e2
theorem Pm3.cut {w wx : World} {B bx a b n : Nat} {f : Int → Option Value} {M : Int → List Int} {A : Int → Nat} {ad : Option Addr} {m cap : Nat} {L : List Int} (h : Pm3 w wx B bx a b f n M A (.slice ad m cap) L) (j : Nat) (hj : j ≤ L.length) : Pm3 w wx B bx a b f n M A (.slice ad j cap) (L.take j) :=
  ⟨h.frm, h.gr, h.rl, h.ct, h.bxc, by have := QR.cut h.lo j (by rw [icells_length]; exact hj); unfold QI; rw [icells_take]; exact this, h.ab, h.bw⟩
theorem Pm3.below {w wx wy : World} {B bx a b n : Nat} {f : Int → Option Value} {M : Int → List Int} {A : Int → Nat} {v7 : Value} {L : List Int} (h : Pm3 w wx B bx a b f n M A v7 L) (hb : Below wx.heap.size wx wy) : Pm3 w wy B bx a b f n M A v7 L :=
  ⟨h.frm.step hb, h.gr.below hb, h.rl, h.ct.below hb, (hb.block _ (Array.getElem?_eq_some_iff.1 h.bxc).1).trans h.bxc, h.lo.below hb, h.ab, h.bw⟩
theorem Pm3.push {w wx wy : World} {B bx a b n : Nat} {f : Int → Option Value} {M : Int → List Int} {A : Int → Nat} {v7 v' : Value} {L L' : List Int} (h : Pm3 w wx B bx a b f n M A v7 L) (g : wx.grownBy wy v7.ownBlock) (q : QI wy w.heap.size v' L') : Pm3 w wy B bx a b f n M A v' L' := by
  have hf : Frm (fun k => v7.ownBlock = some k) wx wy := Frm.grown (F := fun k => v7.ownBlock = some k) (Frm.refl _ wx) g (fun k hk => .inl hk)
  refine ⟨h.frm.trans hf (fun k hk => .inr (h.apart hk).2.2.2), h.gr.step hf (fun hc => (h.apart hc).1 rfl) (fun x v hv k hk hc => ?_), h.rl, h.ct.step hf (fun hc => (h.apart hc).2.1 rfl), (hf.heap (Array.getElem?_eq_some_iff.1 h.bxc).1 (fun hc => (h.apart hc).2.2.1 rfl)).trans h.bxc, q, h.ab, h.bw⟩
  have := (h.apart hc).2.2.2
  have := h.rl x v hv k hk
  omega
theorem Pm3.count {w wx wy : World} {B bx a b n : Nat} {f : Int → Option Value} {M : Int → List Int} {A A' : Int → Nat} {v7 : Value} {L : List Int} (h : Pm3 w wx B bx a b f n M A v7 L) (hf : Frm (fun k => k = a) wx wy) (hc : CntM wy a A') : Pm3 w wy B bx a b f n M A' v7 L := by
  have hab := h.ab
  have hbw := h.bw
  refine ⟨h.frm.trans hf (fun k hk => .inr (by omega)), h.gr.step hf (fun e => by omega) (fun x v hv k hk e => ?_), h.rl, hc, (hf.heap (Array.getElem?_eq_some_iff.1 h.bxc).1 (fun e => by omega)).trans h.bxc, h.lo.step hf (fun k hk e => (h.apart hk).2.1 e), h.ab, h.bw⟩
  have := h.rl x v hv k hk
  omega
theorem Pm3.strike {w wx wy : World} {B bx a b n n' : Nat} {f : Int → Option Value} {M M' : Int → List Int} {A : Int → Nat} {v7 : Value} {L : List Int} (h : Pm3 w wx B bx a b f n M A v7 L) {x : Int} (hf : Frm (fun k => k = b) wx wy) (hg : GrM B wy b (fun k => if k = x then none else f k) n' M') : Pm3 w wy B bx a b (fun k => if k = x then none else f k) n' M' A v7 L := by
  have hab := h.ab
  have hbw := h.bw
  refine ⟨h.frm.trans hf (fun k hk => .inl hk), hg, fun z v hv k hk => ?_, h.ct.step hf (fun e => by omega), (hf.heap (Array.getElem?_eq_some_iff.1 h.bxc).1 (fun e => by omega)).trans h.bxc, h.lo.step hf (fun k hk e => (h.apart hk).1 e), h.ab, h.bw⟩
  split at hv
  · cases hv
  · exact h.rl z v hv k hk
def pk3N (w wx : World) (B bx a b : Nat) (S : Int → List Int) (v7 : Value) (N : Nat) : Prop := ∃ f n M A D L, Pm3 w wx B bx a b f n M A v7 L ∧ PkI S M D L A ∧ msK S D L = N ∧ N ≤ 4398046511104
theorem pk3_next {w wx wy : World} {B bx a b n : Nat} {S : Int → List Int} {f : Int → Option Value} {M : Int → List Int} {A : Int → Nat} {D L D' L' : List Int} {v7 v' : Value} (h : Pm3 w wy B bx a b f n M A v' L') (hi : PkI S M D' L' A) (hl : msK S D' L' < msK S D L) (hN : msK S D L = lst (pk3N w wx B bx a b S v7)) (hK : msK S D L ≤ 4398046511104) :
    (∃ N, pk3N w wy B bx a b S v' N) ∧ lst (pk3N w wy B bx a b S v') < lst (pk3N w wx B bx a b S v7) :=
  have hn : pk3N w wy B bx a b S v' (msK S D' L') := ⟨f, n, M, A, D', L', h, hi, rfl, by omega⟩
  ⟨⟨_, hn⟩, Nat.lt_of_le_of_lt (lst_le hn) (hN ▸ hl)⟩
/-- what is counted while one's list is gone through -/
def plusT (S : Int → List Int) (D : List Int) (l : List Int) (i : Nat) (A : Int → Nat) : Prop := ∀ x, A x = cntS S D x + if x ∈ l.take i then 1 else 0
theorem plusT.step {S : Int → List Int} {D l : List Int} {i : Nat} {A : Int → Nat} (h : plusT S D l i A) (hn : l.Nodup) {y : Int} (hy : l[i]? = some y) : plusT S D l (i + 1) (setA A y (A y + 1)) := by
  intro x
  have hnt : y ∉ l.take i := by
    intro hc
    obtain ⟨j, hj⟩ := List.getElem?_of_mem hc
    rw [List.getElem?_take] at hj
    split at hj
    · rename_i hji
      have := (List.getElem?_inj (List.getElem?_eq_some_iff.1 hj).1 hn).1 (hj.trans hy.symm)
      omega
    · cases hj
  have hT : l.take (i + 1) = l.take i ++ [y] := by rw [List.take_add_one, hy]; rfl
  rw [hT]
  unfold setA
  by_cases c : x = y
  · subst c
    rw [if_pos rfl, if_pos (by simp), h, if_neg hnt]
  · rw [if_neg c, h]
    have e : (x ∈ l.take i ++ [y]) ↔ x ∈ l.take i := by simp [c]
    simp only [e]
theorem sorted_nodup {l : List Int} (h : l.Pairwise (· < ·)) : l.Nodup := h.imp fun {a b} h e => by omega

set_option maxRecDepth 100000 in
set_option maxHeartbeats 4000000 in
theorem peel_any (w : World) (B b n : Nat) (f : Int → Option Value) (E : List Eg) (h : GrM B w b f n (Sx E)) (hB : B ≤ w.heap.size) (hm : E.length ≤ 1048576) :
    Calls Try.prog 21 #[.agg #[.map (some b)]] w fun e w' => e = .returned (.tuple #[]) ∧ ∃ f' n' M', GrM B w' b f' n' M' ∧ (0 < n' ↔ ∃ x, Rch (Sx E) x x) ∧ Frm (fun k => k = b) w w' := by
  generalize hP : (fun (e : Ending) (w' : World) => e = .returned (.tuple #[]) ∧ ∃ f' n' M', GrM B w' b f' n' M' ∧ (0 < n' ↔ ∃ x, Rch (Sx E) x x) ∧ Frm (fun k => k = b) w w') = PP
  have HP := Lib.hid hP
  have HM := Lib.hid hm
  have HBZ := Lib.hid hB
  have hfs : ∀ k, (f k).isSome = true ↔ Sx E k ≠ [] := fun k => by
    constructor
    · intro hk hc
      rw [h.no k hc] at hk
      cases hk
    · intro hc
      obtain ⟨v, hv⟩ := h.ex k hc
      rw [hv]; rfl
  have HFS := Lib.hid hfs
  obtain ⟨S, hS⟩ : ∃ S, Sx E = S := ⟨_, rfl⟩
  have HSE := Lib.hid hS
  rw [hS] at h HFS
  obtain ⟨bx, hbx⟩ : ∃ x, w.heap.size = x := ⟨_, rfl⟩
  obtain ⟨w1, hw1⟩ : ∃ x, w.alloc (.cells #[.map (some b)] 35) = x := ⟨_, rfl⟩
  have b1 : Below w.heap.size w w1 := by rw [← hw1]; exact (Below.refl _ _).alloc (Nat.le_refl _) _
  have hx1 : w1.heap[bx]? = some (.cells #[.map (some b)] 35 (0, 0)) := by rw [← hw1, ← hbx]; exact heap_alloc_new w _
  obtain ⟨a, ha⟩ : ∃ x, w1.heap.size = x := ⟨_, rfl⟩
  obtain ⟨w2, hw2⟩ : ∃ x, w1.alloc (.map #[] 0) = x := ⟨_, rfl⟩
  have b2 : Below w1.heap.size w1 w2 := by rw [← hw2]; exact (Below.refl _ _).alloc (Nat.le_refl _) _
  have hc2 : CntM w2 a (fun _ => 0) := by rw [← hw2]; exact cntm_made w1 a ha
  have hmk : (Instr.makeMap 53 none).run Try.prog w1 = .ok (.map (some a)) w2 := by rw [← hw2, ← ha]; rfl
  have hx2 : w2.heap[bx]? = some (.cells #[.map (some b)] 35 (0, 0)) := (b2.block _ (Array.getElem?_eq_some_iff.1 hx1).1).trans hx1
  have hg2 := (h.below b1).below b2
  obtain ⟨w3, hr3, hrg3, b3⟩ := hg2.mp.range (P := Try.prog) (t := 33) Try.underlying33
  obtain ⟨r1, hr1⟩ : ∃ x, w2.heap.size = x := ⟨_, rfl⟩
  rw [hr1] at hr3 hrg3
  have HX3 := Lib.hid ((b3.block _ (Array.getElem?_eq_some_iff.1 hx2).1).trans hx2)
  have HG3 := Lib.hid (hg2.below b3)
  have HC3 := Lib.hid (hc2.below b3)
  have HR3 := Lib.hid hrg3
  have HB3 := Lib.hid (btr (btr b1 b2) b3)
  have x2 : w2.cell? ⟨bx, 0, none⟩ = some (.map (some b)) := by rw [cell_of_block hx2]; rfl
  have hba : b < bx := by rw [← hbx]; exact h.mp.lt
  have hab : bx < a := by rw [← ha]; exact (Array.getElem?_eq_some_iff.1 hx1).1
  have har : a < r1 := by rw [← hr1]; exact hc2.lt
  have HWX := Lib.hid hbx
  have HGW := Lib.hid h
  have HPM := Lib.hid (show Pm w w3 bx a r1 b f (fun k => (f k).isSome) n (fun _ => 0) from ⟨HB3.out, HR3.out, HC3.out, HX3.out⟩)
  have hS2 : ∀ x, (S x).Nodup ∧ (S x).length ≤ 1048576 := fun x => by rw [← hS]; exact ⟨sorted_nodup (Sx_sorted ..), Nat.le_trans (Sx_len x E) hm⟩
  have HS2 := Lib.hid hS2
  have HKL := Lib.hid (fun (D : List Int) (h1 : D.Nodup) (h2 : ∀ k ∈ D, S k ≠ []) => show D.length ≤ 1048576 from Nat.le_trans (keys_le h1 (fun k hk => by rw [hS]; exact h2 k hk)) hm)
  clear hS2 hP hm hB hfs hS b1 hx1 b2 hc2 hx2 hg2 hrg3 b3 h HX3 HG3 HC3 HR3 HB3
  go_enter Try.func21, Try.ntmps21
  go_wp2_with fail
  go_loopw [6] (fun _ wx => ∃ (left : Int → Bool) (cnt : Nat) (A : Int → Nat) (D : List Int), Hid (Pm w wx bx a r1 b f left cnt A) ∧ Hid (VsI S f left D A)) (fun _ wx => rgLeft wx b r1)
  case atStart => exact ⟨_, _, _, [], HPM, VsI.start S f⟩
  case round =>
    obtain ⟨left, cnt, A, D, HR, HV⟩ := hrel
    clear HPM hr3 hmk x2 hw1 hw2 ha hr1 hbx
    go_wp2_with (first | (at_next; refine wp_rnext rfl _ rfl rfl HR.out.rg ?_ ?_) | go_in)
    · intro _ hl0
      have hg := HGW.out.below HR.out.bel
      obtain ⟨w5, hr5, hrg5, b5⟩ := hg.mp.range (P := Try.prog) (t := 33) Try.underlying33
      obtain ⟨r2, hr2⟩ : ∃ x, wr.heap.size = x := ⟨_, rfl⟩
      rw [hr2] at hr5 hrg5
      have x0 : wr.cell? ⟨bx, 0, none⟩ = some (.map (some b)) := by rw [cell_of_block HR.out.bxc]; rfl
      have HP5 := Lib.hid (show Pm w w5 bx a r2 b f (fun k => (f k).isSome) n A from ⟨btr HR.out.bel b5, hrg5, HR.out.ct.below b5, (b5.block _ (Array.getElem?_eq_some_iff.1 HR.out.bxc).1).trans HR.out.bxc⟩)
      have HMD := Lib.hid (show ∀ k, k ∈ D ↔ (f k).isSome = true from fun k => by rw [HV.out.md, hl0]; simp)
      have HR2 := Lib.hid (show w.heap.size ≤ r2 ∧ bx < r2 ∧ a < r2 from by rw [← hr2]; exact ⟨HR.out.bel.size, (Array.getElem?_eq_some_iff.1 HR.out.bxc).1, HR.out.ct.lt⟩)
      clear hg hrg5 b5 hl0 HR hr2
      go_wp2_with fail
      go_loopw [7] (fun v7 wx => ∃ (left : Int → Bool) (cnt : Nat) (L : List Int), Hid (Pm w wx bx a r2 b f left cnt A) ∧ Hid (QI wx w.heap.size v7 L) ∧ Hid (LoI f left L A)) (fun _ wx => rgLeft wx b r2)
      case atStart => exact ⟨_, _, [], HP5, QI.nil _ _, LoI.start f A⟩
      case round =>
        clear HP5 hr5 x0
        obtain ⟨left, cnt, L, HR, HQ, HL⟩ := hrel
        have HLL := Lib.hid (show L.length ≤ 1048576 from HKL.out L HL.out.nd (fun k hk => (HFS.out k).1 (HL.out.l0 k hk).2.1))
        go_wp2_with (first | (at_next; refine wp_rnext rfl _ rfl rfl HR.out.rg ?_ ?_) | go_in)
        · intro _ hl0
          have HPK := Lib.hid (show PkI S S D L A from ⟨HV.out.nd, fun k => by rw [HMD.out]; exact (HFS.out k).symm, fun _ _ => rfl, HV.out.ca, fun k hk => (HL.out.l0 k hk).1, fun k hk hz => HL.out.l1 k ((HMD.out k).1 hk) (hl0 k) hz, fun x hx => by
            rw [HMD.out, HFS.out]
            obtain ⟨z, hz⟩ := hx.start
            intro e; rw [e] at hz; simp at hz⟩)
          have HP3 := Lib.hid (show Pm3 w wr B bx a b f n S A u7 L from ⟨Frm.of_below HR.out.bel, HGW.out.below HR.out.bel, fun x v hv k hk => ((HGW.out.yes x v hv).lt k hk).2, HR.out.ct, HR.out.bxc, HQ.out, ⟨Nat.le_of_eq HWX.out, hab⟩, HGW.out.mp.lt⟩)
          have HK3 := Lib.hid (show msK S D L ≤ 4398046511104 by
            have h1 := wgt_le (fun x => (HS2.out x).2) D
            have h2 := HKL.out D HV.out.nd (fun k hk => (HFS.out k).1 ((HMD.out k).1 hk))
            have h3 := HLL.out
            have h4 : D.length * 1048576 ≤ 1048576 * 1048576 := Nat.mul_le_mul_right _ h2
            unfold msK
            omega)
          clear hl0 HR HQ HL HLL HMD HR2
          go_wp2_with fail
          go_loopw [7] (fun v7 wx => ∃ N, pk3N w wx B bx a b S v7 N) (fun v7 wx => lst (pk3N w wx B bx a b S v7))
          case atStart => exact ⟨_, f, n, S, A, D, L, HP3.out, HPK.out, rfl, HK3.out⟩
          case round =>
            clear HP3 HPK HK3 HV
            obtain ⟨f, n, M, A, D, L, hP3, hPK, hN, hK⟩ := lst_spec hrel
            have HE := Lib.hid (fun wy f' n' M' A' D' L' v' (h : Pm3 w wy B bx a b f' n' M' A' v' L') (hi : PkI S M' D' L' A') (hl : msK S D' L' < msK S D L) => pk3_next h hi hl hN (by rw [hN]; exact hK))
            have HK := Lib.hid (show msK S D L ≤ 4398046511104 by rw [hN]; exact hK)
            have HP3 := Lib.hid hP3
            have HPK := Lib.hid hPK
            clear hrel hN hK
            rcases Nat.eq_zero_or_pos L.length with h0 | h0
            · obtain rfl := List.eq_nil_of_length_eq_zero h0
              obtain ⟨a7, c7, e7, -⟩ := QR.form hP3.lo
              have e7' : u7 = .slice a7 0 c7 := e7
              have HF := Lib.hid (show PP (.returned (.tuple #[])) wr by
                rw [← HP.out]
                refine ⟨rfl, f, n, M, hP3.gr, ?_, hP3.frm⟩
                rw [HSE.out, ← hPK.done, hP3.gr.mp.pos]
                constructor
                · rintro ⟨k, v, hv⟩ e
                  have : k ∈ D := (hPK.md k).1 (fun hc => by rw [hP3.gr.no k hc] at hv; cases hv)
                  rw [e] at this
                  simp at this
                · intro hD
                  cases D with
                  | nil => exact absurd rfl hD
                  | cons k D =>
                    obtain ⟨v, hv⟩ := hP3.gr.ex k ((hPK.md k).2 (List.mem_cons_self ..))
                    exact ⟨k, v, hv⟩)
              subst e7'
              clear hP3 hPK e7 h0 HE
              go_wp2_with fail
              first | exact HF.out | (go_end0; exact HF.out)
            · obtain ⟨L0, at', rfl⟩ := snoc_of h0
              obtain ⟨l0, hl0⟩ : ∃ n, L0.length = n := ⟨_, rfl⟩
              have hll : (icells (L0 ++ [at'])).length = l0 + 1 := by simp [icells, hl0]
              obtain ⟨g7, o7, c7, e7, k7, m7, -, -, -, d7⟩ := QR.at hP3.lo (by rw [hll]; omega)
              have d0 := d7 l0 (.int .i64 at') (by rw [← hl0]; simp [icells])
              rw [hll] at e7 k7
              subst e7
              obtain ⟨A1, B1, O1, C1, ev, -, -, ha1, hb1⟩ := QI.isN (hP3.gr.row at')
              have hlk := hP3.gr.look at'
              rw [ev] at hlk
              have x0 : wr.cell? ⟨bx, 0, none⟩ = some (.map (some b)) := by rw [cell_of_block hP3.bxc]; rfl
              obtain ⟨m, hm⟩ : ∃ m, (M at').length = m := ⟨_, rfl⟩
              have HML := Lib.hid hm
              have HEV := Lib.hid ev
              have hcut := hP3.cut l0 (by simp [hl0])
              have e8 : (L0 ++ [at']).take l0 = L0 := by rw [← hl0]; exact snoc_cut L0 at'
              rw [e8] at hcut
              have HP4 := Lib.hid hcut
              have HPJ := Lib.hid hPK.round
              have HMA := Lib.hid (show (M at').Nodup ∧ (M at').length ≤ 1048576 by
                by_cases c : M at' = []
                · rw [c]; exact ⟨List.nodup_nil, by simp⟩
                · rw [hPK.ms at' ((hPK.md at').1 c)]; exact HS2.out at')
              have HLB := Lib.hid (show l0 ≤ 4398046511104 by have := HK.out; unfold msK at this; simp [hl0] at this; omega)
              have HL0 := Lib.hid hl0
              have HDL := Lib.hid (show D.length ≤ 1048576 from HKL.out D hPK.nd (fun k hk => by rw [← hPK.ms k hk]; exact (hPK.md k).2 hk))
              have HA1 := Lib.hid ha1
              rw [hm] at hlk
              clear hP3 hPK h0 hl0 hll d7 hm ev hcut e8 ha1 hb1
              have hlb := HLB.out
              have hm9 : (m : Int) ≤ 9223372036854775807 := by have h1 := HMA.out.2; have h2 := HML.out; omega
              go_wp2_with fail
              go_loopw [65, 7] (fun i v7 wy => ∃ (q : Nat) (A' : Int → Nat) (L' : List Int), q ≤ m ∧ i = .int .i64 q ∧ Hid (Pm3 w wy B bx a b f n M A' v7 L') ∧ Hid (PkJ S M D L0 at' q L' A')) (fun i _ _ => m - (intOf i).toNat)
              case atStart => exact ⟨0, A, L0, Nat.zero_le _, rfl, HP4, HPJ⟩
              case round =>
                clear HP4 HPJ d0 x0 hlk
                obtain ⟨q, A', L', hq, rfl, HR, HJ⟩ := hrel
                have HLP := Lib.hid (show L'.length ≤ 4398047559680 by have h1 := HJ.out.ln; have h2 := HMA.out.2; have h3 := HL0.out; have h4 := HML.out; omega)
                by_cases c : q < m
                · have c1 : (q : Int) < (m : Int) := by omega
                  obtain rfl : A1 = some ⟨B1, O1, none⟩ := by rcases HA1.out with h | h; (have := HML.out; omega); exact h
                  obtain ⟨y, hy⟩ : ∃ y, (M at')[q]? = some y := ⟨_, List.getElem?_eq_getElem (by rw [HML.out]; exact c)⟩
                  have hrow := HR.out.gr.row at'
                  rw [HEV.out] at hrow
                  have a0 := (QI.cellN hrow).c q y hy
                  obtain ⟨hpos, hs1, hs2⟩ := HJ.out.step HPK.out HMA.out.1 hy
                  have hlook := HR.out.ct.look y
                  have hle : A' y ≤ 1048577 := by
                    have h1 := HJ.out.ca y
                    have h2 := cntS_le S D y
                    have h3 := HDL.out
                    omega
                  obtain ⟨w7, hput, hc7, hf7⟩ := HR.out.ct.put y (A' y - 1)
                  obtain ⟨z, hz⟩ : ∃ z, A' y = z := ⟨_, rfl⟩
                  rw [hz] at hlook hput hc7 hle hs1 hs2 hpos
                  have w1 : IntKind.i64.wrap ((z : Int) - 1) = ((z - 1 : Nat) : Int) := by rw [IntKind.wrap_i64]; omega
                  have hlook2 := hc7.look y
                  have hse : setA A' y (z - 1) y = z - 1 := by unfold setA; rw [if_pos rfl]
                  rw [hse] at hlook2
                  have HP7 := Lib.hid (HR.out.count hf7 hc7)
                  have HS1 := Lib.hid hs1
                  have HS2' := Lib.hid hs2
                  obtain ⟨zz, hzz⟩ : ∃ x, z - 1 = x := ⟨_, rfl⟩
                  rw [hzz] at hput hlook2 w1 HS1 HS2' HP7
                  clear hc7 hf7 hy HR HJ hz hrow hs1 hs2 hpos hle hse hzz
                  by_cases h0 : zz = 0
                  · have t1 : ((zz : Int) == 0) = true := by simp [h0]
                    have HF := Lib.hid (HS2'.out h0)
                    have hbw : Below w7.heap.size w7 (w7.alloc (.cells #[.int .i64 y] 3)) := (Below.refl _ _).alloc (Nat.le_refl _) _
                    have HP8 := Lib.hid (HP7.out.below hbw)
                    have HC8 := Lib.hid (show (w7.alloc (.cells #[.int .i64 y] 3)).cell? ⟨w7.heap.size, 0, none⟩ = some (.int .i64 y) by rw [cell_of_block (heap_alloc_new w7 _)]; rfl)
                    clear h0 HS1 HS2' hbw
                    go_wp2_with (first | (at_builtin; refine wp_pushQ rfl _ _ rfl w.heap.size _ L' rfl HP8.out.lo HP8.out.frm.size ⟨w7.heap.size, 0, none⟩ 1 y rfl HC8.out (by have := HLP.out; omega) ?_; intro v1 w8 q1 g1 n1; have HP9 := Lib.hid (HP8.out.push g1 q1); clear q1 g1 n1) | go_in)
                    exact ⟨⟨q + 1, _, _, by omega, by go_num, HP9, HF⟩, by simp [intOf]; omega⟩
                  · have t1 : ((zz : Int) == 0) = false := by simpa using h0
                    have HF := Lib.hid (HS1.out h0)
                    clear h0 HS1 HS2'
                    go_wp2_with fail
                    exact ⟨⟨q + 1, _, L', by omega, by go_num, HP7, HF⟩, by simp [intOf]; omega⟩
                · obtain rfl : q = m := by omega
                  have x1 : wr.cell? ⟨bx, 0, none⟩ = some (.map (some b)) := by rw [cell_of_block HR.out.bxc]; rfl
                  obtain ⟨w9, n9, hdel, hg9, hf9⟩ := HR.out.gr.del at' 0
                  have hj := HJ.out
                  rw [← HML.out] at hj
                  obtain ⟨hd1, hd2⟩ := PkJ.done (M' := fun k => if k = at' then [] else M k) HPK.out hj (fun k => rfl)
                  have HF := Lib.hid (HE.out w9 _ n9 _ A' _ L' u7 (HR.out.strike hf9 hg9) hd1 hd2)
                  clear hg9 hf9 hj hd1 hd2 HR HJ HE
                  go_wp2_with fail
                  exact HF.out
        · intro k v w6 cnt6 hlk hfk hrg6 hlt6 hf6 hen
          have HP6 := Lib.hid (HR.out.next hf6 HR2.out.1 (by have := HR2.out; omega) (by have := HR2.out; omega) hrg6)
          have HQ6 := Lib.hid (HQ.out.step hf6 (fun k hk e => (HR.out.apart HQ.out hk).2.1 e))
          have hlook := HP6.out.ct.look k
          obtain ⟨c, hc⟩ : ∃ c, A k = c := ⟨_, rfl⟩
          rw [hc] at hlook
          by_cases hz : c = 0
          · have t1 : ((c : Int) == 0) = true := by simp [hz]
            have HF := Lib.hid (HL.out.push hlk hfk (by rw [hc]; exact hz))
            have hbw : Below w6.heap.size w6 (w6.alloc (.cells #[.int .i64 k] 3)) := (Below.refl _ _).alloc (Nat.le_refl _) _
            have HP7 := Lib.hid (HP6.out.below hbw)
            have HQ7 := Lib.hid (HQ6.out.below hbw)
            have HC7 := Lib.hid (show (w6.alloc (.cells #[.int .i64 k] 3)).cell? ⟨w6.heap.size, 0, none⟩ = some (.int .i64 k) by rw [cell_of_block (heap_alloc_new w6 _)]; rfl)
            have HLE := Lib.hid (show rgLeft wr b r2 = cnt from HR.out.rg.left_eq)
            have HLT := Lib.hid hlt6
            clear hz hc hbw hf6 hrg6 hlk hfk HR HQ HL HV
            go_wp2_with (first | (at_builtin; refine wp_pushQ rfl _ _ rfl w.heap.size _ L rfl HQ7.out HP7.out.bel.size ⟨w6.heap.size, 0, none⟩ 1 k rfl HC7.out (by have := HLL.out; omega) ?_; intro v1 w8 q1 g1 n1; have HQ8 := Lib.hid q1; have HP8 := Lib.hid (HP7.out.grown HQ7.out (Frm.grown (F := fun k => u7.ownBlock = some k) (Frm.refl _ _) g1 (fun k hk => .inl hk))); clear q1 g1 n1) | go_in)
            exact ⟨⟨_, cnt6, L ++ [k], HP8, HQ8, HF⟩, by rw [HP8.out.rg.left_eq, HLE.out]; exact HLT.out⟩
          · have t1 : ((c : Int) == 0) = false := by simpa using hz
            have HF := Lib.hid (HL.out.skip hlk (by rw [hc]; exact hz))
            have HLE := Lib.hid (show rgLeft wr b r2 = cnt from HR.out.rg.left_eq)
            have HLT := Lib.hid hlt6
            clear hz hc hf6 hrg6 hlk hfk HR HQ HL HV
            go_wp2_with fail
            exact ⟨⟨_, cnt6, L, HP6, HQ6, HF⟩, by rw [HP6.out.rg.left_eq, HLE.out]; exact HLT.out⟩
    · intro k v w4 cnt4 hlk hfk hrg4 hlt4 hf4 hen
      have HP4 := Lib.hid (HR.out.next hf4 (by have := HWX.out; omega) (by omega) (by omega) hrg4)
      obtain ⟨A1, B1, O1, C1, ev, -, -, ha1, hb1⟩ := QI.isN (HGW.out.yes k v hfk)
      subst ev
      obtain ⟨l, hl⟩ : ∃ l, S k = l := ⟨_, rfl⟩
      have hs2 := HS2.out k
      rw [hl] at ha1 hb1 hs2 hen
      obtain ⟨m, hm⟩ : ∃ m, l.length = m := ⟨_, rfl⟩
      rw [hm] at hen
      have HML := Lib.hid hm
      have HSK := Lib.hid hl
      have HNL := Lib.hid hs2
      have HIN := Lib.hid hb1
      have HA1 := Lib.hid ha1
      have HLE := Lib.hid (show rgLeft wr b r1 = cnt from HR.out.rg.left_eq)
      have HLT := Lib.hid hlt4
      have HMO := Lib.hid (fun (A' : Int → Nat) (hA : ∀ x, A' x = cntS S D x + if x ∈ S k then 1 else 0) => HV.out.more hlk hfk hA)
      have HDL := Lib.hid (show D.length ≤ 1048576 from HKL.out D HV.out.nd (fun k hk => (HFS.out k).1 ((HV.out.md k).1 hk).1))
      have HP0 := Lib.hid (show plusT S D l 0 A from fun x => by rw [HV.out.ca]; simp)
      have hm9 : (m : Int) ≤ 9223372036854775807 := by omega
      clear hl hm hs2 ha1 hb1 hrg4 hlt4 hf4 hlk hfk HR HV
      go_wp2_with fail
      go_loopw [22] (fun i wx => ∃ (q : Nat) (A' : Int → Nat), q ≤ m ∧ i = .int .i64 q ∧ Hid (Pm w wx bx a r1 b f (fun z => left z && z != k) cnt4 A') ∧ Hid (plusT S D l q A')) (fun i _ => m - (intOf i).toNat)
      case atStart => exact ⟨0, A, Nat.zero_le _, rfl, HP4, HP0⟩
      case round =>
        clear HP4 HP0 hen
        obtain ⟨q, A', hq, rfl, HR, HPL⟩ := hrel
        by_cases c : q < m
        · have c1 : (q : Int) < (m : Int) := by omega
          obtain rfl : A1 = some ⟨B1, O1, none⟩ := by rcases HA1.out with h | h; (have := HML.out; omega); exact h
          obtain ⟨y, hy⟩ : ∃ y, l[q]? = some y := ⟨_, List.getElem?_eq_getElem (by rw [HML.out]; exact c)⟩
          have a0 := (HIN.out.below HR.out.bel).c q y hy
          have HST := Lib.hid (HPL.out.step HNL.out.1 hy)
          have hlook := HR.out.ct.look y
          have hle : A' y ≤ 1048577 := by
            rw [HPL.out y]
            have := cntS_le S D y
            have := HDL.out
            split <;> omega
          obtain ⟨w7, hput, hc7, hf7⟩ := HR.out.ct.put y (A' y + 1)
          obtain ⟨z, hz⟩ : ∃ z, A' y = z := ⟨_, rfl⟩
          rw [hz] at hlook hput hc7 hle HST
          have w1 : IntKind.i64.wrap ((z : Int) + 1) = ((z + 1 : Nat) : Int) := by rw [IntKind.wrap_i64]; omega
          rw [show ((z + 1 : Nat) : Int) = (z : Int) + 1 by omega] at hput
          have HP7 := Lib.hid (HR.out.put hf7 (by have := HWX.out; omega) (by omega) (by omega) (by omega) hc7)
          clear hc7 hf7 hy HR HPL hz
          go_wp2_with fail
          exact ⟨⟨q + 1, _, by omega, by go_num, HP7, HST⟩, by simp [intOf]; omega⟩
        · obtain rfl : q = m := by omega
          have HF := Lib.hid (HMO.out A' (fun x => by
            have := HPL.out x
            rw [List.take_of_length_le (by rw [HML.out]; exact Nat.le_refl _)] at this
            rw [HSK.out]; exact this))
          clear HPL
          go_wp2_with fail
          exact ⟨⟨_, cnt4, A', D ++ [k], HR, HF⟩, by rw [HR.out.rg.left_eq, HLE.out]; exact HLT.out⟩

end Go.Proofs.Ytlhipnklljjahaa
