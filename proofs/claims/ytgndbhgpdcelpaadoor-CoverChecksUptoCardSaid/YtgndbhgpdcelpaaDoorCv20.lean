/-
  A plan that is made in its box; what a plan without locks lacks.
  Conditions: none.
-/
import Derived.Test.YtgndbhgpdcelpaaDoorCv19
namespace Go.Proofs.YtgndbhgpdcelpaaDoor
set_option maxRecDepth 100000
open Go.RowKit Go.Joins Go.ChangeShapes Go.WideShapes
set_option linter.unusedVariables false
set_option linter.unusedSimpArgs false

/-- a plan in its box g, its instructions of the call's own, behind w3 -/
structure QS (w3 wr : World) (g : Nat) (tb : ByteArray) (v : Value) (L : List Ins) : Prop where
  bx : Bx wr g #[.string tb, v] 25
  own : OwR KI wr w3.heap.size v L
  fr : Frm (fun k => k = g) w3 wr
  lt : g < w3.heap.size
theorem QS.below {w3 wr w1 : World} {g : Nat} {tb : ByteArray} {v : Value} {L : List Ins} (h : QS w3 wr g tb v L) (hb : Below wr.heap.size wr w1) : QS w3 w1 g tb v L := ⟨h.bx.below hb, h.own.below hb, h.fr.step hb, h.lt⟩
/-- what lies elsewhere stays -/
theorem QS.old {w3 wr : World} {g : Nat} {tb : ByteArray} {v : Value} {L : List Ins} (h : QS w3 wr g tb v L) {g' : Nat} {cs : Array Value} {T : TypeId} (hb : Bx w3 g' cs T) (hne : g' ≠ g) : Bx wr g' cs T := (h.fr.block g' hb.lt hne).trans hb
/-- below an older world -/
theorem QS.bel {w3 wr w : World} {g : Nat} {tb : ByteArray} {v : Value} {L : List Ins} (h : QS w3 wr g tb v L) (hw : Below w.heap.size w w3) (hg : w.heap.size ≤ g) : Below w.heap.size w wr := hw.trans (h.fr.below (fun k hk => by have : k = g := hk; omega) hw.size)
/-- the box behind an append -/
theorem QS.mid {w3 wn w6 : World} {g : Nat} {tb : ByteArray} {v : Value} {L : List Ins} (h : QS w3 wn g tb v L) (hg : wn.grownBy w6 v.ownBlock) : Bx w6 g #[.string tb, v] 25 := by
  have hne : ¬ (v.ownBlock = some g) := fun e => by
    have h1 := (h.own.lt e).1
    have h2 := h.lt
    omega
  exact (hg.block g h.bx.lt (fun e => hne e.symm)).trans h.bx
theorem QS.push {w3 wn w6 : World} {g : Nat} {tb : ByteArray} {v v' : Value} {L L' : List Ins} (h : QS w3 wn g tb v L) (ho : OwR KI w6 w3.heap.size v' L') (hg : wn.grownBy w6 v.ownBlock) : QS w3 (w6.setCell ⟨g, 1, none⟩ v') g tb v' L' := by
  have hf : Frm (fun k => k = g) w3 w6 := h.fr.grown hg (fun k hk => .inr (h.own.lt hk).1)
  have hm := h.mid hg
  have hs : Frm (fun k => k = g) w6 (w6.setCell ⟨g, 1, none⟩ v') := Frm.set1 (F := fun k => k = g) w6 rfl 1 v'
  refine ⟨box_set hm 1 v', ho.step hs (fun k hk e => ?_), hf.trans hs (fun k hk => .inl hk), h.lt⟩
  have e1 : k = g := e
  have h1 := (ho.lt hk).1
  have h2 := h.lt
  omega
theorem infoP : (Tryd.prog.info? 25).map (·.size) = some 2 := by kernel_rfl
/-- a plan stored into a new box -/
theorem put_P (w : World) (tb : ByteArray) (a : Option Addr) (n c : Nat) : ∃ wz, (Instr.storeAt 25 (.pointer (some ⟨w.heap.size, 0, none⟩)) (.agg #[.string tb, .slice a n c])).run Tryd.prog (w.alloc (.cells #[.string ⟨#[]⟩, .slice none 0 0] 25)) = .ok () wz ∧ Below w.heap.size w wz ∧ Bx wz w.heap.size #[.string tb, .slice a n c] 25 := by
  have hb := Bx.new w #[.string ⟨#[]⟩, .slice none 0 0] 25
  have b1 : Below w.heap.size w (w.alloc (.cells #[.string ⟨#[]⟩, .slice none 0 0] 25)) := (Below.refl _ _).alloc (Nat.le_refl _) _
  refine ⟨_, run_storeAt_mid (P := Tryd.prog) _ w.heap.size 0 25 #[.string tb, .slice a n c] (fun j hj => ?_) (by rw [infoP]; rfl) (all_oneCell_toArray (cs := [.string tb, .slice a n c]) (fun u hu => by simp only [List.mem_cons, List.not_mem_nil, or_false] at hu; rcases hu with rfl | rfl <;> rfl)), ?_, ?_⟩
  · rw [Nat.zero_add]
    have hj' : j < 2 := hj
    exact ⟨by rw [cell_of_block hb, Array.getElem?_eq_getElem (by exact hj')]; rfl, hb.frz j⟩
  · exact (setc_frm (F := fun _ => False) (.inr (Nat.le_refl _)) _ _ (Frm.of_below b1)).nothing
  · exact setc_all hb _ rfl
theorem QS.start {w3 : World} {g : Nat} {tb : ByteArray} (hb : Bx w3 g #[.string tb, .slice none 0 0] 25) : QS w3 w3 g tb (.slice none 0 0) [] := ⟨hb, OwR.nil _ _, Frm.refl _ _, hb.lt⟩
/-- one place of an instruction turned -/
theorem RowA.set {w : World} {b off : Nat} {L : List Ins} (h : RowA w (some ⟨b, off, none⟩) L) {i : Nat} {x : Ins} (hx : L[i]? = some x) (j : Int) :
    RowA (w.setCell ⟨b, off + i * 14 + 2, none⟩ (.int .i64 j)) (some ⟨b, off, none⟩) (L.set i { x with jt := j }) := by
  have hi : i < L.length := (List.getElem?_eq_some_iff.1 hx).1
  obtain ⟨b', off', e, hlt, hr⟩ := h.b
  rcases e with rfl | e
  · simp at hi
  injection e with e
  injection e with e1 e2
  subst e1 e2
  refine ⟨b, off, .inr rfl, fun hl => by have := hlt (by simpa using hl); simpa [World.setCell] using this, fun i' x' hx' j' u hu => ?_⟩
  have hj14 : j' < 14 := by rw [← x'.enc_len]; exact (List.getElem?_eq_some_iff.1 hu).1
  have hcell : (w.cell? ⟨b, off + i * 14 + 2, none⟩).isSome = true := by rw [hr i x hx 2 _ rfl]; rfl
  by_cases ei : i' = i
  · subst ei
    rw [List.getElem?_set_self hi] at hx'
    injection hx' with hx'
    subst hx'
    by_cases ej : j' = 2
    · subst ej
      have hu' : u = .int .i64 j := by
        have : (Ins.enc { x with jt := j })[2]? = some (.int .i64 j) := rfl
        rw [this] at hu
        injection hu with hu
        exact hu.symm
      subst hu'
      rw [World.cell?_setCell_same' _ _ _ hcell]
    · have hu' : x.enc[j']? = some u := by
        rw [← hu]
        unfold Ins.enc
        match j', ej with
        | 0, _ => rfl
        | 1, _ => rfl
        | 2, h => exact absurd rfl h
        | n + 3, _ => rfl
      rw [World.cell?_setCell_other _ _ _ _ (fun e => by injection e with _ e2 _; omega)]
      exact hr i' x hx j' u hu'
  · rw [List.getElem?_set_ne (fun e => ei e.symm)] at hx'
    rw [World.cell?_setCell_other _ _ _ _ (fun e => by
      injection e with _ e2 _
      have h1 : off + i * 14 + 2 = off + i' * 14 + j' := e2
      have h2 : i = i' := by omega
      exact ei h2.symm)]
    exact hr i' x' hx' j' u hu
def nlB (x : Ins) : Bool := !(x.op == 1)
theorem nl_snoc (x : Ins) (l : List Ins) : (l ++ [x]).filter nlB = if nlB x then l.filter nlB ++ [x] else l.filter nlB := by
  rw [List.filter_append]
  cases h : nlB x with
  | true => rw [List.filter_cons_of_pos (by simpa using h)]; simp
  | false => rw [List.filter_cons_of_neg (by rw [h]; decide)]; simp
theorem one_any (o : Int) (x : Ins) : ([o].any fun y => x.op == y) = (x.op == o) := by simp
/-- what is appended: an instruction as a list of one -/
theorem ins_new (w : World) (x : Ins) : ∀ j u, (KI.cells [x])[j]? = some u → (w.alloc (.cells #[.int .i64 x.op, .int .i64 x.c, .int .i64 x.jt, .int .i64 x.mode, .int .i64 x.part, .string x.tab, .int .i64 x.idx, .slice x.lo.a x.lo.n x.lo.c, .slice x.hi.a x.hi.n x.hi.c, .bool x.lx, .bool x.hx, .slice x.e.a x.e.n x.e.c, .int .i64 x.n, .slice x.ds.a x.ds.n x.ds.c] 33)).cell? ((⟨w.heap.size, 0, none⟩ : Addr).add j) = some u := one_new KI w x x.enc.toArray (by simp [KI])
/-- without locks no table has a mode -/
theorem md_none (t : ByteArray) : ∀ (l : List Ins) (m : Int), (∀ y ∈ l, (y.op == 1) = false) → mdL t l m = m
  | [], m, _ => rfl
  | y :: r, m, h => by
    rw [mdL, lkB, h y (List.mem_cons_self ..)]
    simp only [Bool.false_and, Bool.false_eq_true, if_false]
    exact md_none t r m fun z hz => h z (List.mem_cons_of_mem _ hz)
theorem bare_no (tb : ByteArray) {l : List Ins} (h1 : ∀ y ∈ l, (y.op == 1) = false) (h2 : ∃ y ∈ l, (y.op == 2) = true ∧ curB y.c = true) : ckB tb l = false := by
  obtain ⟨y, hy, ho, hc⟩ := h2
  have hcc : ccB l y.c = false := by
    unfold ccB
    have hm : y ∈ l.filter (ocB 2 y.c) := List.mem_filter.2 ⟨hy, by unfold ocB; rw [ho]; simp⟩
    cases hf : l.filter (ocB 2 y.c) with
    | nil => rw [hf] at hm; cases hm
    | cons o r =>
      simp only [md_none _ l 0 h1, show cvI 0 3 = false from rfl, show cvI 0 1 = false from rfl]
      simp
  have hk : ∃ k : Nat, k < 4 ∧ y.c = (k : Nat) := by
    unfold curB at hc
    simp only [Bool.and_eq_true, decide_eq_true_eq] at hc
    exact ⟨y.c.toNat, by omega, by omega⟩
  obtain ⟨k, hk, e⟩ := hk
  rw [e] at hcc
  exact rl_no (k := 3) (by decide) (rdB_no hk hcc)
/-- what a checked plan says of its opens -/
theorem ck_open {tb : ByteArray} {q : List Ins} (h : ckB tb q = true) {x : Ins} (hx : x ∈ q) (ho : (x.op == 2) = true) : curB x.c = true := by
  unfold ckB at h
  simp only [Bool.and_eq_true] at h
  have hw := List.all_eq_true.1 h.1.1.1.2 x hx
  unfold wellB fitB at hw
  simp only [Bool.and_eq_true] at hw
  have h2 := hw.2
  rw [beq_iff_eq] at ho
  rw [ho] at h2
  simpa using h2

/-- but for the places that they jump to, these are those -/
def SameK (L L' : List Ins) : Prop := L'.length = L.length ∧ ∀ (i : Nat) (x : Ins), L'[i]? = some x → ∃ (y : Ins) (j : Int), L[i]? = some y ∧ x = { y with jt := j }
theorem SameK.refl (L : List Ins) : SameK L L := ⟨rfl, fun i x hx => ⟨x, x.jt, hx, rfl⟩⟩
theorem SameK.set {L L' : List Ins} (h : SameK L L') {i : Nat} {x : Ins} (hx : L'[i]? = some x) (j : Int) : SameK L (L'.set i { x with jt := j }) := by
  refine ⟨by rw [List.length_set]; exact h.1, fun i' x' hx' => ?_⟩
  by_cases e : i' = i
  · subst e
    rw [List.getElem?_set_self (List.getElem?_eq_some_iff.1 hx).1] at hx'
    injection hx' with hx'
    obtain ⟨y, j0, hy, rfl⟩ := h.2 i' x hx
    exact ⟨y, j, hy, hx'.symm⟩
  · rw [List.getElem?_set_ne (fun q => e q.symm)] at hx'
    exact h.2 i' x' hx'
theorem bare_all (tb : ByteArray) {q L' : List Ins} (h : SameK (q.filter nlB) L') (hck : ckB tb q = true) (h2 : cnL [2] q ≠ 0) : ckB tb L' = false := by
  refine bare_no tb (fun y hy => ?_) ?_
  · obtain ⟨i, hi⟩ := List.getElem?_of_mem hy
    obtain ⟨z, j, hz, rfl⟩ := h.2 i y hi
    have := (List.mem_filter.1 (List.mem_of_getElem? hz)).2
    unfold nlB at this
    simpa using this
  · unfold cnL at h2
    obtain ⟨x, hx⟩ := List.exists_mem_of_length_pos (Nat.pos_of_ne_zero h2)
    rw [List.mem_filter] at hx
    have hx2 : (x.op == 2) = true := by simpa using hx.2
    have hxn : x ∈ q.filter nlB := List.mem_filter.2 ⟨hx.1, by rw [beq_iff_eq] at hx2; unfold nlB; rw [hx2]; rfl⟩
    obtain ⟨i, hi⟩ := List.getElem?_of_mem hxn
    have hil : i < L'.length := by rw [h.1]; exact (List.getElem?_eq_some_iff.1 hi).1
    obtain ⟨z, j, hz, e⟩ := h.2 i _ (List.getElem?_eq_getElem hil)
    rw [hi] at hz
    injection hz with hz
    subst hz
    refine ⟨_, List.mem_of_getElem? (List.getElem?_eq_getElem hil), ?_, ?_⟩
    · rw [e]; exact hx2
    · rw [e]; exact (show curB x.c = true from ck_open hck hx.1 hx2)
theorem lt_some {α : Type} {l : List α} {i : Nat} (h : i < l.length) : ∃ x, l[i]? = some x := ⟨_, List.getElem?_eq_getElem h⟩

end Go.Proofs.YtgndbhgpdcelpaaDoor
