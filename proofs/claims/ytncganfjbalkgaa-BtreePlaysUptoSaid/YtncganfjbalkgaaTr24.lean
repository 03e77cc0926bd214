/-
  The tree's Shape: a contract over the translation.
  Conditions: the tree lies in memory.
-/
import Derived.Test.YtncganfjbalkgaaTr23
namespace Go.Proofs.Ytncganfjbalkgaa
open Go.RowKit Go.Joins Go.ChangeShapes Go.WideShapes
set_option linter.unusedVariables false

theorem infoS1 : (Try.prog.info? 53).map (fun i => (i.zero, i.size, i.bytes)) = some (some (.slice none 0 0), 1, 24) := by kernel_rfl
/-- the shape so far, in memory -/
structure ShM (W w : World) (base : Nat) (v : Value) (sh : List (List Int)) (Vs : List Value) : Prop where
  own : w.ownsRow base 53 1 v Vs.length Vs
  len : Vs.length = sh.length
  rows : ∀ (i : Nat) (r : List Int) (u : Value), sh[i]? = some r → Vs[i]? = some u → OwI w base u r
  bel : Below base W w
  sz : base ≤ w.heap.size
theorem ShM.step {W w w1 : World} {base : Nat} {v : Value} {sh : List (List Int)} {Vs : List Value} {F : Bl} (h : ShM W w base v sh Vs) (hf : Frm F w w1) (hF : ∀ k, F k → base ≤ k) (h1 : ∀ k, v.ownBlock = some k → ¬ F k) (h2 : ∀ (i : Nat) (u : Value), Vs[i]? = some u → ∀ k, u.ownBlock = some k → ¬ F k) : ShM W w1 base v sh Vs :=
  ⟨hf.ownsRow h.own h1, h.len, fun i r u hr hu => ⟨hf.ownsRow (h.rows i r u hr hu).1 (fun k hk => h2 i u hu k hk), (h.rows i r u hr hu).2⟩, h.bel.trans (hf.below hF h.sz), Nat.le_trans h.sz hf.size⟩
theorem ShM.below {W w w1 : World} {base : Nat} {v : Value} {sh : List (List Int)} {Vs : List Value} (h : ShM W w base v sh Vs) (hb : Below w.heap.size w w1) : ShM W w1 base v sh Vs :=
  h.step (Frm.of_below (F := fun _ => False) hb) (fun _ h => h.elim) (fun _ _ h => h) (fun _ _ _ _ _ h => h)
theorem OwI.ne_of {w : World} {base b : Nat} {u v : Value} {r : List Int} {n : Nat} {xs : List Value} (h : OwI w base u r) (ho : w.ownsRow b 53 1 v n xs) : ∀ k, u.ownBlock = some k → ¬ v.ownBlock = some k := by
  intro k hk hv
  have h1 : ∃ cs fr, w.heap[k]? = some (.cells cs 3 fr) := by
    rcases h.1.2 with ⟨rfl, _⟩ | ⟨g', cap, cur, rfl, hb, hg', _⟩
    · simp [Value.ownBlock] at hk
    · simp only [Value.ownBlock, Option.some.injEq] at hk
      subst hk
      exact ⟨_, _, hg'⟩
  obtain ⟨cs, fr, h1⟩ := h1
  exact own_ne ho h1 (by decide) hv
/-- a row more -/
theorem wp_pushS {ops : Array Oper} {rest : List Oper} {o : Oper} {a : Act} {w : World} {Q : Exit → Act → World → Prop} (hgd : o.guard = none) (s x : Operand)
    (ho : o.op = .call { callee := .builtin .append, args := #[s, x], argTypes := #[55, 55] })
    (base : Nat) (v : Value) (l : List Value) (hs : a.eval s = v) (hown : w.ownsRow base 53 1 v l.length l) (ad : Addr) (c : Nat) (r : Value) (hx : a.eval x = .slice (some ad) 1 c) (h1 : r.oneCell' = true)
    (hnews : ∀ j u, [r][j]? = some u → w.cell? (ad.add j) = some u) (hsz : l.length + 1 ≤ 4294967297) (hbase : base ≤ w.heap.size)
    (h : ∀ v' w', w'.ownsRow base 53 1 v' (l ++ [r]).length (l ++ [r]) → w.grownBy w' v.ownBlock → wpList Try.prog ops Q rest (a.put o.dst v') w') : wpList Try.prog ops Q (o :: rest) a w := by
  obtain ⟨i0, hi, hz0, hz1, hz2⟩ := info_parts infoS1
  refine wpList_append_own w hgd s x _ ho base 53 i0 _ 1 24 Try.underlying55 hi hz0 hz1 hz2 rfl (by decide) v l.length l hs hown ad 1 c [r] hx rfl hnews (by
    intro u hu
    simp only [List.mem_singleton] at hu
    subst hu
    exact h1) (by unfold maxLen; omega) (by omega) hbase ?_
  intro v' w' h1 h2 h3
  refine h v' w' ?_ h2
  rw [List.length_append, List.length_singleton]
  exact h1
theorem ShM.push {W w w1 : World} {base : Nat} {v v' u : Value} {sh : List (List Int)} {Vs : List Value} {r : List Int} (h : ShM W w base v sh Vs) (hr : OwI w base u r) (ho : w1.ownsRow base 53 1 v' (Vs ++ [u]).length (Vs ++ [u])) (hg : w.grownBy w1 v.ownBlock) : ShM W w1 base v' (sh ++ [r]) (Vs ++ [u]) := by
  have hf : Frm (fun k => v.ownBlock = some k) w w1 := Frm.ofGrown hg (fun k e => e)
  have key : ∀ u r, OwI w base u r → OwI w1 base u r := fun u r h1 => ⟨hf.ownsRow h1.1 (h1.ne_of h.own), h1.2⟩
  refine ⟨ho, by rw [List.length_append, List.length_append, h.len]; rfl, fun i q x hq hx => ?_, h.bel.grown hg h.sz (fun k hk => (h.own.lt k hk).1), Nat.le_trans h.sz hg.size⟩
  by_cases c : i < Vs.length
  · rw [List.getElem?_append_left c] at hx
    rw [List.getElem?_append_left (by rw [← h.len]; exact c)] at hq
    exact key _ _ (h.rows i q x hq hx)
  · rw [List.getElem?_append_right (by omega)] at hx
    rw [List.getElem?_append_right (by rw [← h.len]; omega), ← h.len] at hq
    have : i - Vs.length = 0 := by have := (List.getElem?_eq_some_iff.1 hx).1; simpa using this
    rw [this] at hq hx
    simp only [List.getElem?_cons_zero, Option.some.injEq] at hq hx
    subst hq hx
    exact key _ _ hr
theorem OwI.isN {w : World} {base : Nat} {u : Value} {r : List Int} (h : OwI w base u r) : ∃ (a : Option Addr) (b o cap : Nat), u = .slice a r.length cap ∧ (r.length = 0 ∨ a = some ⟨b, o, none⟩) ∧ IsN w b o r := by
  obtain ⟨g, cap, rfl, -, hN⟩ := h.form
  exact ⟨_, g, 0, cap, rfl, .inr rfl, hN⟩
/-- a shape in memory -/
theorem ShM.nn {W w : World} {base : Nat} {v : Value} {sh : List (List Int)} {Vs : List Value} (h : ShM W w base v sh Vs) (hne : sh ≠ []) : ∃ g cap, v = .slice (some ⟨g, 0, none⟩) sh.length cap ∧ IsNN w g 0 sh := by
  rcases h.own.2 with ⟨rfl, e⟩ | ⟨g, cap, cur, rfl, hb, hg, hn, hc, hs, ht⟩
  · rw [h.len] at e
    exact absurd (List.eq_nil_of_length_eq_zero e) hne
  · refine ⟨g, cap, by rw [h.len], fun i r hr => ?_⟩
    have hl := (List.getElem?_eq_some_iff.1 hr).1
    have hu : Vs[i]? = some (Vs[i]'(by rw [h.len]; exact hl)) := List.getElem?_eq_getElem _
    obtain ⟨a, b, o, cp, e, h1, h2⟩ := (h.rows i r _ hr hu).isN
    refine ⟨a, b, o, cp, ?_, h1, h2⟩
    rw [Nat.zero_add, cell_of_block hg i]
    rw [e] at hu
    rw [← ht, List.getElem?_take] at hu
    split at hu
    · rw [← Array.getElem?_toList]; exact hu
    · cases hu

theorem isum_lens : ∀ (r : List Kd), 0 ≤ isum (lens r)
  | [] => by simp [lens, isum]
  | a :: r => by
    have := isum_lens r
    show 0 ≤ (a.ps.length : Int) + isum (lens r)
    omega
/-- a state of the loop over levels: so many are to come -/
def ShSt (B D n : Nat) (W : World) (base : Nat) (es : List Ent) (k : Nat) (sh : List (List Int)) (LN : List (Nat × List Pv)) : Prop :=
  (k = 0 ∧ LN = [] ∧ ShPre D sh (n : Int) ∧ sh.length = D ∧ 1 ≤ D ∧ D ≤ 64) ∨
  (∃ d xs, k = d + 1 ∧ LN = xs.map (fun x => (x.g, x.ps)) ∧ Lvl B d W base xs ∧ xs ≠ [] ∧ (∀ x ∈ xs, x.ps.length ≤ 8) ∧ (∀ x ∈ xs, ∀ y : Int, y = (x.ps.length : Int) → shLow sh.length D ≤ y) ∧ xs.flatMap Kd.es = es ∧ ShPre D sh (xs.length : Int) ∧ (sh = [] → xs.length = 1) ∧ sh.length + k = D ∧ D ≤ 64 ∧ (∀ x ∈ xs, 0 < d → x.ps ≠ []))
theorem shst_next {B D n : Nat} {W : World} {base : Nat} {es : List Ent} (hn : es.length = n) (hn4 : n ≤ 4294967295) {k : Nat} {sh : List (List Int)} {LN : List (Nat × List Pv)} (h : ShSt B D n W base es (k + 1) sh LN) :
    LN ≠ [] ∧ LN.length ≤ n + 1 ∧ ∃ LN', ShSt B D n W base es k (sh ++ [LN.map fun x => (x.2.length : Int)]) LN' ∧ (LN.flatMap fun x => kof x.2) = LN'.map (·.1) := by
  rcases h with ⟨h, -⟩ | ⟨d, xs, hk, rfl, hl, hne, h8, hlow, hes, hpre, h1, hD, hD64, hps⟩
  · omega
  · have hrow : (xs.map fun x => (x.g, x.ps)).map (fun x => (x.2.length : Int)) = lens xs := by rw [List.map_map]; rfl
    have hkf : ((xs.map fun x => (x.g, x.ps)).flatMap fun x => kof x.2) = xs.flatMap fun x => kof x.ps := by rw [List.flatMap_map]
    rw [hrow, hkf]
    have hel : ∀ x ∈ lens xs, shLow sh.length D ≤ x ∧ x ≤ 8 := by
      intro y hy
      obtain ⟨x, hx, rfl⟩ := List.mem_map.1 hy
      exact ⟨hlow x hx _ rfl, by have := h8 x hx; omega⟩
    have hbig : xs.length ≤ n + 1 := by
      by_cases c : sh = []
      · have := h1 c; omega
      · -- each has an entry
        have : ∀ (l : List Kd), (∀ x ∈ l, x.es ≠ []) → l.length ≤ (l.flatMap Kd.es).length := by
          intro l
          induction l with
          | nil => intro _; simp
          | cons x r ih =>
            intro h
            have q1 := ih (fun y hy => h y (List.mem_cons_of_mem _ hy))
            have q2 := h x (List.mem_cons_self ..)
            have q3 : 0 < x.es.length := by cases hq : x.es with | nil => exact absurd hq q2 | cons => simp
            simp only [List.flatMap_cons, List.length_append, List.length_cons]
            omega
        have h4 := this xs (fun x hx => by
          obtain ⟨v, G, ss⟩ := (hl x hx).1
          refine ss.con.ne (fun e => ?_)
          have h0 := hlow x hx _ rfl
          rw [e] at h0
          have hpos : 0 < sh.length := by cases hq : sh with | nil => exact absurd hq c | cons => simp
          unfold shLow at h0
          rw [if_neg (by omega)] at h0
          simp at h0)
        rw [hes] at h4
        omega
    have hpush := hpre.push (lens xs) (fun _ => by rw [lens_length]) (fun e => by rw [lens_length]; exact h1 e) hel (by rw [lens_length]; omega)
    refine ⟨by simpa using hne, by rw [List.length_map]; exact hbig, ?_⟩
    cases d with
    | zero =>
      obtain ⟨q1, q2⟩ := lvl_leaf xs hl
      refine ⟨[], .inl ⟨by omega, rfl, by rw [q2, hes, hn] at hpush; exact hpush, by simp; omega, by omega, hD64⟩, by rw [q1]; rfl⟩
    | succ e =>
      obtain ⟨ys, y1, y2, y3, y4, y5⟩ := lvl_next xs hl
      refine ⟨ys.map fun x => (x.g, x.ps), .inr ⟨e, ys, by omega, rfl, y1, ?_, fun x hx => (y2 x hx).2, ?_, y3.trans hes, by rw [← y5] at hpush; exact hpush, fun h => by simp at h, by simp; omega, hD64, ?_⟩, by rw [y4, List.map_map]; rfl⟩
      · intro e0
        rw [e0] at y5
        cases xs with
        | nil => exact hne rfl
        | cons x r =>
          have q := hps x (List.mem_cons_self ..) (by omega)
          have q3 : 0 < x.ps.length := by cases hq : x.ps with | nil => exact absurd hq q | cons => simp
          have : 0 ≤ isum (lens r) := isum_lens r
          have q5 : ((([] : List Kd).length : Nat) : Int) = (x.ps.length : Int) + isum (lens r) := y5
          simp at q5
          omega
      · intro x hx y hy
        have := (y2 x hx).1
        unfold shLow
        rw [if_neg (by simp)]
        omega
      · intro x hx _ e0
        have := (y2 x hx).1
        rw [e0] at this
        simp at this

theorem shst_nodes {B D n : Nat} {W : World} {base : Nat} {es : List Ent} {k : Nat} {sh : List (List Int)} {LN : List (Nat × List Pv)} (h : ShSt B D n W base es k sh LN) {wx : World} (hb : Below base W wx) : ∀ x ∈ LN, x.2.length ≤ 8 ∧ ∃ v, NdAt B wx x.1 v x.2 := by
  rcases h with ⟨-, rfl, -⟩ | ⟨d, xs, hk, rfl, hl, hne, h8, -⟩
  · intro x hx; cases hx
  · intro x hx
    obtain ⟨y, hy, rfl⟩ := List.mem_map.1 hx
    obtain ⟨hs, hlt⟩ := hl y hy
    obtain ⟨v, G, ss⟩ := hs.step (Frm.of_below' hb) (fun k hk hb => by have := hlt k hk; omega)
    exact ⟨h8 y hy, v, ss.nd⟩
theorem set_row (l : List Int) (n j : Nat) (x : Int) (hj : l[j]? = some x) (hl : l.length = n) : (l.take j ++ List.replicate (n - j) 0).set j x = l.take (j + 1) ++ List.replicate (n - (j + 1)) 0 := by
  have hjn : j < n := by have := (List.getElem?_eq_some_iff.1 hj).1; omega
  have ht : (l.take j).length = j := by rw [List.length_take]; omega
  rw [List.set_append, if_neg (by omega), ht, Nat.sub_self, show n - j = (n - (j + 1)) + 1 by omega, List.replicate_succ, List.set_cons_zero, List.take_add_one, hj]
  simp
/-- a row's first zeros -/
theorem made_ints (n : Nat) : (madeCells (Value.int .i64 0).cells (n * 1)).toList = icells (List.replicate n 0) := by
  unfold madeCells icells
  apply List.ext_getElem?
  intro i
  by_cases h : i < n
  · simp [h, Value.cells, Nat.mod_one]
  · simp [h]

set_option maxHeartbeats 8000000 in
set_option maxRecDepth 100000 in
theorem tshape_any (B : Nat) (w : World) (F : Bl) (t : Nat) (es : List Ent) (h : TrX B w F t es) (hn4 : es.length ≤ 134217728) :
    Calls Try.prog 24 #[.pointer (some ⟨t, 0, none⟩)] w fun e w' => ∃ g cap sh, e = .returned (.slice (some ⟨g, 0, none⟩) sh.length cap) ∧ ShOk sh (es.length : Nat) ∧ IsNN w' g 0 sh ∧ Below w.heap.size w w' := by
  generalize hP : (fun (e : Ending) (w' : World) => ∃ g cap sh, e = .returned (.slice (some ⟨g, 0, none⟩) sh.length cap) ∧ ShOk sh (es.length : Nat) ∧ IsNN w' g 0 sh ∧ Below w.heap.size w w') = P
  have HP := Lib.hid hP
  obtain ⟨d, Fr, g, ps, h1, h2, h3, h4, h5, h6, rfl⟩ := h
  have x0 : w.cell? ⟨t, 0, none⟩ = some (.pointer (some ⟨g, 0, none⟩)) := by rw [cell_of_block h1]; rfl
  have hd60 := deep_le h2 h4 (by omega)
  have hsub := Lib.hid h2
  have HST := Lib.hid (show ShSt B (d + 1) es.length w w.heap.size es (d + 1) [] [(g, ps)] from .inr ⟨d, [{ key := ⟨#[]⟩, id := 0, g := g, F := Fr, ps := ps, es := es }], rfl, rfl, (by
      intro x hx
      simp only [List.mem_singleton] at hx
      subst hx
      exact ⟨h2, fun k hk => (h2.low k hk).2⟩), by simp, (by intro x hx; simp only [List.mem_singleton] at hx; subst hx; exact h3), (by
      intro x hx y hy
      simp only [List.mem_singleton] at hx
      subst hx
      show (if (0 : Nat) = 0 then (if d + 1 = 1 then (0 : Int) else 2) else 4) ≤ y
      rw [if_pos rfl]
      dsimp only at hy
      rcases h4 with h4 | h4 <;> split <;> omega), by simp, ⟨(by simp), (by simp), (by simp), (by simp), (by simp)⟩, fun _ => rfl, by simp, by omega, (by
      intro x hx hd
      simp only [List.mem_singleton] at hx
      subst hx
      intro e
      dsimp only at e
      rcases h4 with h4 | h4
      · omega
      · rw [e] at h4; simp at h4)⟩)
  obtain ⟨i0, hi0, hz0, hz1, hz2⟩ := info_parts infoI
  have HMK := Lib.hid (show ∀ (wx : World) (n : Nat), n ≤ 4294967296 → (Instr.makeSlice 53 (.int .i64 (n : Int)) (.int .i64 (n : Int))).run Try.prog wx = .ok (.slice (some ⟨wx.heap.size, 0, none⟩) n n) (wx.alloc (.cells (madeCells (Value.int .i64 0).cells (n * 1)) 3)) by
    intro wx n hn
    have := run_make (P := Try.prog) wx 53 3 i0 _ Try.underlying53 hi0 hz0 .i64 .i64 (n : Int) (n : Int) (by omega) (by omega) (by rw [hz2]; omega) (by omega)
    rw [hz1] at this
    simpa using this)
  obtain ⟨n, en⟩ : ∃ n, es.length = n := ⟨_, rfl⟩
  have EN := Lib.hid en
  rw [en] at HST hn4
  clear hP h1 h2 h4 h5 en hi0 hz0 hz1 hz2
  go_enter Try.func24, Try.ntmps24
  go_wp2
  go_loopg [3, 4] (d + 1) (fun k sv lv wx => ∃ (sh : List (List Int)) (LN : List (Nat × List Pv)) (Vs : List Value) (b0 : Nat), Hid (ShSt B (d + 1) n w w.heap.size es k sh LN ∧ ShM w wx w.heap.size sv sh Vs ∧ OwN wx b0 lv (LN.map (·.1))))
  case atStart =>
    refine ⟨[], [(g, ps)], [], 0, HST.out, ⟨World.ownsRow_nil _ _ _ 1, rfl, fun i r u hr => by simp at hr, (Below.refl _ _).alloc (Nat.le_refl _) _, by simp⟩, ?_⟩
    exact ⟨rfl, .inr ⟨w.heap.size, 1, #[.pointer (some ⟨g, 0, none⟩)], rfl, Nat.zero_le _, heap_alloc_new w _, Nat.le_refl _, by unfold maxLen; omega, rfl, rfl⟩⟩
  case round =>
    obtain ⟨sh, LN, Vs, b0, HR⟩ := hrel
    cases gk with
    | zero =>
      obtain ⟨r1, r2, r3⟩ := HR.out
      rcases r1 with ⟨-, rfl, hpre, hlen, hD1, hD64⟩ | ⟨d', xs, hk, -⟩
      · obtain ⟨a4, c4, hf⟩ := r3.form
        subst hf
        have hfin : P (.returned u3) wr := by
          rw [← HP.out]
          obtain ⟨gg, cc, rfl, hnn⟩ := r2.nn (by intro e; rw [e] at hlen; simp at hlen)
          rw [EN.out]
          exact ⟨gg, cc, sh, rfl, ⟨by omega, by omega, hpre.top, fun i r x hr hx => by rw [hlen]; exact hpre.el i r x hr hx, hpre.mid, fun i r hr hi => hpre.last i r hr hi, hpre.big⟩, hnn, r2.bel⟩
        have HF := Lib.hid hfin
        clear hfin r2 r3 hpre hlen hD1 hD64
        go_wp2
        exact HF.out
      · omega
    | succ k =>
      obtain ⟨r1, r2, r3⟩ := HR.out
      obtain ⟨hne, hbig, LN', s1, s2⟩ := shst_next EN.out (by omega) r1
      generalize wr = wo at *
      obtain ⟨n', en'⟩ : ∃ n', LN.length = n' := ⟨_, rfl⟩
      have hn0 : 0 < n' := by cases LN with | nil => exact absurd rfl hne | cons => simp at en'; omega
      have hnn : n' ≤ 134217729 := by omega
      have hmk := HMK.out wo n' (by omega)
      have HND := Lib.hid (fun (wx : World) (hb : Below w.heap.size w wx) => shst_nodes r1 hb)
      have HLV := Lib.hid (show ∀ wx, Below wo.heap.size wo wx → ∀ (i : Nat) (x : Nat × List Pv), LN[i]? = some x → ∃ gb cap, u4 = .slice (some ⟨gb, 0, none⟩) n' cap ∧ gb < wx.heap.size ∧ wx.cell? ⟨gb, i, none⟩ = some (.pointer (some ⟨x.1, 0, none⟩)) by
        intro wx hb i x hx
        obtain ⟨gb, cap, e, l1, c⟩ := (r3.below hb).at (i := i) (g := x.1) (by rw [List.getElem?_map, hx]; rfl)
        rw [List.length_map, en'] at e
        exact ⟨gb, cap, e, l1, c⟩)
      obtain ⟨a4, c4, hf⟩ := r3.form
      rw [List.length_map, en'] at hf
      subst hf
      have hrl : (LN.map fun x => (x.2.length : Int)).length = n' := by rw [List.length_map]; exact en'
      obtain ⟨row, hrow⟩ : ∃ row, LN.map (fun x => (x.2.length : Int)) = row := ⟨_, rfl⟩
      rw [hrow] at s1 hrl
      have HRA := Lib.hid (show ∀ (i : Nat) (x : Nat × List Pv), LN[i]? = some x → row[i]? = some (x.2.length : Int) by
        intro i x hx
        rw [← hrow, List.getElem?_map, hx]; rfl)
      obtain ⟨gs, hgs⟩ : ∃ gs, wo.heap.size = gs := ⟨_, rfl⟩
      have HE0 := Lib.hid (show EnI wo (wo.alloc (.cells (madeCells (Value.int .i64 0).cells (n' * 1)) 3)) wo.heap.size (.slice (some ⟨wo.heap.size, 0, none⟩) n' n') (List.replicate n' 0) by
        refine ⟨⟨?_, by simp⟩, (Below.refl _ _).alloc (Nat.le_refl _) _, by simp⟩
        have := World.ownsRow_lit (base := wo.heap.size) (e := 3) (size := 1) wo (madeCells (Value.int .i64 0).cells (n' * 1)) n' (Nat.le_refl _) (by unfold maxLen; omega) (by simp [madeCells])
        rw [made_ints] at this
        rw [List.length_replicate]
        exact this)
      rw [hgs] at HE0 hmk
      have HR2 := Lib.hid r2
      have HR3 := Lib.hid r3
      have HS1 := Lib.hid s1
      have HS2 := Lib.hid s2
      have HEN := Lib.hid en'
      have HRL := Lib.hid hrl
      have HGS := Lib.hid hgs
      have hn0i : (0 : Int) < (n' : Int) := by omega
      clear hne hbig s1 s2 r1 r2 r3 en' hrl hrow hgs HR
      go_upto_region 7 with fail
      go_wp2_with fail
      go_loopw [23] (fun i wx => ∃ j : Nat, j ≤ n' ∧ i = .int .i64 j ∧ Hid (EnI wo wx gs (.slice (some ⟨gs, 0, none⟩) n' n') (row.take j ++ List.replicate (n' - j) 0))) (fun i _ => n' - (intOf i).toNat)
      case atStart => exact ⟨0, Nat.zero_le _, rfl, (by have h0 := HE0.out; rw [Nat.mul_one] at h0; rw [List.take_zero, List.nil_append, Nat.sub_zero]; exact h0)⟩
      case round =>
        obtain ⟨j, hj, rfl, HE⟩ := hrel
        have hbo : Below wo.heap.size wo wr := by rw [HGS.out]; exact HE.out.bel
        have hbw : Below w.heap.size w wr := HR2.out.bel.trans (hbo.mono (HR2.out.sz))
        by_cases q : j < n'
        · have c1 : (j : Int) < (n' : Int) := by omega
          have hx : LN[j]? = some (LN[j]'(by rw [HEN.out]; exact q)) := List.getElem?_eq_getElem _
          generalize LN[j]'(by rw [HEN.out]; exact q) = x at *
          obtain ⟨gl, cl, e, -, d0⟩ := HLV.out wr hbo j x hx
          injection e with e e2 e3
          subst e e3
          clear e2
          obtain ⟨h8, v8, nd8⟩ := HND.out wr hbw x (List.mem_of_getElem? hx)
          obtain ⟨a8, c8, rfl, -⟩ := nd8.form
          have d1 := nd8.cell.1
          have HSET := Lib.hid (set_row row n' j _ (HRA.out j x hx) HRL.out)
          obtain ⟨g8, ps8⟩ := x
          dsimp only at d0 d1 HSET h8
          obtain ⟨m8, em8⟩ : ∃ m8, ps8.length = m8 := ⟨_, rfl⟩
          rw [em8] at d1 HSET h8
          have hrowl : (row.take j ++ List.replicate (n' - j) (0 : Int)).length = n' := by rw [List.length_append, List.length_take, List.length_replicate, HRL.out]; omega
          have HRW := Lib.hid hrowl
          have hown := HE.out.own.1
          rw [hrowl] at hown
          have y0 := hown.cellAt j (by omega)
          have y1 := hown.frozenAt j
          obtain ⟨yv, hyv⟩ : ∃ yv, (icells (row.take j ++ List.replicate (n' - j) (0 : Int)))[j]? = some yv := ⟨_, List.getElem?_eq_getElem (by rw [icells_length, hrowl]; exact q)⟩
          rw [hyv] at y0
          clear nd8 hx em8 hrowl hown hyv hbo hbw
          go_wp2_with fail
          go_roundw
          case rel => exact ⟨j + 1, by omega, by go_num, by rw [← HSET.out]; exact HE.out.set HRW.out j _⟩
          case measure => simp [intOf]; omega
        · obtain rfl : j = n' := by omega
          have HB5 := Lib.hid hbo
          have HOI := Lib.hid (show OwI wr w.heap.size (.slice (some ⟨gs, 0, none⟩) j j) row by
            have h1 := HE.out.own
            rw [Nat.sub_self, List.replicate_zero, List.append_nil, List.take_of_length_le (by rw [HRL.out]; exact Nat.le_refl _)] at h1
            exact ⟨ownsRow_le h1.1 (by rw [← HGS.out]; exact HR2.out.sz), h1.2⟩)
          have HR5 := Lib.hid (HR2.out.below hbo)
          have HV5 := Lib.hid (show Vs.length + 1 ≤ 4294967297 by
            rw [HR2.out.len]
            rcases HS1.out with ⟨-, -, -, hl, -⟩ | ⟨d', xs, -, -, -, -, -, -, -, -, -, hl, -⟩ <;> (simp at hl; omega))
          clear hbo hbw
          obtain ⟨w6, hw6⟩ : ∃ w6, wr.alloc (.cells #[.slice (some ⟨gs, 0, none⟩) j j] 53) = w6 := ⟨_, rfl⟩
          have HB6 := Lib.hid (show Below wr.heap.size wr w6 by rw [← hw6]; exact (Below.refl _ _).alloc (Nat.le_refl _) _)
          have HNW := Lib.hid (show ∀ i u, [Value.slice (some ⟨gs, 0, none⟩) j j][i]? = some u → w6.cell? ((⟨wr.heap.size, 0, none⟩ : Addr).add i) = some u by
            rw [← hw6]
            exact World.news_of_block (cs := #[.slice (some ⟨gs, 0, none⟩) j j]) (heap_alloc_new wr _))
          have HW6 := Lib.hid hw6
          clear hw6
          have HAFT := Lib.hid (show ∀ (v7 : Value) (w7 : World), w7.ownsRow w.heap.size 53 1 v7 (Vs ++ [Value.slice (some ⟨gs, 0, none⟩) j j]).length (Vs ++ [Value.slice (some ⟨gs, 0, none⟩) j j]) → w6.grownBy w7 u3.ownBlock →
              ShM w w7 w.heap.size v7 (sh ++ [row]) (Vs ++ [.slice (some ⟨gs, 0, none⟩) j j]) ∧ OwN w7 b0 (.slice a4 j c4) (LN.map (·.1)) by
            intro v7 w7 ho hg
            have h6 := HR5.out.below HB6.out
            refine ⟨h6.push (show OwI w6 w.heap.size _ row from ⟨(Frm.of_below (F := fun _ => False) HB6.out).ownsRow HOI.out.1 (fun _ _ h => h), HOI.out.2⟩) ho hg, ?_⟩
            have h4 := (HR3.out.below HB5.out).below HB6.out
            refine h4.step (Frm.ofGrown (F := fun k => u3.ownBlock = some k) hg (fun k e => e)) (fun k hk e => ?_)
            have t1 : ∃ cs fr, w6.heap[k]? = some (.cells cs 66 fr) := by
              rcases h4.2 with ⟨e0, _⟩ | ⟨g', cap, cur, e0, hb, hg', _⟩
              · injection e0 with e0; subst e0; simp [Value.ownBlock] at hk
              · rw [e0] at hk
                simp only [Value.ownBlock, Option.some.injEq] at hk
                subst hk
                exact ⟨_, _, hg'⟩
            obtain ⟨cs, fr, t1⟩ := t1
            exact own_ne h6.own t1 (by decide) e)
          have HBEL := Lib.hid (fun w7 (ho : OwN w7 b0 (.slice a4 j c4) (LN.map (·.1))) (hb : Below w.heap.size w w7) => below_any B b0 w7 (.slice a4 j c4) LN ho (HND.out w7 hb) (by rw [HEN.out]; omega))
          clear HE0 hmk
          go_wp2_with (first
            | (at_builtin; rw [HW6.out]; refine wp_pushS rfl (.tmp 37) (.tmp 39) rfl w.heap.size u3 Vs rfl (HR5.out.below HB6.out).own ⟨wr.heap.size, 0, none⟩ 1 (.slice (some ⟨gs, 0, none⟩) j j) rfl rfl HNW.out HV5.out (HR5.out.below HB6.out).sz ?_; intro v7 w7 ho7 hg7; have HS7 := Lib.hid (HAFT.out v7 w7 ho7 hg7); clear ho7 hg7)
            | (go_at_call 38; refine (HBEL.out w7 HS7.out.2 HS7.out.1.bel).mono ?_; rintro e w8 ⟨v8, rfl, o8, b8⟩; have HS8 := Lib.hid (And.intro (HS7.out.1.below b8) o8); clear o8 b8))
          go_roundg k
          case measure => omega
          case rel => exact ⟨sh ++ [row], LN', Vs ++ [.slice (some ⟨gs, 0, none⟩) j j], w7.heap.size, HS1.out, HS8.out.1, by rw [← HS2.out]; exact HS8.out.2⟩

end Go.Proofs.Ytncganfjbalkgaa
