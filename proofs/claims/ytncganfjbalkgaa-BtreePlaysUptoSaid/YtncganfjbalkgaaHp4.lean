/-
  Lists of whole numbers in memory; the document's heap (haspref08): SameInts, Pages.
  Conditions: the lists and the heap lie in memory.
-/
import Derived.Test.YtncganfjbalkgaaHp2
import Derived.BigQuiet
namespace Go.Proofs.Ytncganfjbalkgaa
open Go.RowKit Go.Joins Go.ChangeShapes Go.WideShapes
set_option linter.unusedVariables false

/-- whole numbers in memory -/
structure IsN (w : World) (b off : Nat) (l : List Int) : Prop where
  hb : 0 < l.length → b < w.heap.size
  c : ∀ (i : Nat) (x : Int), l[i]? = some x → w.cell? ⟨b, off + i, none⟩ = some (.int .i64 x)
theorem IsN.below {w w' : World} {b off : Nat} {l : List Int} (h : IsN w b off l) (hw : Below w.heap.size w w') : IsN w' b off l := by
  obtain ⟨hc, _⟩ := bcell hw
  refine ⟨fun hl => Nat.lt_of_lt_of_le (h.hb hl) hw.size, fun i x hx => ?_⟩
  have hl : 0 < l.length := by have := (List.getElem?_eq_some_iff.1 hx).1; omega
  rw [hc _ _ (h.hb hl)]
  exact h.c i x hx
theorem Frm.isN {F : Bl} {w w1 : World} (h : Frm F w w1) {b off : Nat} {l : List Int} (hb : IsN w b off l) (hf : 0 < l.length → ¬ F b) : IsN w1 b off l := by
  refine ⟨fun hl => Nat.lt_of_lt_of_le (hb.hb hl) h.size, fun i x hx => ?_⟩
  have hl : 0 < l.length := by have := (List.getElem?_eq_some_iff.1 hx).1; omega
  rw [h.cell (hb.hb hl) (hf hl)]
  exact hb.c i x hx
def icells (l : List Int) : List Value := l.map fun n : Int => .int .i64 n
theorem icells_length (l : List Int) : (icells l).length = l.length := by simp [icells]
theorem icells_app (l r : List Int) : icells (l ++ r) = icells l ++ icells r := List.map_append
theorem icells_one (l : List Int) : ∀ u ∈ icells l, u.oneCell' = true := by
  intro u hu
  obtain ⟨n, -, rfl⟩ := List.mem_map.1 hu
  rfl
theorem infoI : (Try.prog.info? 3).map (fun i => (i.zero, i.size, i.bytes)) = some (some (.int .i64 0), 1, 8) := by kernel_rfl
/-- a list of whole numbers of the call's own -/
def OwI (w : World) (base : Nat) (v : Value) (l : List Int) : Prop := w.ownsRow base 3 1 v l.length (icells l) ∧ v ≠ .slice none 0 0
theorem OwI.alloc {w : World} {base : Nat} {v : Value} {l : List Int} (h : OwI w base v l) (o : Obj) : OwI (w.alloc o) base v l := ⟨h.1.alloc o, h.2⟩
theorem OwI.form {w : World} {base : Nat} {v : Value} {l : List Int} (h : OwI w base v l) : ∃ g cap, v = .slice (some ⟨g, 0, none⟩) l.length cap ∧ base ≤ g ∧ IsN w g 0 l := by
  obtain ⟨⟨h1, h2⟩, h3⟩ := h
  rcases h2 with ⟨e, _⟩ | ⟨g, cap, cur, e, hb, hg, hn, hc, hs, ht⟩
  · exact absurd e h3
  · refine ⟨g, cap, e, hb, fun _ => (Array.getElem?_eq_some_iff.1 hg).1, fun i x hx => ?_⟩
    rw [Nat.zero_add, cell_of_block hg i]
    have hj : (icells l)[i]? = some (.int .i64 x) := by simp only [icells, List.getElem?_map, hx, Option.map_some]
    rw [← ht, List.getElem?_take] at hj
    split at hj
    · rw [← Array.getElem?_toList]; exact hj
    · cases hj
theorem wp_pushI {ops : Array Oper} {rest : List Oper} {o : Oper} {a : Act} {w : World} {Q : Exit → Act → World → Prop} (hgd : o.guard = none) (s x : Operand)
    (ho : o.op = .call { callee := .builtin .append, args := #[s, x], argTypes := #[53, 53] })
    (base : Nat) (v : Value) (l : List Int) (hs : a.eval s = v) (hown : OwI w base v l) (ad : Addr) (m c : Nat) (r : List Int) (hx : a.eval x = .slice (some ad) m c) (hm : r.length = m)
    (hnews : ∀ j u, (icells r)[j]? = some u → w.cell? (ad.add j) = some u) (hsz : l.length + m ≤ 8796093022208) (hbase : base ≤ w.heap.size)
    (h : ∀ v' w', OwI w' base v' (l ++ r) → w.grownBy w' v.ownBlock → wpList Try.prog ops Q rest (a.put o.dst v') w') : wpList Try.prog ops Q (o :: rest) a w := by
  obtain ⟨i0, hi, hz0, hz1, hz2⟩ := info_parts infoI
  refine wpList_append_own w hgd s x _ ho base 3 i0 _ 1 8 Try.underlying53 hi hz0 hz1 hz2 rfl (by decide) v l.length (icells l) hs hown.1 ad m c (icells r) hx (by rw [icells_length, hm, Nat.mul_one]) hnews (icells_one r) (by unfold maxLen; omega) (by omega) hbase ?_
  intro v' w' h1 h2 h3
  refine h v' w' ⟨?_, fun e => hown.2 (h3.1 e).1⟩ h2
  rw [icells_app, List.length_append, hm]
  exact h1
theorem newsI (w : World) (x : Int) : ∀ j u, (icells [x])[j]? = some u → (w.alloc (.cells #[.int .i64 x] 3)).cell? ((⟨w.heap.size, 0, none⟩ : Addr).add j) = some u :=
  World.news_of_block (cs := #[.int .i64 x]) (heap_alloc_new w _)

def hPad (out : List Int) (p : Nat) : List Int := out ++ List.replicate (p + 1 - out.length) 0
def hIncr (l : List Int) (p : Nat) : List Int := l.set p (l.getD p 0 + 1)
def hPg : List Sl → Nat → List Int → List Int
  | [], _, out => out
  | x :: r, i, out => if x.1 = 0 then hPg r (i + 1) out else hPg r (i + 1) (hIncr (hPad out (i / 16)) (i / 16))
/-- how many rows each page holds -/
def hPages (s : List Sl) : List Int := hPg s 0 []
theorem hPad_next (out : List Int) (p : Nat) (h : out.length ≤ p) : hPad (out ++ [0]) p = hPad out p := by
  unfold hPad
  rw [List.append_assoc, List.length_append, List.length_singleton, show p + 1 - out.length = (p + 1 - (out.length + 1)) + 1 by omega, List.replicate_succ]
  rfl
theorem hPad_end (out : List Int) (p : Nat) (h : p < out.length) : hPad out p = out := by
  unfold hPad
  rw [show p + 1 - out.length = 0 by omega, List.replicate_zero, List.append_nil]
theorem hPad_len (out : List Int) (p : Nat) : (hPad out p).length = max out.length (p + 1) := by unfold hPad; rw [List.length_append, List.length_replicate]; omega

/-- the state of a loop that makes a list of whole numbers -/
structure EnI (W w : World) (B : Nat) (v : Value) (l : List Int) : Prop where
  own : OwI w B v l
  bel : Below B W w
  sz : B ≤ w.heap.size
theorem EnI.alloc {W w : World} {B : Nat} {v : Value} {l : List Int} (h : EnI W w B v l) (o : Obj) : EnI W (w.alloc o) B v l := ⟨h.own.alloc o, h.bel.alloc h.sz o, by simp; exact Nat.le_succ_of_le h.sz⟩
theorem EnI.push {W w w' : World} {B : Nat} {v v' : Value} {l l' : List Int} (h : EnI W w B v l) (ho : OwI w' B v' l') (hg : w.grownBy w' v.ownBlock) : EnI W w' B v' l' :=
  ⟨ho, h.bel.grown hg h.sz (fun k hk => (h.own.1.lt k hk).1), Nat.le_trans h.sz hg.size⟩
theorem EnI.set {W w : World} {B g n cap : Nat} {l : List Int} (h : EnI W w B (.slice (some ⟨g, 0, none⟩) n cap) l) (hn : l.length = n) (j : Nat) (x : Int) : EnI W (w.setCell ⟨g, j, none⟩ (.int .i64 x)) B (.slice (some ⟨g, 0, none⟩) n cap) (l.set j x) := by
  obtain ⟨⟨ho, hne⟩, hb, hs⟩ := h
  have hg : B ≤ g := (ho.lt g rfl).1
  rw [hn] at ho
  obtain ⟨s1, s2⟩ := ho.stored j (.int .i64 x)
  refine ⟨⟨?_, hne⟩, hb.setCell (p := ⟨g, j, none⟩) hg _, by simpa [World.setCell] using hs⟩
  rw [List.length_set, hn]
  have e : icells (l.set j x) = (icells l).set j (.int .i64 x) := by unfold icells; rw [List.map_set]
  rw [e]
  exact s1

end Go.Proofs.Ytncganfjbalkgaa
