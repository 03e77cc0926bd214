/-
  Texts of mine put together, in build order.
  Conditions: as each declaration says.
-/
import Derived.Test.YtelfinhpjokmdaaGreatDoorRows
import Derived.WalkKit
import Derived.ProofKit
import Derived.OpenShut
import Derived.LaidMore
import Derived.LaidLaws
import Derived.Lib.Hide
import Derived.Below
import Derived.Lib.SmallJoins
import Derived.Carry
import Derived.ShutString
import Derived.Deep.Cut
import Derived.Test.YtelfinhpjokmdaaGreatDoorZn3
namespace Go.Proofs.YtelfinhpjokmdaaGreatDoor
set_option maxRecDepth 100000
set_option linter.unusedVariables false
set_option linter.unusedSectionVars false
set_option linter.unnecessarySimpa false
set_option linter.unusedSimpArgs false

section
variable {R : Type} [DecidableEq R] (O : OrdR R) (M : Mds)
/-- what lies in memory: modes, counts and queues by thing, which things there are, what each has, what each wishes -/
structure TS (R : Type) where
  md : R → Int → Int
  cn : R → Nat → Nat
  qu : R → List (Lk R)
  ex : R → Bool
  hs : Int → List R
  ws : Int → Option (Lk R)
/-- the state speaks of the lists; of the things in 'rest' t's locks and wishes (modes m0) lie there still; the things in rx lie there in any case -/
structure RelP (T : TbL R) (S : TS R) (t : Int) (rest rx : List R) (m0 : R → Int) : Prop where
  md : ∀ s u, S.md s u = if s ∈ rest ∧ u = t then m0 s else mdO T.hv u s
  cn : ∀ s (m : Nat), S.cn s m = cntM T.hv s (m : Int) + if s ∈ rest ∧ m0 s = (m : Int) ∧ m0 s ≠ 0 then 1 else 0
  qr : ∀ s, s ∈ rest → (S.qu s).filter (fun l => !decide (l.txn = t)) = que T.wt s
  qu : ∀ s, s ∉ rest → S.qu s = que T.wt s
  ex : ∀ s, S.ex s = true ↔ s ∈ rx ∨ ∃ h ∈ T.hv, h.res = s
  nd : ∀ u, (S.hs u).Nodup
  hs : ∀ u s, s ∈ S.hs u ↔ ∃ h ∈ T.hv, h.txn = u ∧ h.res = s
  ws : ∀ u, S.ws u = wsh T.wt u
abbrev RelT (T : TbL R) (S : TS R) : Prop := RelP T S 0 [] [] (fun _ => 0)
theorem RelT.any {T : TbL R} {S : TS R} (h : RelT T S) (t : Int) (m0 : R → Int) : RelP T S t [] [] m0 :=
  ⟨fun s u => by rw [h.md]; simp, fun s m => by rw [h.cn]; simp, (fun s hs => by cases hs), h.qu, h.ex, h.nd, h.hs, h.ws⟩
theorem RelP.done {T : TbL R} {S : TS R} {t : Int} {m0 : R → Int} (h : RelP T S t [] [] m0) : RelT T S :=
  ⟨fun s u => by rw [h.md]; simp, fun s m => by rw [h.cn]; simp, (fun s hs => by cases hs), h.qu, h.ex, h.nd, h.hs, h.ws⟩
def startS : TS R := ⟨fun _ _ => 0, fun _ _ => 0, fun _ => [], fun _ => false, fun _ => [], fun _ => none⟩
theorem rel_start : RelT (⟨[], []⟩ : TbL R) startS := by
  refine ⟨fun s u => ?_, fun s m => ?_, (fun s hs => by cases hs), fun s _ => ?_, fun s => ?_, fun u => List.nodup_nil, fun u s => ?_, fun u => ?_⟩
  · simp [startS, mdO]
  · simp [startS, cntM]
  · simp [startS, que]
  · simp [startS]
  · simp [startS]
  · simp [startS, wsh]

/-- the count of a mode among the others -/
def othC (cn : Nat → Nat) (own : Int) (m : Nat) : Nat := cn m - if own ≠ 0 ∧ own = (m : Int) then 1 else 0
/-- a mode goes together with all the others, by the counts -/
def admB (cn : Nat → Nat) (own mode : Int) : Bool := (List.range 7).all fun m => !(decide (0 < othC cn own m) && !M.tg (m : Int) mode)
theorem admB_iff {cn : Nat → Nat} {own mode : Int} : admB M cn own mode = true ↔ ∀ m, m < 7 → 0 < othC cn own m → M.tg (m : Int) mode = true := by
  unfold admB
  rw [List.all_eq_true]
  constructor
  · intro h m hm hp
    have := h m (List.mem_range.2 hm)
    simpa [hp] using this
  · intro h m hm
    by_cases hp : 0 < othC cn own m
    · simp [hp, h m (List.mem_range.1 hm) hp]
    · simp [hp]
theorem RelP.bu {T : TbL R} {S : TS R} {t : Int} {rest rx : List R} {m0 : R → Int} (h : RelP T S t rest rx m0) (hb : BasL O M T) {s : R} (hs : s ∉ rest) (u : Int) (m : Nat) : othC (S.cn s) (S.md s u) m = cntM (butL T.hv u s) s (m : Int) := by
  unfold othC
  have hmd : S.md s u = mdO T.hv u s := by rw [h.md, if_neg (fun e => hs e.1)]
  have hcn : S.cn s m = cntM T.hv s (m : Int) := by rw [h.cn, if_neg (fun e => hs e.1), Nat.add_zero]
  rw [hcn, hmd]
  by_cases z : m = 0
  · subst z
    have h0 : cntM T.hv s ((0 : Nat) : Int) = 0 := by
      refine Nat.eq_zero_of_not_pos fun hc => ?_
      obtain ⟨x, hx, -, e⟩ := cnt_pos.1 hc
      exact hb.nz O M x hx e
    have h1 : cntM (butL T.hv u s) s ((0 : Nat) : Int) = 0 := by
      refine Nat.eq_zero_of_not_pos fun hc => ?_
      obtain ⟨x, hx, -, e⟩ := cnt_pos.1 hc
      exact hb.nz O M x (mem_butL.1 hx).1 e
    rw [h0, h1]
    omega
  · have := cnt_but O hb.srt (hb.nz O M) u s (m := (m : Int)) (by omega)
    rw [this]
    by_cases c : mdO T.hv u s = (m : Int)
    · rw [if_pos c, if_pos ⟨by rw [c]; omega, c⟩]; omega
    · rw [if_neg c, if_neg (fun e => c e.2)]; omega
/-- whether a wish can be granted, told by the counts -/
theorem RelP.adm {T : TbL R} {S : TS R} {t : Int} {rest rx : List R} {m0 : R → Int} (h : RelP T S t rest rx m0) (hb : BasL O M T) (hM : ∀ m, M.right m = true → 0 ≤ m ∧ m < 7) {s : R} (hs : s ∉ rest) (u : Int) (mode : Int) : admB M (S.cn s) (S.md s u) mode = can M T.hv ⟨u, s, mode⟩ := by
  rw [Bool.eq_iff_iff, admB_iff, can_cnt]
  constructor
  · intro g m hm
    obtain ⟨x, hx, -, e⟩ := cnt_pos.1 hm
    obtain ⟨m1, m2⟩ := hM _ (hb.rt x (mem_butL.1 hx).1)
    rw [e] at m1 m2
    have := g m.toNat (by omega) (by rw [h.bu O M hb hs]; rw [show ((m.toNat : Nat) : Int) = m by omega]; exact hm)
    rw [show ((m.toNat : Nat) : Int) = m by omega] at this
    exact this
  · intro g m hm hp
    rw [h.bu O M hb hs] at hp
    exact g _ hp
/-- a lock given, in memory -/
def grantS (S : TS R) (l : Lk R) : TS R where
  md s u := if s = l.res ∧ u = l.txn then l.mode else S.md s u
  cn s m := if s = l.res then othC (S.cn s) (S.md s l.txn) m + (if l.mode = (m : Int) then 1 else 0) else S.cn s m
  qu := S.qu
  ex s := if s = l.res then true else S.ex s
  hs u := if u = l.txn ∧ S.md l.res l.txn = 0 then S.hs u ++ [l.res] else S.hs u
  ws := S.ws
theorem mem_gv_key {l : Lk R} {H : List (Lk R)} (hs : SrtL O H) (u : Int) (s : R) : (∃ h ∈ gv O l H, h.txn = u ∧ h.res = s) ↔ (l.txn = u ∧ l.res = s) ∨ ∃ h ∈ H, h.txn = u ∧ h.res = s := by
  constructor
  · rintro ⟨h, hh, e1, e2⟩
    rcases (mem_gv O hs).1 hh with e | ⟨e, _⟩
    · exact .inl ⟨by rw [← e]; exact e1, by rw [← e]; exact e2⟩
    · exact .inr ⟨h, e, e1, e2⟩
  · rintro (⟨e1, e2⟩ | ⟨h, hh, e1, e2⟩)
    · exact ⟨l, (mem_gv O hs).2 (.inl rfl), e1, e2⟩
    · by_cases k : keyE l h
      · exact ⟨l, (mem_gv O hs).2 (.inl rfl), k.1.trans e1, k.2.trans e2⟩
      · exact ⟨h, (mem_gv O hs).2 (.inr ⟨hh, k⟩), e1, e2⟩
theorem has_iff {H : List (Lk R)} (hs : SrtL O H) (hp : ∀ x ∈ H, x.mode ≠ 0) (u : Int) (s : R) : (∃ h ∈ H, h.txn = u ∧ h.res = s) ↔ mdO H u s ≠ 0 := by
  constructor
  · rintro ⟨h, hh, rfl, rfl⟩
    rw [mdO_of O hs hh]
    exact hp h hh
  · intro h
    exact ⟨_, mdO_mem h, rfl, rfl⟩
theorem RelP.grant {T : TbL R} {S : TS R} {t : Int} {rest rx : List R} {m0 : R → Int} (h : RelP T S t rest rx m0) (hb : BasL O M T) {l : Lk R} (hs : l.res ∉ rest) (hl : l.mode ≠ 0) :
    RelP ⟨gv O l T.hv, T.wt⟩ (grantS S l) t rest rx m0 := by
  refine ⟨fun s u => ?_, fun s m => ?_, h.qr, h.qu, fun s => ?_, fun u => ?_, fun u s => ?_, h.ws⟩
  · show (if s = l.res ∧ u = l.txn then l.mode else S.md s u) = _
    rw [mdO_gv O hb.srt l hl (hb.nz O M), h.md]
    by_cases c : s = l.res ∧ u = l.txn
    · obtain ⟨rfl, rfl⟩ := c
      rw [if_pos ⟨rfl, rfl⟩, if_neg (fun e => hs e.1), if_pos ⟨rfl, rfl⟩]
    · rw [if_neg c, if_neg (show ¬ (l.txn = u ∧ l.res = s) from fun e => c ⟨e.2.symm, e.1.symm⟩)]
  · show (if s = l.res then othC (S.cn s) (S.md s l.txn) m + (if l.mode = (m : Int) then 1 else 0) else S.cn s m) = cntM (gv O l T.hv) s (m : Int) + _
    rw [cnt_gv O hb.srt]
    by_cases c : s = l.res
    · subst c
      rw [if_pos rfl, h.bu O M hb hs]
      have hz : (if l.res ∈ rest ∧ m0 l.res = (m : Int) ∧ m0 l.res ≠ 0 then 1 else 0) = 0 := if_neg (fun e => hs e.1)
      rw [hz, Nat.add_zero]
      by_cases e : l.mode = (m : Int)
      · rw [if_pos e, if_pos ⟨rfl, e⟩]
      · rw [if_neg e, if_neg (fun g => e g.2)]
    · rw [if_neg c, h.cn, if_neg (show ¬ (l.res = s ∧ l.mode = (m : Int)) from fun g => c g.1.symm), Nat.add_zero, cnt_other _ c]
  · show (if s = l.res then true else S.ex s) = true ↔ _
    by_cases c : s = l.res
    · rw [if_pos c]
      exact ⟨fun _ => .inr ⟨l, (mem_gv O hb.srt).2 (.inl rfl), c.symm⟩, fun _ => rfl⟩
    · rw [if_neg c, h.ex]
      refine or_congr_right ⟨fun ⟨x, hx, e⟩ => ⟨x, (mem_gv O hb.srt).2 (.inr ⟨hx, fun k => c (by rw [← e, ← k.2])⟩), e⟩, fun ⟨x, hx, e⟩ => ?_⟩
      rcases (mem_gv O hb.srt).1 hx with g | ⟨g, _⟩
      · rw [g] at e; exact absurd e.symm c
      · exact ⟨x, g, e⟩
  · show (if u = l.txn ∧ S.md l.res l.txn = 0 then S.hs u ++ [l.res] else S.hs u).Nodup
    split
    · rename_i c
      refine List.nodup_append.2 ⟨h.nd u, by simp, fun a ha b hb2 e => ?_⟩
      simp at hb2
      rw [e, hb2, h.hs, has_iff O hb.srt (hb.nz O M), c.1] at ha
      have := c.2
      rw [h.md, if_neg (fun e => hs e.1)] at this
      exact ha this
    · exact h.nd u
  · show s ∈ (if u = l.txn ∧ S.md l.res l.txn = 0 then S.hs u ++ [l.res] else S.hs u) ↔ ∃ h ∈ gv O l T.hv, h.txn = u ∧ h.res = s
    rw [mem_gv_key O hb.srt]
    have hm : S.md l.res l.txn = mdO T.hv l.txn l.res := by rw [h.md, if_neg (fun e => hs e.1)]
    by_cases c : u = l.txn
    · subst c
      by_cases z : S.md l.res l.txn = 0
      · rw [if_pos ⟨rfl, z⟩, List.mem_append, List.mem_singleton, h.hs]
        constructor
        · rintro (e | e)
          · exact .inr e
          · exact .inl ⟨rfl, e.symm⟩
        · rintro (e | e)
          · exact .inr e.2.symm
          · exact .inl e
      · rw [if_neg (fun e => z e.2), h.hs]
        constructor
        · exact .inr
        · rintro (⟨-, rfl⟩ | e)
          · rw [has_iff O hb.srt (hb.nz O M), ← hm]; exact z
          · exact e
    · rw [if_neg (fun e => c e.1), h.hs]
      constructor
      · exact .inr
      · rintro (⟨e, -⟩ | e)
        · exact absurd e.symm c
        · exact e
/-- a wish put -/
def waitQ (md : Int → Int) (q : List (Lk R)) (l : Lk R) : List (Lk R) := if md l.txn = 0 then q ++ [l] else q.takeWhile (fun x => !decide (md x.txn = 0)) ++ l :: q.dropWhile (fun x => !decide (md x.txn = 0))
def waitS (S : TS R) (l : Lk R) : TS R where
  md := S.md
  cn := S.cn
  qu s := if s = l.res then waitQ (S.md s) (S.qu s) l else S.qu s
  ex := S.ex
  hs := S.hs
  ws u := if u = l.txn then some l else S.ws u
theorem RelT.wait {T : TbL R} {S : TS R} (h : RelT T S) (hi : InvL O M T) {l : Lk R} (hw : wsh T.wt l.txn = none) :
    RelT ⟨T.hv, T.wt ++ [⟨l, !decide (mdO T.hv l.txn l.res = 0)⟩]⟩ (waitS S l) := by
  have hm : ∀ s u, S.md s u = mdO T.hv u s := fun s u => by rw [h.md, if_neg (fun e => by cases e.1)]
  refine ⟨h.md, h.cn, (fun s hs => by cases hs), fun s _ => ?_, h.ex, h.nd, h.hs, fun u => ?_⟩
  · show (if s = l.res then waitQ (S.md s) (S.qu s) l else S.qu s) = _
    by_cases c : s = l.res
    · subst c
      rw [if_pos rfl, h.qu _ (by simp)]
      have hf : S.md l.res = fun u => mdO T.hv u l.res := funext fun u => hm _ u
      rw [hf]
      unfold waitQ
      by_cases z : mdO T.hv l.txn l.res = 0
      · rw [if_pos z, z]
        exact que_wait_new.symm
      · rw [if_neg z, show (!decide (mdO T.hv l.txn l.res = 0)) = true by simp [z]]
        exact (que_wait_ch O M hi).symm
    · rw [if_neg c, h.qu _ (by simp)]
      exact (que_wait_other (fun e => c e.symm)).symm
  · show (if u = l.txn then some l else S.ws u) = wsh (T.wt ++ [_]) u
    unfold wsh at hw ⊢
    rw [List.find?_append]
    by_cases c : u = l.txn
    · subst c
      rw [if_pos rfl]
      rw [Option.map_eq_none_iff] at hw
      rw [hw]
      simp
    · rw [if_neg c, h.ws]
      unfold wsh
      have : ([⟨l, !decide (mdO T.hv l.txn l.res = 0)⟩] : List (Ws R)).find? (fun w => decide (w.l.txn = u)) = none := by
        rw [List.find?_cons_of_neg (by simpa using fun e : l.txn = u => c e.symm), List.find?_nil]
      rw [this, Option.or_none]
end

end Go.Proofs.YtelfinhpjokmdaaGreatDoor

namespace Go.Proofs.YtelfinhpjokmdaaGreatDoor
set_option maxRecDepth 100000
open Go.RowKit Go.Joins Go.ChangeShapes Go.WideShapes
open Go.MapKept
set_option linter.unusedVariables false
set_option linter.unnecessarySimpa false
set_option linter.unusedSimpArgs false

abbrev RS := List UInt8
/-- the cells of a thing -/
def thC (mb : Nat) (cn : Nat → Nat) (qv : Value) : Array Value := #[.map (some mb), .int .i64 (cn 0 : Nat), .int .i64 (cn 1 : Nat), .int .i64 (cn 2 : Nat), .int .i64 (cn 3 : Nat), .int .i64 (cn 4 : Nat), .int .i64 (cn 5 : Nat), .int .i64 (cn 6 : Nat), qv]
/-- what a transaction's mode is in the map -/
def mdV (md : Int → Int) (t : Int) : Option Value := if md t = 0 then none else some (.int .i64 (md t))
/-- a thing in memory -/
structure ThM (w : World) (B g mb : Nat) (md : Int → Int) (cn : Nat → Nat) (qv : Value) (q : List Lv) : Prop where
  box : w.heap[g]? = some (.cells (thC mb cn qv) 59 (0, 0))
  mp : ∃ n, IMap (.int .i64) ik w mb (mdV md) n
  qr : OwL w B qv q
section
variable {w w1 : World} {B g mb : Nat} {md : Int → Int} {cn : Nat → Nat} {qv : Value} {q : List Lv}
theorem ThM.lt (h : ThM w B g mb md cn qv q) : g < w.heap.size := (Array.getElem?_eq_some_iff.1 h.box).1
theorem ThM.ne (h : ThM w B g mb md cn qv q) : g ≠ mb := by
  rintro rfl
  obtain ⟨n, es, c, h1, -⟩ := h.mp
  rw [h.box] at h1
  injection h1 with h1
  cases h1
theorem ThM.step {F : Bl} (h : ThM w B g mb md cn qv q) (hf : Frm F w w1) (h1 : ¬ F g) (h2 : ¬ F mb) (h3 : ∀ k, qv.ownBlock = some k → ¬ F k) : ThM w1 B g mb md cn qv q := by
  obtain ⟨n, hm⟩ := h.mp
  exact ⟨(hf.heap h.lt h1).trans h.box, ⟨n, hm.step hf h2⟩, hf.owL h.qr h3⟩
theorem ThM.below (h : ThM w B g mb md cn qv q) (hb : Below w.heap.size w w1) : ThM w1 B g mb md cn qv q := h.step (F := fun _ => False) (Frm.of_below hb) (fun h => h) (fun h => h) (fun _ _ h => h)
theorem ThM.c0 (h : ThM w B g mb md cn qv q) : w.cell? ⟨g, 0, none⟩ = some (.map (some mb)) := by rw [cell_of_block h.box]; rfl
theorem ThM.c8 (h : ThM w B g mb md cn qv q) : w.cell? ⟨g, 8, none⟩ = some qv := by rw [cell_of_block h.box]; rfl
theorem ThM.fr (h : ThM w B g mb md cn qv q) (i : Nat) : w.frozen? ⟨g, i, none⟩ = false := unfrozen_of_block h.box i
theorem ThM.cc (h : ThM w B g mb md cn qv q) {m : Nat} (hm : m < 7) : w.cell? ⟨g, 1 + m, none⟩ = some (.int .i64 (cn m : Nat)) := by
  rw [cell_of_block h.box]
  match m, hm with
  | 0, _ => rfl
  | 1, _ => rfl
  | 2, _ => rfl
  | 3, _ => rfl
  | 4, _ => rfl
  | 5, _ => rfl
  | 6, _ => rfl
  | n + 7, h => omega
/-- a count written -/
theorem thC_set {m : Nat} (hm : m < 7) (z : Nat) (cn' : Nat → Nat) (hc : ∀ i, cn' i = if i = m then z else cn i) (hg : w.heap[g]? = some (.cells (thC mb cn qv) 59 (0, 0))) :
    (w.setCell ⟨g, 1 + m, none⟩ (.int .i64 (z : Nat))).heap[g]? = some (.cells (thC mb cn' qv) 59 (0, 0)) := by
  rw [setCell_eq_setRow w g (1 + m) _ _ _ _ hg, setRow_heap w g _ _ _ _ hg]
  have : (thC mb cn qv).setIfInBounds (1 + m) (.int .i64 (z : Nat)) = thC mb cn' qv := by
    unfold thC
    rw [hc 0, hc 1, hc 2, hc 3, hc 4, hc 5, hc 6]
    match m, hm with
    | 0, _ => rfl
    | 1, _ => rfl
    | 2, _ => rfl
    | 3, _ => rfl
    | 4, _ => rfl
    | 5, _ => rfl
    | 6, _ => rfl
    | n + 7, h => omega
  rw [this]
theorem ThM.look (h : ThM w B g mb md cn qv q) (t : Int) : (Instr.lookup 56 (.map (some mb)) (.int .i64 t) true).run Tryz.prog w = .ok (.tuple #[.int .i64 (md t), .bool (!decide (md t = 0))]) w := by
  obtain ⟨n, hm⟩ := h.mp
  have := hm.look (P := Tryz.prog) (t := 56) Tryz.underlying56 Tryz.underlying3 ik_key (z := .int .i64 0) rfl t true
  rw [this]
  unfold mdV
  by_cases c : md t = 0
  · rw [if_pos c, c]; rfl
  · rw [if_neg c]; simp [c]
theorem ThM.look1 (h : ThM w B g mb md cn qv q) (t : Int) : (Instr.lookup 56 (.map (some mb)) (.int .i64 t) false).run Tryz.prog w = .ok (.int .i64 (md t)) w := by
  obtain ⟨n, hm⟩ := h.mp
  have := hm.look (P := Tryz.prog) (t := 56) Tryz.underlying56 Tryz.underlying3 ik_key (z := .int .i64 0) rfl t false
  rw [this]
  unfold mdV
  by_cases c : md t = 0
  · rw [if_pos c, c]; rfl
  · rw [if_neg c]; simp [c]
theorem has_any (h : ThM w B g mb md cn qv q) (t : Int) : Calls Tryz.prog 48 #[.pointer (some ⟨g, 0, none⟩), .int .i64 t] w fun e w' => e = .returned (.bool (!decide (md t = 0))) ∧ w = w' := by
  have c0 := h.c0
  have hl := h.look t
  generalize (!decide (md t = 0)) = r at hl ⊢
  generalize md t = m at hl
  clear h
  go_enter Tryz.func48, Tryz.ntmps48
  go_wp2
  go_ret
  exact ⟨rfl, rfl⟩
theorem ThM.own (h : ThM w B g mb md cn qv q) : ∀ k, qv.ownBlock = some k → k ≠ g ∧ k ≠ mb := by
  intro k hk
  obtain ⟨n, es, c, h1, -⟩ := h.mp
  rcases h.qr.cases with ⟨rfl, -⟩ | ⟨g', cap, cur, rfl, hb, hg, -⟩
  · simp [Value.ownBlock] at hk
  · simp only [Value.ownBlock, Option.some.injEq] at hk
    subst hk
    refine ⟨?_, ?_⟩
    · rintro rfl
      have := h.box
      rw [hg] at this
      injection this with this
      injection this with e1 e2
      exact absurd e2 (by decide)
    · rintro rfl
      rw [hg] at h1
      injection h1 with h1
      cases h1
/-- what taking away and giving leave of the counts -/
theorem ThM.del (h : ThM w B g mb md cn qv q) (t : Int) (ty : TypeId) : ∃ w', (Builtin.delete_ #[56, 3] ty #[.map (some mb), .int .i64 t]).run Tryz.prog w = .ok (.tuple #[]) w' ∧ ThM w' B g mb (fun u => if u = t then 0 else md u) cn qv q ∧ Frm (fun k => k = mb) w w' ∧ w'.heap.size = w.heap.size := by
  obtain ⟨n, hm⟩ := h.mp
  obtain ⟨w', hr, m, gr, hz⟩ := hm.del (P := Tryz.prog) (t := 56) (ty := ty) Tryz.underlying56 Tryz.underlying3 ik_key ik_inj t
  have hf : Frm (fun k => k = mb) w w' := Frm.grown (Frm.refl _ w) gr (fun k hk => by injection hk with hk; exact .inl hk.symm)
  have he : (fun k' => if k' = t then none else mdV md k') = mdV (fun u => if u = t then 0 else md u) := funext fun u => by
    unfold mdV
    by_cases c : u = t
    · simp [c]
    · simp [c]
  rw [he] at m
  exact ⟨w', hr, ⟨(hf.heap h.lt h.ne).trans h.box, ⟨_, m⟩, hf.owL h.qr (fun k hk e => (h.own k hk).2 e)⟩, hf, hz⟩
theorem ThM.put (h : ThM w B g mb md cn qv q) (t m : Int) (hm0 : m ≠ 0) : ∃ w', (Instr.mapUpdate 56 (.map (some mb)) (.int .i64 t) (.int .i64 m)).run Tryz.prog w = .ok () w' ∧ ThM w' B g mb (fun u => if u = t then m else md u) cn qv q ∧ Frm (fun k => k = mb) w w' ∧ w'.heap.size = w.heap.size := by
  obtain ⟨n, hm⟩ := h.mp
  obtain ⟨w', hr, mm, gr, hz⟩ := hm.put (P := Tryz.prog) (t := 56) Tryz.underlying56 Tryz.underlying3 ik_key ik_inj t (.int .i64 m)
  have hf : Frm (fun k => k = mb) w w' := Frm.grown (Frm.refl _ w) gr (fun k hk => by injection hk with hk; exact .inl hk.symm)
  have he : (fun k' => if k' = t then some (Value.int .i64 m) else mdV md k') = mdV (fun u => if u = t then m else md u) := funext fun u => by
    unfold mdV
    by_cases c : u = t
    · simp [c, hm0]
    · simp [c]
  rw [he] at mm
  exact ⟨w', hr, ⟨(hf.heap h.lt h.ne).trans h.box, ⟨_, mm⟩, hf.owL h.qr (fun k hk e => (h.own k hk).2 e)⟩, hf, hz⟩
/-- a count written -/
theorem ThM.cnt (h : ThM w B g mb md cn qv q) {m : Nat} (hm : m < 7) (z : Nat) (cn' : Nat → Nat) (hc : ∀ i, cn' i = if i = m then z else cn i) :
    ThM (w.setCell ⟨g, 1 + m, none⟩ (.int .i64 (z : Nat))) B g mb md cn' qv q ∧ Frm (fun k => k = g) w (w.setCell ⟨g, 1 + m, none⟩ (.int .i64 (z : Nat))) := by
  obtain ⟨n, hmp⟩ := h.mp
  have hf : Frm (fun k => k = g) w (w.setCell ⟨g, 1 + m, none⟩ (.int .i64 (z : Nat))) := Frm.set1 (F := fun k => k = g) w rfl _ _
  exact ⟨⟨thC_set hm z cn' hc h.box, ⟨n, hmp.step hf (fun e => h.ne e.symm)⟩, hf.owL h.qr (fun k hk e => (h.own k hk).1 e)⟩, hf⟩
theorem oth_at {cn : Nat → Nat} {m : Nat} (hm : m ≠ 0) (i : Nat) : othC cn (m : Int) i = if i = m then cn m - 1 else cn i := by
  unfold othC
  by_cases c : i = m
  · subst c
    rw [if_pos ⟨by omega, rfl⟩, if_pos rfl]
  · rw [if_neg (fun e => c (by omega)), if_neg c]; rfl
theorem oth_none {cn : Nat → Nat} : othC cn 0 = cn := funext fun i => by unfold othC; simp
set_option maxHeartbeats 1000000 in
theorem take_any (h : ThM w B g mb md cn qv q) (t : Int) (hr : md t = 0 ∨ (0 < md t ∧ md t < 7)) (hp : md t ≠ 0 → 0 < cn (md t).toNat) (hN : ∀ m, cn m ≤ 4294967296) :
    Calls Tryz.prog 32 #[.pointer (some ⟨g, 0, none⟩), .int .i64 t] w fun e w' => e = .returned (.tuple #[]) ∧ ThM w' B g mb (fun u => if u = t then 0 else md u) (othC cn (md t)) qv q ∧ Frm (fun k => k = g ∨ k = mb) w w' := by
  generalize hP : (fun (e : Ending) (w' : World) => e = .returned (.tuple #[]) ∧ ThM w' B g mb (fun u => if u = t then 0 else md u) (othC cn (md t)) qv q ∧ Frm (fun k => k = g ∨ k = mb) w w') = P
  have HP := Lib.hid hP
  clear hP
  have c0 := h.c0
  have hl := h.look t
  by_cases c : md t = 0
  · have HF := Lib.hid (show P (.returned (.tuple #[])) w by
      rw [← HP.out]
      have e : (fun u => if u = t then 0 else md u) = md := funext fun u => by
        by_cases c' : u = t
        · simp [c', c]
        · simp [c']
      rw [e, c, oth_none]
      exact ⟨rfl, h, Frm.refl _ _⟩)
    rw [c] at hl
    simp only [decide_true, Bool.not_true] at hl
    clear h hr hp HP c
    go_enter Tryz.func32, Tryz.ntmps32
    go_wp2
    exact bodyPost_ret (v := .tuple #[]) (by simp [results, Tryz.results32, go_sem]) rfl HF.out
  · obtain ⟨m, hm⟩ : ∃ m : Nat, md t = m := ⟨(md t).toNat, by omega⟩
    rw [hm] at hl hp hr HP
    have m7 : m < 7 := by omega
    have m0 : m ≠ 0 := by omega
    have hd : decide ((m : Int) = 0) = false := decide_eq_false (by omega)
    rw [hd, Bool.not_false] at hl
    obtain ⟨w1, hdel, h1, f1, z1⟩ := h.del t 0
    have d0 := h1.c0
    have dm := h1.cc m7
    have fz := h1.fr (1 + m)
    obtain ⟨z, hz⟩ : ∃ z, cn m = z + 1 := ⟨cn m - 1, by have := hp (by omega); simp at this; omega⟩
    have hNm := hN m
    rw [hz] at dm hNm
    have HF := Lib.hid (show P (.returned (.tuple #[])) (w1.setCell ⟨g, 1 + m, none⟩ (.int .i64 (z : Nat))).drew by
      rw [← HP.out]
      obtain ⟨h3, f3⟩ := h1.cnt m7 z (othC cn (m : Int)) (fun i => by rw [oth_at m0, hz]; rfl)
      refine ⟨rfl, h3.below (Below.refl _ _).drew, ((f1.mono (F1 := fun k => k = g ∨ k = mb) fun k hk => .inr hk).trans (f3.mono (F1 := fun k => k = g ∨ k = mb) fun k hk => .inl hk) (New.refl _ _)).drew⟩)
    have hw : IntKind.i64.wrap (z : Int) = (z : Int) := IntWalk.i64_in _ (by omega)
    have mi : (m : Int) < 7 := by omega
    have mi0 : (0 : Int) ≤ (m : Int) := by omega
    have lg : g < w1.heap.size := by rw [z1]; exact h.lt
    clear h h1 f1 hr hp hN HP hm hz c hd
    go_enter Tryz.func32, Tryz.ntmps32
    go_wp2_with fail
    go_region_with fail
    all_goals
      go_wp2_with fail
      exact bodyPost_ret (v := .tuple #[]) (by simp [results, Tryz.results32, go_sem]) rfl HF.out
theorem give_cn {cn : Nat → Nat} {own mode : Int} {j : Nat} (hj : mode = (j : Int)) (i : Nat) : (othC cn own i + if mode = (i : Int) then 1 else 0) = if i = j then othC cn own j + 1 else othC cn own i := by
  by_cases c : i = j
  · subst c; rw [if_pos hj, if_pos rfl]
  · rw [if_neg (fun e => c (by omega)), if_neg c]; rfl
theorem oth_le {cn : Nat → Nat} {own : Int} {N : Nat} (h : ∀ m, cn m ≤ N) (m : Nat) : othC cn own m ≤ N := by
  unfold othC
  have := h m
  omega
set_option maxHeartbeats 1000000 in
theorem give_any (h : ThM w B g mb md cn qv q) (t mode : Int) (hr : md t = 0 ∨ (0 < md t ∧ md t < 7)) (hp : md t ≠ 0 → 0 < cn (md t).toNat) (hN : ∀ m, cn m ≤ 4294967296) (hm1 : 0 < mode) (hm2 : mode < 7) :
    Calls Tryz.prog 49 #[.pointer (some ⟨g, 0, none⟩), .int .i64 t, .int .i64 mode] w fun e w' => e = .returned (.tuple #[]) ∧ ThM w' B g mb (fun u => if u = t then mode else md u) (fun m => othC cn (md t) m + if mode = (m : Int) then 1 else 0) qv q ∧ Frm (fun k => k = g ∨ k = mb) w w' := by
  generalize hP : (fun (e : Ending) (w' : World) => e = .returned (.tuple #[]) ∧ ThM w' B g mb (fun u => if u = t then mode else md u) (fun m => othC cn (md t) m + if mode = (m : Int) then 1 else 0) qv q ∧ Frm (fun k => k = g ∨ k = mb) w w') = P
  have HP := Lib.hid hP
  clear hP
  have HT := Lib.hid (take_any h t hr hp hN)
  have HO := Lib.hid (oth_le (own := md t) hN)
  obtain ⟨cn1, hcn1⟩ : ∃ c, othC cn (md t) = c := ⟨_, rfl⟩
  rw [hcn1] at HT HP HO
  obtain ⟨m, rfl⟩ : ∃ m : Nat, mode = m := ⟨mode.toNat, by omega⟩
  have m7 : m < 7 := by omega
  clear h hr hp hN hcn1
  go_enter Tryz.func49, Tryz.ntmps49
  go_wp2_with fail
  refine HT.out.mono ?_
  rintro e w1 ⟨rfl, h1, f1⟩
  obtain ⟨w2, hput, h2, f2, z2⟩ := h1.put t (m : Int) (by omega)
  have d0 := h1.c0
  have dm := h2.cc m7
  have fz := h2.fr (1 + m)
  have hN1 := HO.out m
  obtain ⟨z, hz⟩ : ∃ z, cn1 m = z := ⟨_, rfl⟩
  rw [hz] at dm hN1
  have HF := Lib.hid (show P (.returned (.tuple #[])) (w2.setCell ⟨g, 1 + m, none⟩ (.int .i64 ((z + 1 : Nat) : Int))).drew by
    rw [← HP.out]
    obtain ⟨h3, f3⟩ := h2.cnt m7 (z + 1) (fun i => cn1 i + if (m : Int) = (i : Int) then 1 else 0) (fun i => by
      by_cases c : i = m
      · subst c; rw [if_pos rfl, if_pos rfl, hz]
      · rw [if_neg (fun e => c (by omega)), if_neg c]; rfl)
    have e : (fun u => if u = t then (m : Int) else if u = t then 0 else md u) = fun u => if u = t then (m : Int) else md u := funext fun u => by
      by_cases c : u = t
      · simp [c]
      · simp [c]
    rw [e] at h3
    exact ⟨rfl, h3.below (Below.refl _ _).drew, ((f1.trans (f2.mono (F1 := fun k => k = g ∨ k = mb) fun k hk => .inr hk) (New.refl _ _)).trans (f3.mono (F1 := fun k => k = g ∨ k = mb) fun k hk => .inl hk) (New.refl _ _)).drew⟩)
  have hw : IntKind.i64.wrap ((z : Int) + 1) = (z : Int) + 1 := IntWalk.i64_in _ (by omega)
  have mi : (m : Int) < 7 := by omega
  have mi0 : (0 : Int) ≤ (m : Int) := by omega
  have lg : g < w2.heap.size := h2.lt
  clear h1 h2 f1 f2 hm1 hm2 hz hN1 HP HO HT
  go_wp2_with fail
  go_region_with fail
  all_goals
    go_wp2_with fail
    exact bodyPost_ret (v := .tuple #[]) (by simp [results, Tryz.results49, go_sem]) rfl HF.out

end
end Go.Proofs.YtelfinhpjokmdaaGreatDoor

namespace Go.Proofs.YtelfinhpjokmdaaGreatDoor
open Go.ChangeShapes Go.WideShapes Go.RowKit
set_option linter.unusedVariables false
set_option linter.unusedSimpArgs false

def tgL : List (List Bool) := [[true, true, true, true, true, true, true], [true, true, true, true, true, true, false], [true, true, true, false, false, false, false], [true, true, false, true, false, true, false], [true, true, false, false, false, false, false], [true, true, false, true, false, false, false], [true, false, false, false, false, false, false]]
def cvL : List (List Bool) := [[true, false, false, false, false, false, false], [true, true, false, false, false, false, false], [true, true, true, false, false, false, false], [true, true, false, true, false, false, false], [true, true, true, true, true, false, false], [true, true, false, true, false, true, false], [true, true, true, true, true, true, true]]
def tbD {H : Type} (L : List (List Bool)) : DataW H := .agg (L.map fun r => .agg (r.map fun b => .lit (.bool b)))
def tb (L : List (List Bool)) (i j : Nat) : Bool := (L.getD i []).getD j false
/-- global g holds the table L -/
def TabB (w : World) (g : Nat) (L : List (List Bool)) : Prop := g < w.heap.size ∧ ∀ i j, i < 7 → j < 7 → w.cell? ⟨g, i * 7 + j, none⟩ = some (.bool (tb L i j))
theorem TabB.below {w w1 : World} {g : Nat} {L : List (List Bool)} (h : TabB w g L) (hb : Below w.heap.size w w1) : TabB w1 g L := ⟨Nat.lt_of_lt_of_le h.1 hb.size, fun i j hi hj => (hb.cell h.1).trans (h.2 i j hi hj)⟩

section
variable {H : Type} {enc : TypeId × Value → H} {P : Program} {w : World} {base : Nat} {sp : Nat → Bool} {held : Bool}
theorem row_bools {fuel n : Nat} {t e : TypeId} {cs : List Value} {bs : List Bool} {p : List MemPlace} (ht : P.underlying t = some (.array n e)) (he : P.underlying e = some .bool) (hce : P.cellsOf e = 1)
    (h : DataW.trod enc P w base sp held fuel t cs = some (.agg (bs.map fun b => .lit (.bool b)), p)) : ∀ j b, j < n → bs[j]? = some b → cs[j]? = some (.bool b) := by
  obtain ⟨xs, m, rfl, hx, hl, hn, hel⟩ := DataW.trod_array ht h
  intro j b hj hb
  have h1 := hel j hj
  rw [hce, Nat.mul_one] at h1
  have hxj : xs[j]? = some (xs[j]'(by omega)) := List.getElem?_eq_getElem _
  rw [hxj] at h1
  obtain ⟨b', e1, e2⟩ := DataW.trod_bool he h1
  have hd := congrArg Prod.fst hx
  simp only [DataW.agg.injEq] at hd
  have h2 : (bs.map fun b => (.lit (.bool b) : DataW H))[j]? = some (xs[j]'(by omega)).1 := by rw [hd, List.getElem?_map, hxj]; rfl
  rw [List.getElem?_map, hb, e2] at h2
  simp only [Option.map_some, Option.some.injEq, DataW.lit.injEq, Lit.bool.injEq] at h2
  subst h2
  have h3 : (cs.drop j)[0]? = some (.bool b) := by
    have : ((cs.drop j).take 1)[0]? = some (.bool b) := by rw [e1]; rfl
    rw [List.getElem?_take] at this
    simpa using this
  simpa using h3
theorem tab_bools {fuel : Nat} {t e u : TypeId} {cs : List Value} {L : List (List Bool)} {p : List MemPlace} (ht : P.underlying t = some (.array 7 u)) (hu : P.underlying u = some (.array 7 e)) (he : P.underlying e = some .bool) (hce : P.cellsOf e = 1) (hcu : P.cellsOf u = 7)
    (h : DataW.trod enc P w base sp held fuel t cs = some (tbD L, p)) : ∀ i j r b, i < 7 → j < 7 → L[i]? = some r → r[j]? = some b → cs[i * 7 + j]? = some (.bool b) := by
  obtain ⟨xs, m, rfl, hx, hl, hn, hel⟩ := DataW.trod_array ht h
  intro i j r b hi hj hr hb
  have h1 := hel i hi
  rw [hcu] at h1
  have hxi : xs[i]? = some (xs[i]'(by omega)) := List.getElem?_eq_getElem _
  rw [hxi] at h1
  have hd := congrArg Prod.fst hx
  unfold tbD at hd
  simp only [DataW.agg.injEq] at hd
  have h2 : (L.map fun r => (.agg (r.map fun b => .lit (.bool b)) : DataW H))[i]? = some (xs[i]'(by omega)).1 := by rw [hd, List.getElem?_map, hxi]; rfl
  rw [List.getElem?_map, hr] at h2
  simp only [Option.map_some, Option.some.injEq] at h2
  have h3 : DataW.trod enc P w base sp held m u ((cs.drop (i * 7)).take 7) = some (.agg (r.map fun b => .lit (.bool b)), (xs[i]'(by omega)).2) := by rw [h1, ← Prod.eta (xs[i]'(by omega)), ← h2]
  have h4 := row_bools hu he hce h3 j b hj hb
  rw [List.getElem?_take, if_pos hj, List.getElem?_drop] at h4
  exact h4
end

theorem gTog : Tryz.prog.globalNamed "hasp/modes.together" = some 1 := by kernel_rfl
theorem gCov : Tryz.prog.globalNamed "hasp/modes.covers" = some 0 := by kernel_rfl
theorem tTog : (Tryz.prog.globals[1]?).map (·.type) = some 88 := by kernel_rfl
theorem tCov : (Tryz.prog.globals[0]?).map (·.type) = some 88 := by kernel_rfl
theorem cBool : Tryz.prog.cellsOf 4 = 1 := by kernel_rfl
theorem cRow7 : Tryz.prog.cellsOf 87 = 7 := by kernel_rfl
theorem laid_eq : ([("hasp/modes.together", Rows.laid_hasp_modes_together), ("hasp/modes.covers", Rows.laid_hasp_modes_covers)] : List (String × DataW Unit)) = [("hasp/modes.together", tbD tgL), ("hasp/modes.covers", tbD cvL)] := rfl
theorem tab_of {w : World} {name : String} {g : Nat} {cs : Array Value} {fuel : Nat} {L : List (List Bool)} {p : List MemPlace} (hg : Tryz.prog.globalNamed name = some g) (hv : w.var? Tryz.prog name = some cs) (h : DataW.trod (fun _ => ()) Tryz.prog w 0 (fun _ => true) false fuel 88 cs.toList = some (tbD L, p))
    (hL : ∀ i j, i < 7 → j < 7 → ∃ r, L[i]? = some r ∧ r[j]? = some (tb L i j)) : TabB w g L := by
  have h1 := tab_bools Tryz.underlying88 Tryz.underlying87 Tryz.underlying4 cBool cRow7 h
  have hc : ∀ i j, i < 7 → j < 7 → w.cell? ⟨g, i * 7 + j, none⟩ = some (.bool (tb L i j)) := by
    intro i j hi hj
    obtain ⟨r, hr, hb⟩ := hL i j hi hj
    have h2 := h1 i j r _ hi hj hr hb
    rw [World.var?_cell hg hv]
    rw [← Array.getElem?_toList]
    exact h2
  exact ⟨World.block_lt_of_cell? w _ (hc 0 0 (by decide) (by decide)), hc⟩
/-- what the row's condition gives -/
theorem tabs_of_laid {W : World} (h : laidMetH Tryz.prog [("hasp/modes.together", Rows.laid_hasp_modes_together), ("hasp/modes.covers", Rows.laid_hasp_modes_covers)] W) : TabB W 1 tgL ∧ TabB W 0 cvL := by
  rw [laid_eq, MakeChecks.laidMetH_plain _ _ _ rfl] at h
  obtain ⟨ps, ⟨g0, t0, cs0, f0, p0, q0, hg0, ht0, hv0, hd0, ⟨g1, t1, cs1, f1, p1, q1, hg1, ht1, hv1, hd1, _, _⟩, _⟩, _, _⟩ := h
  obtain rfl := Option.some.inj (gTog.symm.trans hg0)
  obtain rfl := Option.some.inj (gCov.symm.trans hg1)
  obtain rfl := Option.some.inj (tTog.symm.trans ht0)
  obtain rfl := Option.some.inj (tCov.symm.trans ht1)
  have hall : ∀ L : List (List Bool), L.length = 7 → (∀ r ∈ L, r.length = 7) → ∀ i j, i < 7 → j < 7 → ∃ r, L[i]? = some r ∧ r[j]? = some (tb L i j) := by
    intro L hl hr i j hi hj
    have h1 : L[i]? = some (L[i]'(by omega)) := List.getElem?_eq_getElem _
    have h2 := hr _ (List.mem_of_getElem? h1)
    refine ⟨_, h1, ?_⟩
    unfold tb
    have e : L.getD i [] = L[i]'(by omega) := by rw [List.getD_eq_getElem?_getD, h1]; rfl
    rw [e, List.getD_eq_getElem?_getD, List.getElem?_eq_getElem (by omega)]
    rfl
  exact ⟨tab_of gTog hv0 hd0 (hall tgL rfl (by decide)), tab_of gCov hv1 hd1 (hall cvL rfl (by decide))⟩

end Go.Proofs.YtelfinhpjokmdaaGreatDoor

namespace Go.Proofs.YtelfinhpjokmdaaGreatDoor
open Go.RowKit Go.Joins Go.ChangeShapes Go.WideShapes
set_option linter.unusedVariables false
set_option linter.unusedSimpArgs false

/-- stands a mode in the tables? -/
def kn (a : Int) : Bool := decide (0 ≤ a) && decide (a ≤ 6)
def mrg (a : Int) : Bool := decide (1 ≤ a) && decide (a ≤ 6)
def tgI (a b : Int) : Bool := kn a && kn b && tb tgL a.toNat b.toNat
def cvI (a b : Int) : Bool := kn a && kn b && tb cvL a.toNat b.toNat
def jnN (a b : Int) : Nat → Nat → Int
  | _, 0 => 0
  | m, n + 1 => if cvI m a && cvI m b then m else jnN a b (m + 1) n
def jnI (a b : Int) : Int := jnN a b 0 7
theorem kn_cases {a : Int} (h : kn a = true) : ∃ n : Nat, a = n ∧ n < 7 := by
  simp only [kn, Bool.and_eq_true, decide_eq_true_eq] at h
  exact ⟨a.toNat, by omega, by omega⟩

theorem right_any (a : Int) (w : World) : Calls Tryz.prog 17 #[.int .i64 a] w fun e w' => e = .returned (.bool (mrg a)) ∧ w = w' := by
  obtain ⟨r, hr⟩ : ∃ r, mrg a = r := ⟨_, rfl⟩
  rw [hr]
  by_cases c1 : 1 ≤ a
  · by_cases c2 : a ≤ 6
    · obtain rfl : r = true := by rw [← hr]; simp [mrg, c1, c2]
      clear hr
      go_enter Tryz.func17, Tryz.ntmps17
      go_wp2
      go_ret
      exact ⟨rfl, rfl⟩
    · obtain rfl : r = false := by rw [← hr]; simp [mrg, c2]
      clear hr
      go_enter Tryz.func17, Tryz.ntmps17
      go_wp2
      go_ret
      exact ⟨rfl, rfl⟩
  · obtain rfl : r = false := by rw [← hr]; simp [mrg, c1]
    clear hr
    go_enter Tryz.func17, Tryz.ntmps17
    go_wp2
    go_ret
    exact ⟨rfl, rfl⟩
theorem known_any (a : Int) (w : World) : Calls Tryz.prog 68 #[.int .i64 a] w fun e w' => e = .returned (.bool (kn a)) ∧ w = w' := by
  have HR := Lib.hid (right_any a w)
  by_cases c1 : a = 0
  · subst c1
    have hr : kn 0 = true := rfl
    rw [hr]
    go_enter Tryz.func68, Tryz.ntmps68
    go_wp2
    go_ret
    exact ⟨rfl, rfl⟩
  · have e : kn a = mrg a := by
      unfold kn mrg
      rw [show decide (0 ≤ a) = decide (1 ≤ a) by rw [decide_eq_decide]; omega]
    rw [e]
    have c2 : (a == 0) = false := by simp [c1]
    generalize mrg a = r at *
    go_enter Tryz.func68, Tryz.ntmps68
    go_wp2_with (first | (go_at_call 17; refine HR.out.mono ?_; rintro e w' ⟨rfl, rfl⟩))
    go_ret
    exact ⟨rfl, rfl⟩

end Go.Proofs.YtelfinhpjokmdaaGreatDoor

namespace Go.Proofs.YtelfinhpjokmdaaGreatDoor
set_option maxRecDepth 100000
set_option linter.unusedVariables false

theorem kn_of_rg {a : Int} (h : mrg a = true) : kn a = true := by
  simp only [mrg, kn, Bool.and_eq_true, decide_eq_true_eq] at h ⊢
  omega
theorem kn_of0 {a : Int} (h : a = 0 ∨ mrg a = true) : kn a = true := by
  rcases h with rfl | h
  · rfl
  · exact kn_of_rg h
theorem md_sym : ∀ a, a < 7 → ∀ b, b < 7 → tgI (a : Nat) (b : Nat) = tgI (b : Nat) (a : Nat) := by decide +kernel
theorem md_jn0 : ∀ m, m < 7 → mrg (m : Nat) = true → jnI 0 (m : Nat) = (m : Nat) := by decide +kernel
theorem md_jnr : ∀ a, a < 7 → ∀ m, m < 7 → mrg (m : Nat) = true → mrg (jnI (a : Nat) (m : Nat)) = true := by decide +kernel
theorem md_cvl : ∀ a, a < 7 → ∀ m, m < 7 → cvI (jnI (a : Nat) (m : Nat)) (a : Nat) = true := by decide +kernel
theorem md_cvr : ∀ a, a < 7 → ∀ m, m < 7 → cvI (jnI (a : Nat) (m : Nat)) (m : Nat) = true := by decide +kernel
theorem md_cvt : ∀ a, a < 7 → ∀ b, b < 7 → ∀ c, c < 7 → cvI (a : Nat) (b : Nat) = true → cvI (b : Nat) (c : Nat) = true → cvI (a : Nat) (c : Nat) = true := by decide +kernel
theorem md_cvj : ∀ a, a < 7 → ∀ m, m < 7 → cvI (a : Nat) (m : Nat) = true → jnI (a : Nat) (m : Nat) = (a : Nat) := by decide +kernel
theorem md_rfl : ∀ a, a < 7 → cvI (a : Nat) (a : Nat) = true := by decide +kernel
theorem md_ctg : ∀ a, a < 7 → ∀ b, b < 7 → ∀ c, c < 7 → cvI (a : Nat) (b : Nat) = true → tgI (a : Nat) (c : Nat) = true → tgI (b : Nat) (c : Nat) = true := by decide +kernel
/-- the modes of the document -/
def mds : Mds where
  right := mrg
  tg := tgI
  jn := jnI
  cv := cvI
  sym a b := by
    by_cases ha : kn a = true
    · by_cases hb : kn b = true
      · obtain ⟨n, rfl, hn⟩ := kn_cases ha
        obtain ⟨k, rfl, hk⟩ := kn_cases hb
        exact md_sym n hn k hk
      · simp [tgI, hb]
    · simp [tgI, ha]
  jn0 m h := by
    obtain ⟨n, rfl, hn⟩ := kn_cases (kn_of_rg h)
    exact md_jn0 n hn h
  jnr a m ha h := by
    obtain ⟨n, rfl, hn⟩ := kn_cases (kn_of0 ha)
    obtain ⟨k, rfl, hk⟩ := kn_cases (kn_of_rg h)
    exact md_jnr n hn k hk h
  pos m h := by
    simp only [mrg, Bool.and_eq_true, decide_eq_true_eq] at h
    omega
  cvl a m ha h := by
    obtain ⟨n, rfl, hn⟩ := kn_cases (kn_of0 ha)
    obtain ⟨k, rfl, hk⟩ := kn_cases (kn_of_rg h)
    exact md_cvl n hn k hk
  cvr a m ha h := by
    obtain ⟨n, rfl, hn⟩ := kn_cases (kn_of0 ha)
    obtain ⟨k, rfl, hk⟩ := kn_cases (kn_of_rg h)
    exact md_cvr n hn k hk
  cvt a b c ha hb hc := by
    obtain ⟨n, rfl, hn⟩ := kn_cases (kn_of_rg ha)
    obtain ⟨k, rfl, hk⟩ := kn_cases (kn_of_rg hb)
    obtain ⟨j, rfl, hj⟩ := kn_cases (kn_of_rg hc)
    exact md_cvt n hn k hk j hj
  cvj a m ha hm := by
    obtain ⟨n, rfl, hn⟩ := kn_cases (kn_of_rg ha)
    obtain ⟨k, rfl, hk⟩ := kn_cases (kn_of_rg hm)
    exact md_cvj n hn k hk
  rfl a ha := by
    obtain ⟨n, rfl, hn⟩ := kn_cases (kn_of_rg ha)
    exact md_rfl n hn
  ctg a b c ha hb hc := by
    obtain ⟨n, rfl, hn⟩ := kn_cases (kn_of_rg ha)
    obtain ⟨k, rfl, hk⟩ := kn_cases (kn_of_rg hb)
    obtain ⟨j, rfl, hj⟩ := kn_cases (kn_of_rg hc)
    exact md_ctg n hn k hk j hj

end Go.Proofs.YtelfinhpjokmdaaGreatDoor

namespace Go.Proofs.YtelfinhpjokmdaaGreatDoor
open Go.RowKit Go.Joins Go.ChangeShapes Go.WideShapes
set_option linter.unusedVariables false
set_option linter.unusedSimpArgs false

set_option maxHeartbeats 1000000 in
theorem tog_any (a b : Int) (w : World) (h : TabB w 1 tgL) : Calls Tryz.prog 47 #[.int .i64 a, .int .i64 b] w fun e w' => e = .returned (.bool (tgI a b)) ∧ w = w' := by
  have HA := Lib.hid (known_any a w)
  have HB := Lib.hid (known_any b w)
  obtain ⟨r, hr⟩ : ∃ r, tgI a b = r := ⟨_, rfl⟩
  rw [hr]
  unfold tgI at hr
  cases ca : kn a with
  | false =>
    rw [ca] at HA hr
    obtain rfl : r = false := by rw [← hr]; rfl
    clear hr
    go_enter Tryz.func47, Tryz.ntmps47
    go_wp2_with fail
    refine HA.out.mono ?_
    rintro e w' ⟨rfl, rfl⟩
    go_wp2
    go_ret
    exact ⟨rfl, rfl⟩
  | true =>
    rw [ca] at HA hr
    obtain ⟨na, rfl, la⟩ := kn_cases ca
    cases cb : kn b with
    | false =>
      rw [cb] at HB hr
      obtain rfl : r = false := by rw [← hr]; rfl
      clear hr ca
      go_enter Tryz.func47, Tryz.ntmps47
      go_wp2_with fail
      refine HA.out.mono ?_
      rintro e w' ⟨rfl, rfl⟩
      go_wp2_with fail
      refine HB.out.mono ?_
      rintro e w' ⟨rfl, rfl⟩
      go_wp2
      go_ret
      exact ⟨rfl, rfl⟩
    | true =>
      rw [cb] at HB hr
      obtain ⟨nb, rfl, lb⟩ := kn_cases cb
      have d0 := h.2 na nb la lb
      have e0 : tb tgL na nb = r := by rw [← hr]; simp
      rw [e0] at d0
      have la9 : (na : Int) < 7 := by omega
      have lb9 : (nb : Int) < 7 := by omega
      clear hr e0 ca cb h
      go_enter Tryz.func47, Tryz.ntmps47
      go_wp2_with fail
      refine HA.out.mono ?_
      rintro e w' ⟨rfl, rfl⟩
      go_wp2_with fail
      refine HB.out.mono ?_
      rintro e w' ⟨rfl, rfl⟩
      go_wp2
      go_ret
      exact ⟨rfl, rfl⟩

set_option maxHeartbeats 1000000 in
theorem cov_any (a b : Int) (w : World) (h : TabB w 0 cvL) : Calls Tryz.prog 46 #[.int .i64 a, .int .i64 b] w fun e w' => e = .returned (.bool (cvI a b)) ∧ w = w' := by
  have HA := Lib.hid (known_any a w)
  have HB := Lib.hid (known_any b w)
  obtain ⟨r, hr⟩ : ∃ r, cvI a b = r := ⟨_, rfl⟩
  rw [hr]
  unfold cvI at hr
  cases ca : kn a with
  | false =>
    rw [ca] at HA hr
    obtain rfl : r = false := by rw [← hr]; rfl
    clear hr
    go_enter Tryz.func46, Tryz.ntmps46
    go_wp2_with fail
    refine HA.out.mono ?_
    rintro e w' ⟨rfl, rfl⟩
    go_wp2
    go_ret
    exact ⟨rfl, rfl⟩
  | true =>
    rw [ca] at HA hr
    obtain ⟨na, rfl, la⟩ := kn_cases ca
    cases cb : kn b with
    | false =>
      rw [cb] at HB hr
      obtain rfl : r = false := by rw [← hr]; rfl
      clear hr ca
      go_enter Tryz.func46, Tryz.ntmps46
      go_wp2_with fail
      refine HA.out.mono ?_
      rintro e w' ⟨rfl, rfl⟩
      go_wp2_with fail
      refine HB.out.mono ?_
      rintro e w' ⟨rfl, rfl⟩
      go_wp2
      go_ret
      exact ⟨rfl, rfl⟩
    | true =>
      rw [cb] at HB hr
      obtain ⟨nb, rfl, lb⟩ := kn_cases cb
      have d0 := h.2 na nb la lb
      have e0 : tb cvL na nb = r := by rw [← hr]; simp
      rw [e0] at d0
      have la9 : (na : Int) < 7 := by omega
      have lb9 : (nb : Int) < 7 := by omega
      clear hr e0 ca cb h
      go_enter Tryz.func46, Tryz.ntmps46
      go_wp2_with fail
      refine HA.out.mono ?_
      rintro e w' ⟨rfl, rfl⟩
      go_wp2_with fail
      refine HB.out.mono ?_
      rintro e w' ⟨rfl, rfl⟩
      go_wp2
      go_ret
      exact ⟨rfl, rfl⟩

set_option maxHeartbeats 2000000 in
theorem join_any (a b : Int) (w : World) (h : TabB w 0 cvL) : Calls Tryz.prog 19 #[.int .i64 a, .int .i64 b] w fun e w' => e = .returned (.int .i64 (jnI a b)) ∧ w = w' := by
  obtain ⟨r, hr⟩ : ∃ r, jnI a b = r := ⟨_, rfl⟩
  rw [hr]
  have HR := Lib.hid hr
  have HA := Lib.hid (fun m => cov_any m a w h)
  have HB := Lib.hid (fun m => cov_any m b w h)
  clear h hr
  go_enter Tryz.func19, Tryz.ntmps19
  go_wp2
  go_loopw [6] (fun i wx => ∃ m : Nat, m ≤ 7 ∧ i = .int .i64 m ∧ w = wx ∧ Hid (jnN a b m (7 - m) = r)) (fun i _ => 7 - (intOf i).toNat)
  case atStart => exact ⟨0, Nat.zero_le _, rfl, rfl, HR⟩
  case round =>
    obtain ⟨m, hm, rfl, rfl, hj⟩ := hrel
    by_cases c : m < 7
    · have c1 : (m : Int) < 7 := by omega
      have hj' := hj.out
      rw [show 7 - m = (7 - (m + 1)) + 1 by omega] at hj'
      unfold jnN at hj'
      have ha := HA.out m
      have hb := HB.out m
      cases ca : cvI m a with
      | false =>
        rw [ca] at ha hj'
        simp only [Bool.false_and, Bool.false_eq_true, if_false] at hj'
        have HA2 := Lib.hid ha
        have HJ := Lib.hid hj'
        clear ha hb hj hj' ca
        go_wp2_with fail
        refine HA2.out.mono ?_
        rintro e w' ⟨rfl, rfl⟩
        go_wp2
        go_roundw
        case rel => exact ⟨m + 1, by omega, by go_num, (by first | rfl | trivial), HJ⟩
        case measure => simp [intOf]; omega
      | true =>
        cases cb : cvI m b with
        | false =>
          rw [ca] at ha hj'
          rw [cb] at hb hj'
          simp only [Bool.and_false, Bool.false_eq_true, if_false] at hj'
          have HA2 := Lib.hid ha
          have HB2 := Lib.hid hb
          have HJ := Lib.hid hj'
          clear ha hb hj hj' ca cb
          go_wp2_with fail
          refine HA2.out.mono ?_
          rintro e w' ⟨rfl, rfl⟩
          go_wp2_with fail
          refine HB2.out.mono ?_
          rintro e w' ⟨rfl, rfl⟩
          go_wp2
          go_roundw
          case rel => exact ⟨m + 1, by omega, by go_num, (by first | rfl | trivial), HJ⟩
          case measure => simp [intOf]; omega
        | true =>
          rw [ca] at ha hj'
          rw [cb] at hb hj'
          simp only [Bool.and_true, if_true] at hj'
          subst hj'
          have HA2 := Lib.hid ha
          have HB2 := Lib.hid hb
          clear ha hb hj ca cb
          go_wp2_with fail
          refine HA2.out.mono ?_
          rintro e w' ⟨rfl, rfl⟩
          go_wp2_with fail
          refine HB2.out.mono ?_
          rintro e w' ⟨rfl, rfl⟩
          go_wp2
          go_ret
          exact ⟨rfl, rfl⟩
    · have c1 : ¬ (m : Int) < 7 := by omega
      obtain rfl : m = 7 := by omega
      have hj' := hj.out
      simp only [Nat.sub_self, jnN] at hj'
      subst hj'
      clear hj
      go_wp2
      go_ret
      exact ⟨rfl, rfl⟩

end Go.Proofs.YtelfinhpjokmdaaGreatDoor

namespace Go.Proofs.YtelfinhpjokmdaaGreatDoor
set_option maxRecDepth 100000
open Go.RowKit Go.Joins Go.ChangeShapes Go.WideShapes
open Go.MapKept
set_option linter.unusedVariables false
set_option linter.unnecessarySimpa false
set_option linter.unusedSimpArgs false

/-- both tables of modes -/
def Tabs (w : World) : Prop := TabB w 1 tgL ∧ TabB w 0 cvL
theorem Tabs.below {w w1 : World} (h : Tabs w) (hb : Below w.heap.size w w1) : Tabs w1 := ⟨h.1.below hb, h.2.below hb⟩
/-- how many of each mode, as one value -/
def cntA (o : Nat → Nat) : Value := .agg #[.int .i64 (o 0 : Nat), .int .i64 (o 1 : Nat), .int .i64 (o 2 : Nat), .int .i64 (o 3 : Nat), .int .i64 (o 4 : Nat), .int .i64 (o 5 : Nat), .int .i64 (o 6 : Nat)]
theorem idx_cnt (o : Nat → Nat) {k : Nat} (hk : k < 7) (w : World) : (Instr.index 57 (cntA o) (.int .i64 (k : Nat))).run Tryz.prog w = .ok (.int .i64 (o k : Nat)) w := by
  match k, hk with
  | 0, _ => rfl
  | 1, _ => rfl
  | 2, _ => rfl
  | 3, _ => rfl
  | 4, _ => rfl
  | 5, _ => rfl
  | 6, _ => rfl
  | n + 7, h => omega
section
variable {w w1 : World} {B g mb : Nat} {md : Int → Int} {cn : Nat → Nat} {qv : Value} {q : List Lv}
theorem newThing_any (w : World) (B : Nat) (hB : B ≤ w.heap.size) : Calls Tryz.prog 18 #[] w fun e w' => ∃ g mb, e = .returned (.pointer (some ⟨g, 0, none⟩)) ∧ ThM w' B g mb (fun _ => 0) (fun _ => 0) (.slice none 0 0) [] ∧ Below w.heap.size w w' ∧ w.heap.size ≤ g ∧ w.heap.size ≤ mb ∧ g < w'.heap.size ∧ mb < w'.heap.size := by
  generalize hP : (fun (e : Ending) (w' : World) => ∃ g mb, e = .returned (.pointer (some ⟨g, 0, none⟩)) ∧ ThM w' B g mb (fun _ => 0) (fun _ => 0) (.slice none 0 0) [] ∧ Below w.heap.size w w' ∧ w.heap.size ≤ g ∧ w.heap.size ≤ mb ∧ g < w'.heap.size ∧ mb < w'.heap.size) = P
  have HP := Lib.hid hP
  clear hP
  obtain ⟨mb, hmb⟩ : ∃ n, w.heap.size = n := ⟨_, rfl⟩
  obtain ⟨W1, hW1⟩ : ∃ W1, w.alloc (.map #[] 0) = W1 := ⟨_, rfl⟩
  have hb1 : Below w.heap.size w W1 := by rw [← hW1]; exact (Below.refl _ _).alloc (Nat.le_refl _) _
  have hmk : (Instr.makeMap 56 none).run Tryz.prog w = .ok (.map (some mb)) W1 := by rw [← hW1, ← hmb]; rfl
  have hm : IMap (.int .i64) ik W1 mb (fun _ => none) 0 := by rw [← hW1]; exact imap_made _ _ w mb hmb
  have hz1 : W1.heap.size = mb + 1 := by rw [← hW1, ← hmb]; simp
  have HF := Lib.hid (show P (.returned (.pointer (some ⟨mb + 1, 0, none⟩))) (W1.alloc (.cells (thC mb (fun _ => 0) (.slice none 0 0)) 59)) by
    rw [← HP.out]
    have hb2 : Below W1.heap.size W1 (W1.alloc (.cells (thC mb (fun _ => 0) (.slice none 0 0)) 59)) := (Below.refl _ _).alloc (Nat.le_refl _) _
    have hg : (W1.alloc (.cells (thC mb (fun _ => 0) (.slice none 0 0)) 59)).heap[mb + 1]? = some (.cells (thC mb (fun _ => 0) (.slice none 0 0)) 59 (0, 0)) := by rw [← hz1]; exact heap_alloc_new W1 _
    have hl := (Array.getElem?_eq_some_iff.1 hg).1
    exact ⟨mb + 1, mb, rfl, ⟨hg, ⟨0, hm.below hb2⟩, OwL.nil _ _⟩, hb1.trans (hb2.mono (by omega)), by omega, by omega, hl, by omega⟩)
  clear hW1 hm hb1 HP
  go_enter Tryz.func18, Tryz.ntmps18
  go_wp2_with fail
  exact HF.out
set_option maxHeartbeats 2000000 in
theorem admits_any (h : ThM w B g mb md cn qv q) (hT : Tabs w) (t mode : Int) (hr : md t = 0 ∨ (0 < md t ∧ md t < 7)) (hp : md t ≠ 0 → 0 < cn (md t).toNat) (hN : ∀ m, cn m ≤ 4294967296) :
    Calls Tryz.prog 20 #[.pointer (some ⟨g, 0, none⟩), .int .i64 t, .int .i64 mode] w fun e w' => e = .returned (.bool (admB mds cn (md t) mode)) ∧ Below w.heap.size w w' := by
  generalize hR : admB mds cn (md t) mode = R
  have HR := Lib.hid hR
  clear hR
  have k0 := h.c0
  have k1 := h.cc (m := 0) (by omega)
  have k2 := h.cc (m := 1) (by omega)
  have k3 := h.cc (m := 2) (by omega)
  have k4 := h.cc (m := 3) (by omega)
  have k5 := h.cc (m := 4) (by omega)
  have k6 := h.cc (m := 5) (by omega)
  have k7 := h.cc (m := 6) (by omega)
  simp only [Nat.add_zero, Nat.reduceAdd] at k1 k2 k3 k4 k5 k6 k7
  obtain ⟨W1, hW1⟩ : ∃ W1, w.alloc (.cells #[.int .i64 (cn 0 : Nat), .int .i64 (cn 1 : Nat), .int .i64 (cn 2 : Nat), .int .i64 (cn 3 : Nat), .int .i64 (cn 4 : Nat), .int .i64 (cn 5 : Nat), .int .i64 (cn 6 : Nat)] 57) = W1 := ⟨_, rfl⟩
  have hb1 : Below w.heap.size w W1 := by rw [← hW1]; exact (Below.refl _ _).alloc (Nat.le_refl _) _
  have hx1 : W1.heap[w.heap.size]? = some (.cells #[.int .i64 (cn 0 : Nat), .int .i64 (cn 1 : Nat), .int .i64 (cn 2 : Nat), .int .i64 (cn 3 : Nat), .int .i64 (cn 4 : Nat), .int .i64 (cn 5 : Nat), .int .i64 (cn 6 : Nat)] 57 (0, 0)) := by rw [← hW1]; exact heap_alloc_new w _
  have h1 := h.below hb1
  have hl := h1.look t
  have d0 := h1.c0
  have HT := Lib.hid (fun (wx : World) (hb : Below w.heap.size w wx) (a : Int) => tog_any a mode wx (hT.below hb).1)
  obtain ⟨o, ho⟩ : ∃ o, othC cn (md t) = o := ⟨_, rfl⟩
  have HRO : Hid ((List.range 7).all (fun m => !(decide (0 < o m) && !tgI (m : Int) mode)) = R) := by rw [← HR.out, ← ho]; rfl
  have HB1 := Lib.hid hb1
  clear HR
  have HX1 := Lib.hid hx1
  have hlt : w.heap.size < W1.heap.size := (Array.getElem?_eq_some_iff.1 hx1).1
  have hW1' : w.alloc (.cells #[.int .i64 (cn 0 : Nat), .int .i64 (cn 1 : Nat), .int .i64 (cn 2 : Nat), .int .i64 (cn 3 : Nat), .int .i64 (cn 4 : Nat), .int .i64 (cn 5 : Nat), .int .i64 (cn 6 : Nat)] 57) = W1 := by assumption
  obtain ⟨gx, hgx⟩ : ∃ n, w.heap.size = n := ⟨_, rfl⟩
  by_cases c : md t = 0
  · rw [c] at hl ho
    rw [oth_none] at ho
    subst ho
    simp only [decide_true, Bool.not_true] at hl
    have hx2 : W1.heap[gx]? = some (.cells (cntA cn).cells 57 (0, 0)) := by rw [← hgx]; exact hx1
    clear h h1 hx1 hr hp hN hT hW1'
    go_enter Tryz.func20, Tryz.ntmps20
    go_upto_region 2 with fail
    try rw [hW1]
    rw [hgx] at *
    go_upto_region 5 with fail
    clear hW1 c k0
    have HB2 := HB1
    have HTG := Lib.hid (fun a : Int => HT.out W1 HB2.out a)
    obtain ⟨e0, e1, e2, e3, e4, e5, e6⟩ : W1.cell? ⟨gx, 0, none⟩ = some (.int .i64 (cn 0 : Nat)) ∧ W1.cell? ⟨gx, 1, none⟩ = some (.int .i64 (cn 1 : Nat)) ∧ W1.cell? ⟨gx, 2, none⟩ = some (.int .i64 (cn 2 : Nat)) ∧ W1.cell? ⟨gx, 3, none⟩ = some (.int .i64 (cn 3 : Nat)) ∧ W1.cell? ⟨gx, 4, none⟩ = some (.int .i64 (cn 4 : Nat)) ∧ W1.cell? ⟨gx, 5, none⟩ = some (.int .i64 (cn 5 : Nat)) ∧ W1.cell? ⟨gx, 6, none⟩ = some (.int .i64 (cn 6 : Nat)) := by
      refine ⟨?_, ?_, ?_, ?_, ?_, ?_, ?_⟩ <;> (rw [cell_of_block hx2]; rfl)
    clear hx2 HX1 HT HB1 hl d0
    go_wp2_with fail
    go_loopw [32] (fun i wr => ∃ k : Nat, k ≤ 7 ∧ i = .int .i64 k ∧ W1 = wr ∧ Hid (∀ m, m < k → 0 < cn m → tgI (m : Nat) mode = true)) (fun i _ => 7 - (intOf i).toNat)
    case atStart => exact ⟨0, Nat.zero_le _, rfl, rfl, fun m hm => absurd hm (by omega)⟩
    case round =>
      obtain ⟨k, hk, rfl, rfl, HK⟩ := hrel
      by_cases ck : k < 7
      · have ck' : (k : Int) < 7 := by omega
        have hIX := idx_cnt cn ck W1
        unfold cntA at hIX
        have HNX : Hid (¬ (0 < cn k ∧ tgI (k : Nat) mode = false) → ∀ m, m < k + 1 → 0 < cn m → tgI (m : Nat) mode = true) := by
          intro hn m hm hp
          by_cases e : m = k
          · subst e
            cases ht : tgI (m : Nat) mode with
            | true => rfl
            | false => exact absurd ⟨hp, ht⟩ hn
          · exact HK.out m (by omega) hp
        have HNO : Hid (0 < cn k → tgI (k : Nat) mode = false → R = false) := by
          intro hp ht
          rw [← HRO.out, Bool.eq_false_iff, ne_eq, List.all_eq_true]
          intro hc
          have := hc k (List.mem_range.2 ck)
          simp [hp, ht] at this
        have HTk := Lib.hid (HTG.out (k : Nat))
        obtain ⟨tk, htk⟩ : ∃ b, tgI (k : Nat) mode = b := ⟨_, rfl⟩
        rw [htk] at HTk HNX HNO
        by_cases p : 0 < cn k
        · have p1 : (0 : Int) < (cn k : Nat) := by omega
          cases tk with
          | true =>
            have HN2 := Lib.hid (HNX.out (by simp))
            clear htk HNX HNO HK
            go_wp2_with fail
            refine HTk.out.mono ?_
            rintro e w' ⟨rfl, rfl⟩
            go_wp2_with fail
            go_roundw
            case rel => exact ⟨k + 1, by omega, by go_num, by trivial, HN2⟩
            case measure => simp [intOf]; omega
          | false =>
            obtain rfl : R = false := HNO.out p rfl
            clear htk HNX HNO HK
            go_wp2_with fail
            refine HTk.out.mono ?_
            rintro e w' ⟨rfl, rfl⟩
            go_wp2_with fail
            go_ret
            exact ⟨rfl, by first | exact HB2.out | (rw [hgx]; exact HB2.out)⟩
        · have p1 : decide ((0 : Int) < (cn k : Nat)) = false := by simp; omega
          have p2 : ¬ (0 : Int) < (cn k : Nat) := by omega
          have HN2 := Lib.hid (HNX.out (fun h => p h.1))
          clear htk HNX HNO HK HTk
          go_wp2_with fail
          go_roundw
          case rel => exact ⟨k + 1, by omega, by go_num, by trivial, HN2⟩
          case measure => simp [intOf]; omega
      · obtain rfl : k = 7 := by omega
        obtain rfl : R = true := by
          rw [← HRO.out, List.all_eq_true]
          intro m hm
          by_cases p : 0 < cn m
          · simp [p, HK.out m (List.mem_range.1 hm) p]
          · simp [p]
        go_wp2_with fail
        go_ret
        exact ⟨rfl, by first | exact HB2.out | (rw [hgx]; exact HB2.out)⟩
  · obtain ⟨m, hm⟩ : ∃ m : Nat, md t = m := ⟨(md t).toNat, by omega⟩
    rw [hm] at hl hp hr ho
    have m7 : m < 7 := by omega
    have m0 : m ≠ 0 := by omega
    have hd : decide ((m : Int) = 0) = false := decide_eq_false (by omega)
    rw [hd, Bool.not_false] at hl
    obtain ⟨z, hz⟩ : ∃ z, cn m = z + 1 := ⟨cn m - 1, by have := hp (by omega); simp at this; omega⟩
    have hNm := hN m
    rw [hz] at hNm
    have dm : W1.cell? ⟨gx, m, none⟩ = some (.int .i64 ((z + 1 : Nat) : Int)) := by
      rw [← hz, ← hgx, cell_of_block hx1]
      match m, m7 with
      | 0, _ => rfl
      | 1, _ => rfl
      | 2, _ => rfl
      | 3, _ => rfl
      | 4, _ => rfl
      | 5, _ => rfl
      | 6, _ => rfl
      | n + 7, h => omega
    have fz : W1.frozen? ⟨gx, m, none⟩ = false := by rw [← hgx]; exact unfrozen_of_block hx1 m
    obtain ⟨W2, hW2⟩ : ∃ W2, W1.setCell ⟨gx, m, none⟩ (.int .i64 (z : Nat)) = W2 := ⟨_, rfl⟩
    have HB2 : Hid (Below w.heap.size w W2) := by rw [← hW2]; exact HB1.out.setCell (by rw [← hgx]; exact Nat.le_refl _) _
    have hx2 : W2.heap[gx]? = some (.cells (cntA o).cells 57 (0, 0)) := by
      rw [← hgx] at hW2 ⊢
      rw [← hW2, setCell_eq_setRow W1 _ m _ _ _ _ hx1, setRow_heap W1 _ _ _ _ _ hx1, ← ho]
      have : ∀ i, othC cn (m : Int) i = if i = m then z else cn i := fun i => by rw [oth_at m0, hz]; rfl
      unfold cntA
      rw [this 0, this 1, this 2, this 3, this 4, this 5, this 6]
      match m, m7 with
      | 0, _ => rfl
      | 1, _ => rfl
      | 2, _ => rfl
      | 3, _ => rfl
      | 4, _ => rfl
      | 5, _ => rfl
      | 6, _ => rfl
      | n + 7, h => omega
    have hw : IntKind.i64.wrap (z : Int) = (z : Int) := IntWalk.i64_in _ (by omega)
    have mi : (m : Int) < 7 := by omega
    have mi0 : (0 : Int) ≤ (m : Int) := by omega
    clear h h1 hx1 hr hp hN hT hW1' ho c hm hd hNm hz
    go_enter Tryz.func20, Tryz.ntmps20
    go_upto_region 2 with fail
    try rw [hW1]
    rw [hgx] at HB2 HT
    go_upto_region 5 with fail
    try rw [hW2]
    clear hW1 hW2 k0 dm fz hw
    have HTG := Lib.hid (fun a : Int => HT.out W2 HB2.out a)
    obtain ⟨e0, e1, e2, e3, e4, e5, e6⟩ : W2.cell? ⟨gx, 0, none⟩ = some (.int .i64 (o 0 : Nat)) ∧ W2.cell? ⟨gx, 1, none⟩ = some (.int .i64 (o 1 : Nat)) ∧ W2.cell? ⟨gx, 2, none⟩ = some (.int .i64 (o 2 : Nat)) ∧ W2.cell? ⟨gx, 3, none⟩ = some (.int .i64 (o 3 : Nat)) ∧ W2.cell? ⟨gx, 4, none⟩ = some (.int .i64 (o 4 : Nat)) ∧ W2.cell? ⟨gx, 5, none⟩ = some (.int .i64 (o 5 : Nat)) ∧ W2.cell? ⟨gx, 6, none⟩ = some (.int .i64 (o 6 : Nat)) := by
      refine ⟨?_, ?_, ?_, ?_, ?_, ?_, ?_⟩ <;> (rw [cell_of_block hx2]; rfl)
    clear hx2 HX1 HT HB1 hl d0
    go_wp2_with fail
    go_loopw [32] (fun i wr => ∃ k : Nat, k ≤ 7 ∧ i = .int .i64 k ∧ W2 = wr ∧ Hid (∀ m, m < k → 0 < o m → tgI (m : Nat) mode = true)) (fun i _ => 7 - (intOf i).toNat)
    case atStart => exact ⟨0, Nat.zero_le _, rfl, rfl, fun m hm => absurd hm (by omega)⟩
    case round =>
      obtain ⟨k, hk, rfl, rfl, HK⟩ := hrel
      by_cases ck : k < 7
      · have ck' : (k : Int) < 7 := by omega
        have hIX := idx_cnt o ck W2
        unfold cntA at hIX
        have HNX : Hid (¬ (0 < o k ∧ tgI (k : Nat) mode = false) → ∀ m, m < k + 1 → 0 < o m → tgI (m : Nat) mode = true) := by
          intro hn m hm hp
          by_cases e : m = k
          · subst e
            cases ht : tgI (m : Nat) mode with
            | true => rfl
            | false => exact absurd ⟨hp, ht⟩ hn
          · exact HK.out m (by omega) hp
        have HNO : Hid (0 < o k → tgI (k : Nat) mode = false → R = false) := by
          intro hp ht
          rw [← HRO.out, Bool.eq_false_iff, ne_eq, List.all_eq_true]
          intro hc
          have := hc k (List.mem_range.2 ck)
          simp [hp, ht] at this
        have HTk := Lib.hid (HTG.out (k : Nat))
        obtain ⟨tk, htk⟩ : ∃ b, tgI (k : Nat) mode = b := ⟨_, rfl⟩
        rw [htk] at HTk HNX HNO
        by_cases p : 0 < o k
        · have p1 : (0 : Int) < (o k : Nat) := by omega
          cases tk with
          | true =>
            have HN2 := Lib.hid (HNX.out (by simp))
            clear htk HNX HNO HK
            go_wp2_with fail
            refine HTk.out.mono ?_
            rintro e w' ⟨rfl, rfl⟩
            go_wp2_with fail
            go_roundw
            case rel => exact ⟨k + 1, by omega, by go_num, by trivial, HN2⟩
            case measure => simp [intOf]; omega
          | false =>
            obtain rfl : R = false := HNO.out p rfl
            clear htk HNX HNO HK
            go_wp2_with fail
            refine HTk.out.mono ?_
            rintro e w' ⟨rfl, rfl⟩
            go_wp2_with fail
            go_ret
            exact ⟨rfl, by first | exact HB2.out | (rw [hgx]; exact HB2.out)⟩
        · have p1 : decide ((0 : Int) < (o k : Nat)) = false := by simp; omega
          have p2 : ¬ (0 : Int) < (o k : Nat) := by omega
          have HN2 := Lib.hid (HNX.out (fun h => p h.1))
          clear htk HNX HNO HK HTk
          go_wp2_with fail
          go_roundw
          case rel => exact ⟨k + 1, by omega, by go_num, by trivial, HN2⟩
          case measure => simp [intOf]; omega
      · obtain rfl : k = 7 := by omega
        obtain rfl : R = true := by
          rw [← HRO.out, List.all_eq_true]
          intro m hm
          by_cases p : 0 < o m
          · simp [p, HK.out m (List.mem_range.1 hm) p]
          · simp [p]
        go_wp2_with fail
        go_ret
        exact ⟨rfl, by first | exact HB2.out | (rw [hgx]; exact HB2.out)⟩

end
end Go.Proofs.YtelfinhpjokmdaaGreatDoor

namespace Go.Proofs.YtelfinhpjokmdaaGreatDoor
set_option maxRecDepth 100000
open Go.RowKit Go.Joins Go.ChangeShapes Go.WideShapes
open Go.MapKept
set_option linter.unusedVariables false
set_option linter.unnecessarySimpa false
set_option linter.unusedSimpArgs false

/-- a lock as one value -/
def encL (l : Lv) : Value := .agg #[.int .i64 l.txn, .string ⟨l.res.toArray⟩, .int .i64 l.mode]
/-- where the first stands of which p says yes; -1: nowhere -/
def fidx (p : Lv → Bool) (q : List Lv) : Int := if (q.takeWhile fun x => !p x).length = q.length then -1 else ((q.takeWhile fun x => !p x).length : Nat)
theorem tw_hit {p : Lv → Bool} {q : List Lv} {k : Nat} {l : Lv} (h : ∀ j x, j < k → q[j]? = some x → p x = false) (hk : q[k]? = some l) (hp : p l = true) : (q.takeWhile fun x => !p x) = q.take k := by
  induction q generalizing k with
  | nil => simp at hk
  | cons a r ih =>
    cases k with
    | zero =>
      simp at hk
      subst hk
      simp [List.takeWhile, hp]
    | succ k =>
      have ha := h 0 a (by omega) rfl
      rw [List.takeWhile_cons_of_pos (by simp [ha]), List.take_succ_cons]
      congr 1
      exact ih (fun j x hj hx => h (j + 1) x (by omega) (by simpa using hx)) (by simpa using hk)
theorem tw_all {p : Lv → Bool} {q : List Lv} (h : ∀ j x, j < q.length → q[j]? = some x → p x = false) : (q.takeWhile fun x => !p x) = q := by
  induction q with
  | nil => rfl
  | cons a r ih =>
    have ha := h 0 a (by simp) rfl
    rw [List.takeWhile_cons_of_pos (by simp [ha])]
    congr 1
    exact ih fun j x hj hx => h (j + 1) x (by simp; omega) (by simpa using hx)
/-- what is asked of a predicate that may lay blocks of its own -/
def PrB (g : FuncId) (cb : Value) (p : Lv → Bool) (w : World) : Prop := ∀ (W : World) (x : Lv), Below w.heap.size w W → Calls Tryz.prog g #[encL x, cb] W fun e w' => e = .returned (.bool (p x)) ∧ Below W.heap.size W w'
theorem btr {B : Nat} {w w1 w2 : World} (h : Below B w w1) (h2 : Below w1.heap.size w1 w2) (hB : B ≤ w1.heap.size) : Below B w w2 := h.trans (h2.mono hB)
set_option maxHeartbeats 2000000 in
theorem idxf_any (w : World) (B : Nat) (v : Value) (q : List Lv) (h : OwL w B v q) (hm : q.length ≤ 9223372036854775807) (g : FuncId) (cb : Value) (p : Lv → Bool) (hp : PrB g cb p w) (eg : ∀ args w, (callFunc g args).run Tryz.prog w = .ok (.enter g args) w) :
    Calls Tryz.prog 50 #[v, .func (.func g) #[] #[cb]] w fun e w' => e = .returned (.int .i64 (fidx p q)) ∧ Below w.heap.size w w' := by
  obtain ⟨R, hR⟩ : ∃ R, fidx p q = R := ⟨_, rfl⟩
  have HR := Lib.hid hR
  obtain ⟨n, hn⟩ : ∃ n, q.length = n := ⟨_, rfl⟩
  have HN := Lib.hid hn
  have HP := Lib.hid hp
  have HO := Lib.hid (fun (wx : World) (hb : Below w.heap.size w wx) => (Frm.of_below (F := fun _ => False) hb).owL h (fun _ _ h => h))
  obtain ⟨a, cap, rfl⟩ : ∃ a cap, v = .slice a n cap := by
    rcases h.cases with ⟨rfl, rfl⟩ | ⟨g', cap, cur, rfl, -⟩
    · exact ⟨none, 0, by rw [← hn]; rfl⟩
    · exact ⟨_, cap, by rw [hn]⟩
  rw [hn] at hm
  rw [hR]
  clear hR hn hp h
  go_enter Tryz.func50, Tryz.ntmps50
  go_wp2_with fail
  go_loopw [8] (fun i wr => ∃ k : Nat, k ≤ n ∧ i = .int .i64 k ∧ Hid (Below w.heap.size w wr) ∧ Hid (∀ j x, j < k → q[j]? = some x → p x = false)) (fun i _ => n - (intOf i).toNat)
  case atStart => exact ⟨0, Nat.zero_le _, rfl, Below.refl _ _, fun j x hj => absurd hj (by omega)⟩
  case round =>
    obtain ⟨k, hk, rfl, HB, HK⟩ := hrel
    by_cases c : k < n
    · have c1 : (k : Int) < (n : Int) := by omega
      obtain ⟨l, hl⟩ : ∃ l, q[k]? = some l := ⟨_, List.getElem?_eq_getElem (by rw [HN.out]; exact c)⟩
      obtain ⟨g', cap', e1, -, -, a0, a1, a2, -⟩ := OwL.at (HO.out wr HB.out) hl
      injection e1 with e1 e2 e3
      subst e1
      have HC := Lib.hid (HP.out wr l HB.out)
      unfold encL at HC
      have HL := Lib.hid hl
      have hk3 : k * 3 = k * 3 := rfl
      obtain ⟨b, hb⟩ : ∃ b, p l = b := ⟨_, rfl⟩
      rw [hb] at HC
      have HPL := Lib.hid hb
      clear hl e2 e3 hk3 hb
      cases b with
      | true =>
        have HF := Lib.hid (show R = (k : Nat) by
          rw [← HR.out]
          unfold fidx
          rw [tw_hit HK.out HL.out HPL.out, List.length_take, HN.out, Nat.min_eq_left (by omega), if_neg (by omega)])
        go_wp2_with fail
        refine HC.out.mono ?_
        rintro e w' ⟨rfl, hb'⟩
        have HB2 := Lib.hid (btr HB.out hb' HB.out.size)
        clear hb'
        go_wp2_with fail
        go_ret
        exact ⟨by rw [HF.out]; rfl, HB2.out⟩
      | false =>
        have HK2 : Hid (∀ j x, j < k + 1 → q[j]? = some x → p x = false) := by
          intro j x hj hx
          by_cases e : j = k
          · subst e
            rw [HL.out] at hx
            injection hx with hx
            rw [← hx]; exact HPL.out
          · exact HK.out j x (by omega) hx
        go_wp2_with fail
        refine HC.out.mono ?_
        rintro e w' ⟨rfl, hb'⟩
        have HB2 := Lib.hid (btr HB.out hb' HB.out.size)
        clear hb'
        go_wp2_with fail
        go_roundw
        case rel => exact ⟨k + 1, by omega, by go_num, HB2, HK2⟩
        case measure => simp [intOf]; omega
    · obtain rfl : k = n := by omega
      have HF := Lib.hid (show R = -1 by
        rw [← HR.out]
        unfold fidx
        rw [tw_all (fun j x hj hx => HK.out j x (by rw [← HN.out]; exact hj) hx), if_pos rfl])
      have c1 : decide ((k : Int) < (k : Int)) = false := by simp
      go_wp2_with fail
      go_ret
      exact ⟨by rw [HF.out]; rfl, HB.out⟩

theorem lcells_set (r : List Lv) (i : Nat) (l : Lv) (hi : i < r.length) : lcells (r.set i l) = (((lcells r).set (i * 3) (.int .i64 l.txn)).set (i * 3 + 1) (.string ⟨l.res.toArray⟩)).set (i * 3 + 2) (.int .i64 l.mode) := by
  induction r generalizing i with
  | nil => simp at hi
  | cons a r ih =>
    cases i with
    | zero => simp [lcells]
    | succ i =>
      have := ih i (by simpa using hi)
      rw [List.set_cons_succ]
      have e : ∀ (m : Nat) (z : Value) (X : List Value), ([Value.int .i64 a.txn, .string ⟨a.res.toArray⟩, .int .i64 a.mode] ++ X).set (m + 3) z = [Value.int .i64 a.txn, .string ⟨a.res.toArray⟩, .int .i64 a.mode] ++ X.set m z := fun m z X => rfl
      show [Value.int .i64 a.txn, .string ⟨a.res.toArray⟩, .int .i64 a.mode] ++ lcells (r.set i l) = ((([Value.int .i64 a.txn, .string ⟨a.res.toArray⟩, .int .i64 a.mode] ++ lcells r).set ((i + 1) * 3) _).set ((i + 1) * 3 + 1) _).set ((i + 1) * 3 + 2) _
      rw [show (i + 1) * 3 = i * 3 + 3 by omega, show i * 3 + 3 + 1 = (i * 3 + 1) + 3 by omega, show i * 3 + 3 + 2 = (i * 3 + 2) + 3 by omega, e, e, e, this]
/-- a lock written into a row -/
theorem OwL.set {w : World} {B g n cap : Nat} {r : List Lv} (h : OwL w B (.slice (some ⟨g, 0, none⟩) n cap) r) (i : Nat) (l : Lv) (hi : i < r.length) :
    OwL (((w.setCell ⟨g, i * 3, none⟩ (.int .i64 l.txn)).setCell ⟨g, i * 3 + 1, none⟩ (.string ⟨l.res.toArray⟩)).setCell ⟨g, i * 3 + 2, none⟩ (.int .i64 l.mode)) B (.slice (some ⟨g, 0, none⟩) n cap) (r.set i l) ∧
    Frm (fun k => k = g) w (((w.setCell ⟨g, i * 3, none⟩ (.int .i64 l.txn)).setCell ⟨g, i * 3 + 1, none⟩ (.string ⟨l.res.toArray⟩)).setCell ⟨g, i * 3 + 2, none⟩ (.int .i64 l.mode)) := by
  refine ⟨?_, (((Frm.refl _ w).setCell (F := fun k => k = g) (.inl rfl) _ _).setCell (.inl rfl) _ _).setCell (.inl rfl) _ _⟩
  rcases h.cases with ⟨e, -⟩ | ⟨g', cap', cur, e, hb, hg, hn, hc, hs, ht⟩
  · cases e
  · injection e with e1 e2 e3
    injection e1 with e1
    injection e1 with e1 e4
    subst e1 e2 e3
    rw [setCell_eq_setRow w g (i * 3) _ _ _ (.int .i64 l.txn) hg]
    obtain ⟨X1, hX1⟩ : ∃ X, cur.toArray.setIfInBounds (i * 3) (.int .i64 l.txn) = X := ⟨_, rfl⟩
    have h1 : (w.setRow g X1).heap[g]? = some (.cells X1 42 (0, 0)) := setRow_heap w g _ _ _ _ hg
    rw [hX1, setCell_eq_setRow _ g (i * 3 + 1) _ _ _ _ h1]
    obtain ⟨X2, hX2⟩ : ∃ X, X1.setIfInBounds (i * 3 + 1) (.string ⟨l.res.toArray⟩) = X := ⟨_, rfl⟩
    have h2 : ((w.setRow g X1).setRow g X2).heap[g]? = some (.cells X2 42 (0, 0)) := setRow_heap _ g _ _ _ _ h1
    rw [hX2, setCell_eq_setRow _ g (i * 3 + 2) _ _ _ _ h2]
    obtain ⟨X3, hX3⟩ : ∃ X, X2.setIfInBounds (i * 3 + 2) (.int .i64 l.mode) = X := ⟨_, rfl⟩
    have h3 : (((w.setRow g X1).setRow g X2).setRow g X3).heap[g]? = some (.cells X3 42 (0, 0)) := setRow_heap _ g _ _ _ _ h2
    rw [hX3]
    have hl : (r.set i l).length = r.length := List.length_set
    rw [← hl]
    refine OwL.mk (cur := ((cur.set (i * 3) (.int .i64 l.txn)).set (i * 3 + 1) (.string ⟨l.res.toArray⟩)).set (i * 3 + 2) (.int .i64 l.mode)) hb ?_ (by rw [hl]; exact hn) hc (by simpa using hs) ?_
    · rw [h3, ← hX3, ← hX2, ← hX1]; simp
    · rw [hl, List.take_set, List.take_set, List.take_set, ht, lcells_set r i l hi]
/-- what is asked of a predicate while a row is written -/
def PrF (g : FuncId) (cb : Value) (p : Lv → Bool) (F : Bl) (w : World) : Prop := ∀ (W : World) (x : Lv), Frm F w W → Calls Tryz.prog g #[encL x, cb] W fun e w' => e = .returned (.bool (p x)) ∧ Below W.heap.size W w'
theorem PrF.prb {g : FuncId} {cb : Value} {p : Lv → Bool} {F : Bl} {w : World} (h : PrF g cb p F w) : PrB g cb p w := fun W x hb => h W x (Frm.of_below hb)
theorem tw_mem {α : Type} {p : α → Bool} {x : α} : ∀ {l : List α}, x ∈ l.takeWhile p → p x = true
  | [], h => by cases h
  | a :: l, h => by
    unfold List.takeWhile at h
    split at h
    · rename_i ha
      rcases List.mem_cons.1 h with e | e
      · rw [e]; exact ha
      · exact tw_mem e
    · cases h
theorem fidx_cases (p : Lv → Bool) (q : List Lv) : (fidx p q = -1 ∧ q.filter (fun x => !p x) = q) ∨ ∃ i : Nat, fidx p q = (i : Int) ∧ i < q.length ∧ q.take i = (q.take (i + 1)).filter (fun x => !p x) := by
  unfold fidx
  have hle : (q.takeWhile fun x => !p x).length ≤ q.length := (List.takeWhile_prefix _).length_le
  by_cases c : (q.takeWhile fun x => !p x).length = q.length
  · left
    rw [if_pos c]
    refine ⟨rfl, ?_⟩
    have e : (q.takeWhile fun x => !p x) = q := (List.takeWhile_prefix _).eq_of_length c
    rw [List.filter_eq_self]
    intro x hx
    rw [← e] at hx
    exact tw_mem (p := fun x => !p x) hx
  · right
    rw [if_neg c]
    refine ⟨_, rfl, by omega, ?_⟩
    have e : q.take (q.takeWhile fun x => !p x).length = q.takeWhile fun x => !p x := (List.prefix_iff_eq_take.1 (List.takeWhile_prefix _)).symm
    rw [List.take_add_one, List.filter_append, e]
    have h1 : (q.takeWhile fun x => !p x).filter (fun x => !p x) = q.takeWhile fun x => !p x := List.filter_eq_self.2 fun x hx => tw_mem (p := fun x => !p x) hx
    have hd : q[(q.takeWhile fun x => !p x).length]? = some (q[(q.takeWhile fun x => !p x).length]'(by omega)) := List.getElem?_eq_getElem _
    have h2 : (!p (q[(q.takeWhile fun x => !p x).length]'(by omega))) = false := by
      have := List.takeWhile_append_dropWhile (p := fun x => !p x) (l := q)
      have hdw : q.dropWhile (fun x => !p x) ≠ [] := by
        intro e2
        rw [e2, List.append_nil] at this
        rw [this] at c
        exact c rfl
      have h3 := List.head_dropWhile_not _ hdw
      have h4 : q[(q.takeWhile fun x => !p x).length]'(by omega) = (q.dropWhile fun x => !p x).head hdw := by
        have : q[(q.takeWhile fun x => !p x).length]? = (q.dropWhile fun x => !p x).head? := by
          have key : ∀ A D : List Lv, (A ++ D)[A.length]? = D.head? := fun A D => by
            rw [List.getElem?_append_right (Nat.le_refl _), Nat.sub_self, List.head?_eq_getElem?]
          have k2 := key (q.takeWhile fun x => !p x) (q.dropWhile fun x => !p x)
          rw [this] at k2
          exact k2
        rw [hd, List.head?_eq_some_head hdw] at this
        injection this
      rw [h4]
      simpa using h3
    rw [h1, hd]
    simp only [Option.toList]
    rw [List.filter_cons_of_neg (by rw [h2]; simp), List.filter_nil, List.append_nil]

end Go.Proofs.YtelfinhpjokmdaaGreatDoor

namespace Go.Proofs.YtelfinhpjokmdaaGreatDoor
set_option maxRecDepth 100000
open Go.RowKit Go.Joins Go.ChangeShapes Go.WideShapes
open Go.MapKept
set_option linter.unusedVariables false
set_option linter.unnecessarySimpa false
set_option linter.unusedSimpArgs false

theorem set_take {α : Type} {r : List α} {i : Nat} {l : α} (hi : i < r.length) : (r.set i l).take (i + 1) = r.take i ++ [l] := by
  rw [List.take_set, List.take_add_one, List.getElem?_eq_getElem hi]
  simp only [Option.toList]
  rw [List.set_append_right _ _ (by rw [List.length_take]; omega)]
  have : i - (r.take i).length = 0 := by rw [List.length_take]; omega
  rw [this]
  rfl
set_option maxHeartbeats 4000000 in
theorem delf_any (w : World) (B : Nat) (v : Value) (q : List Lv) (h : OwL w B v q) (hm : q.length ≤ 9223372036854775807) (g : FuncId) (cb : Value) (p : Lv → Bool) (hp : PrF g cb p (fun k => v.ownBlock = some k) w) (eg : ∀ args w, (callFunc g args).run Tryz.prog w = .ok (.enter g args) w) :
    Calls Tryz.prog 57 #[v, .func (.func g) #[] #[cb]] w fun e w' => ∃ v', e = .returned v' ∧ OwL w' B v' (q.filter fun x => !p x) ∧ (∀ k, v'.ownBlock = some k → v.ownBlock = some k) ∧ Frm (fun k => v.ownBlock = some k) w w' := by
  generalize hP : (fun (e : Ending) (w' : World) => ∃ v', e = .returned v' ∧ OwL w' B v' (q.filter fun x => !p x) ∧ (∀ k, v'.ownBlock = some k → v.ownBlock = some k) ∧ Frm (fun k => v.ownBlock = some k) w w') = P
  have HP := Lib.hid hP
  clear hP
  have HI := Lib.hid (idxf_any w B v q h hm g cb p hp.prb eg)
  have HO := Lib.hid h
  rcases fidx_cases p q with ⟨c1, c2⟩ | ⟨i0, c1, c2, c3⟩
  · rw [c1] at HI
    have HF := Lib.hid (show ∀ w', Below w.heap.size w w' → P (.returned v) w' by
      intro w' hb
      rw [← HP.out]
      exact ⟨v, rfl, by rw [c2]; exact (Frm.of_below (F := fun _ => False) hb).owL HO.out (fun _ _ h => h), fun _ h => h, Frm.of_below hb⟩)
    clear HO HP hp h c1 c2
    go_enter Tryz.func57, Tryz.ntmps57
    go_wp2_with fail
    refine HI.out.mono ?_
    rintro e w' ⟨rfl, hb⟩
    have HB := Lib.hid (HF.out w' hb)
    clear hb
    go_wp2_with fail
    exact HB.out
  · rw [c1] at HI
    have hsh : ∃ gq cap, v = .slice (some ⟨gq, 0, none⟩) q.length cap ∧ q.length ≤ cap ∧ cap ≤ maxLen := by
      rcases h.cases with ⟨-, rfl⟩ | ⟨gq, cap, cur, rfl, -, -, hn, hc, -⟩
      · simp at c2
      · exact ⟨gq, cap, rfl, hn, hc⟩
    obtain ⟨gq, cap, rfl, hcap, hmx⟩ := hsh
    obtain ⟨n, hn⟩ : ∃ n, q.length = n := ⟨_, rfl⟩
    have HN := Lib.hid hn
    have HPF := Lib.hid hp
    rw [hn] at HI HO HP hm hcap c2
    rw [hn] at HPF ⊢
    unfold maxLen at hmx
    have HC3 := Lib.hid c3
    clear hn hp h c1 c3
    go_enter Tryz.func57, Tryz.ntmps57
    go_wp2_with fail
    refine HI.out.mono ?_
    rintro e w1 ⟨rfl, hb1⟩
    have HB1 := Lib.hid hb1
    have hi1 : IntKind.i64.wrap ((i0 : Int) + 1) = ((i0 + 1 : Nat) : Int) := by rw [IntWalk.i64_in _ (by omega)]; omega
    have hi2 : ((i0 : Int) == -1) = false := by simp
    have hi3 : ¬ (i0 : Int) = -1 := by omega
    clear hb1 HI
    go_wp2_with fail
    go_loopw [5, 6] (fun s5 s6 wr => ∃ (i k : Nat) (r : List Lv), i < k ∧ k ≤ n ∧ s5 = .int .i64 i ∧ s6 = .int .i64 k ∧ r.length = n ∧ Hid (OwL wr B (.slice (some ⟨gq, 0, none⟩) n cap) r) ∧ Hid (r.take i = (q.take k).filter (fun x => !p x)) ∧ Hid (r.drop k = q.drop k) ∧ Hid (Frm (fun k => k = gq) w wr)) (fun _ s6 _ => n - (intOf s6).toNat)
    case atStart => exact ⟨i0, i0 + 1, q, by omega, by omega, rfl, by first | rfl | go_num, HN.out, (Frm.of_below (F := fun _ => False) HB1.out).owL HO.out (fun _ _ h => h), HC3, rfl, Frm.of_below HB1.out⟩
    case round =>
      obtain ⟨i, k, r, hik, hk, rfl, rfl, hr, HR, HA, HD, HFR⟩ := hrel
      by_cases c : k < n
      · have ck : (k : Int) < (n : Int) := by omega
        obtain ⟨l, hl⟩ : ∃ l, r[k]? = some l := ⟨_, List.getElem?_eq_getElem (by rw [hr]; exact c)⟩
        have hql : q[k]? = some l := by
          have h1 : (r.drop k)[0]? = (q.drop k)[0]? := by rw [HD.out]
          rw [List.getElem?_drop, List.getElem?_drop, Nat.add_zero] at h1
          rw [← h1]; exact hl
        obtain ⟨g', cap', e1, -, -, a0, a1, a2, -⟩ := OwL.at HR.out hl
        injection e1 with e1 e2 e3
        injection e1 with e1
        injection e1 with e1
        subst e1
        obtain ⟨W1, hW1⟩ : ∃ W1, wr.alloc (.cells #[.int .i64 l.txn, .string ⟨l.res.toArray⟩, .int .i64 l.mode] 42) = W1 := ⟨_, rfl⟩
        have hb1 : Below wr.heap.size wr W1 := by rw [← hW1]; exact (Below.refl _ _).alloc (Nat.le_refl _) _
        have hx1 : W1.heap[wr.heap.size]? = some (.cells #[.int .i64 l.txn, .string ⟨l.res.toArray⟩, .int .i64 l.mode] 42 (0, 0)) := by rw [← hW1]; exact heap_alloc_new wr _
        have b0 : W1.cell? ⟨wr.heap.size, 0, none⟩ = some (.int .i64 l.txn) := by rw [cell_of_block hx1]; rfl
        have b1 : W1.cell? ⟨wr.heap.size, 1, none⟩ = some (.string ⟨l.res.toArray⟩) := by rw [cell_of_block hx1]; rfl
        have b2 : W1.cell? ⟨wr.heap.size, 2, none⟩ = some (.int .i64 l.mode) := by rw [cell_of_block hx1]; rfl
        have HC := Lib.hid (HPF.out W1 l ((HFR.out.step hb1).mono fun k hk => by rw [hk]; rfl))
        unfold encL at HC
        have HX1 := Lib.hid hx1
        have HB1' := Lib.hid hb1
        have HL := Lib.hid hl
        have HQL := Lib.hid hql
        have hkw : IntKind.i64.wrap ((k : Int) + 1) = ((k + 1 : Nat) : Int) := by rw [IntWalk.i64_in _ (by omega)]; omega
        have hiw : IntKind.i64.wrap ((i : Int) + 1) = ((i + 1 : Nat) : Int) := by rw [IntWalk.i64_in _ (by omega)]; omega
        obtain ⟨b, hb⟩ : ∃ b, p l = b := ⟨_, rfl⟩
        rw [hb] at HC
        have HPL := Lib.hid hb
        have HDN : Hid (r.drop (k + 1) = q.drop (k + 1)) := by
          have := congrArg (List.drop 1) HD.out
          rw [List.drop_drop, List.drop_drop] at this
          exact this
        clear hl hql e2 e3 hb hb1 hx1
        cases b with
        | true =>
          have HA2 : Hid (r.take i = (q.take (k + 1)).filter (fun x => !p x)) := by
            rw [List.take_add_one, HQL.out, List.filter_append, HA.out]
            simp only [Option.toList]
            rw [List.filter_cons_of_neg (by rw [HPL.out]; simp), List.filter_nil, List.append_nil]
            exact rfl
          go_wp2_with fail
          try rw [hW1]
          refine HC.out.mono ?_
          rintro e w2 ⟨rfl, hb2⟩
          have HB2 := Lib.hid (btr HB1'.out hb2 HB1'.out.size)
          clear hb2 hW1
          go_wp2_with fail
          go_roundw
          case rel => exact ⟨i, k + 1, r, by omega, by omega, rfl, by first | rfl | go_num, hr, (Frm.of_below (F := fun _ => False) HB2.out).owL HR.out (fun _ _ h => h), HA2, HDN, HFR.out.step HB2.out⟩
          case measure => simp [intOf]; omega
        | false =>
          have HA2 : Hid ((r.set i l).take (i + 1) = (q.take (k + 1)).filter (fun x => !p x)) := by
            rw [set_take (by rw [hr]; omega), List.take_add_one, HQL.out, List.filter_append, HA.out]
            simp only [Option.toList]
            rw [List.filter_cons_of_pos (by rw [HPL.out]; rfl), List.filter_nil]
            exact rfl
          have HDN2 : Hid ((r.set i l).drop (k + 1) = q.drop (k + 1)) := by
            rw [List.drop_set_of_lt (by omega)]
            exact HDN.out
          obtain ⟨li, hli⟩ : ∃ li, r[i]? = some li := ⟨_, List.getElem?_eq_getElem (by rw [hr]; omega)⟩
          go_wp2_with fail
          try rw [hW1]
          refine HC.out.mono ?_
          rintro e w2 ⟨rfl, hb2⟩
          have HB2 := Lib.hid (btr HB1'.out hb2 HB1'.out.size)
          have ho2 := (Frm.of_below (F := fun _ => False) HB2.out).owL HR.out (fun _ _ h => h)
          obtain ⟨g', cap', e1, -, -, x0, x1, x2, fz⟩ := OwL.at ho2 hli
          injection e1 with e1 e2 e3
          injection e1 with e1
          injection e1 with e1
          subst e1
          have f0 := fz (i * 3)
          have f1 := fz (i * 3 + 1)
          have f2 := fz (i * 3 + 2)
          have lw := (Array.getElem?_eq_some_iff.1 HX1.out).1
          have y0 := (hb2.cell (p := ⟨wr.heap.size, 0, none⟩) lw).trans b0
          have y1 := (hb2.cell (p := ⟨wr.heap.size, 1, none⟩) lw).trans b1
          have y2 := (hb2.cell (p := ⟨wr.heap.size, 2, none⟩) lw).trans b2
          have HS := Lib.hid (ho2.set i l (by rw [hr]; omega))
          have HFR2 := Lib.hid ((HFR.out.step HB2.out).trans HS.out.2 (New.refl _ _))
          have hls : (r.set i l).length = n := by rw [List.length_set]; exact hr
          have ci : (i : Int) < (n : Int) := by omega
          have ci0 : i < n := by omega
          clear hb2 hW1 ho2 e2 e3 fz a0 a1 a2 b0 b1 b2
          go_wp2_with fail
          go_roundw
          case rel => exact ⟨i + 1, k + 1, r.set i l, by omega, by omega, by first | rfl | go_num, by first | rfl | go_num, hls, HS.out.1, HA2, HDN2, HFR2⟩
          case measure => simp [intOf]; omega
      · obtain rfl : k = n := by omega
        have ck : decide ((k : Int) < (k : Int)) = false := by simp
        have HAF : Hid (r.take i = q.filter (fun x => !p x)) := by
          rw [HA.out, List.take_of_length_le (by rw [HN.out]; exact Nat.le_refl _)]
          exact rfl
        obtain ⟨cur, hb, hg, hc, hs, ht⟩ : ∃ cur : List Value, B ≤ gq ∧ wr.heap[gq]? = some (.cells cur.toArray 42 (0, 0)) ∧ cap ≤ maxLen ∧ cur.length = cap * 3 ∧ cur.take (r.length * 3) = lcells r := by
          rcases HR.out.cases with ⟨e, -⟩ | ⟨g', cap', cur, e, hb, hg, hn, hc, hs, ht⟩
          · simp at e
          · simp only [Value.slice.injEq, Option.some.injEq, Addr.mk.injEq, and_true, true_and] at e
            obtain ⟨rfl, -, rfl⟩ := e
            exact ⟨cur, hb, hg, hc, hs, ht⟩
        obtain ⟨W3, hW3⟩ : ∃ W3, wr.setRow gq (splice cur (i * 3) (lcells (List.replicate (k - i) zl))).toArray = W3 := ⟨_, rfl⟩
        have hcl : ∀ ty, (Builtin.clear_ #[27] ty #[.slice (some ⟨gq, i * 3, none⟩) (k - i) (cap - i)]).run Tryz.prog wr = .ok (.tuple #[]) W3 := by
          intro ty
          rw [← hW3]
          exact run_clear_p wr ty gq _ _ _ cur _ hg (by omega) (by omega)
        have HF := Lib.hid (show P (.returned (.slice (some ⟨gq, 0, none⟩) i cap)) W3 by
          rw [← HP.out]
          have hf3 : Frm (fun k => k = gq) wr W3 := by rw [← hW3]; exact Frm.grown (Frm.refl _ wr) (grown_setRow wr gq _) (fun k hk => by injection hk with hk; exact .inl hk.symm)
          refine ⟨_, rfl, ?_, fun _ h => h, (HFR.out.trans hf3 (New.refl _ _)).mono fun k hk => by rw [hk]; rfl⟩
          have hl : (q.filter fun x => !p x).length = i := by rw [← HAF.out, List.length_take, hr]; omega
          rw [← hl]
          refine OwL.mk (cur := splice cur (i * 3) (lcells (List.replicate (k - i) zl))) hb ?_ (by omega) hc ?_ ?_
          · rw [← hW3]; exact setRow_heap _ _ _ _ _ _ hg
          · rw [length_splice _ _ _ (by rw [lcells_length, List.length_replicate]; omega), hs]
          · rw [hl, splice_far (Nat.le_refl _) (by omega), ← HAF.out, ← lcells_take, ← ht, List.take_take, hr]
            congr 1
            omega)
        have h1 : i ≤ k := by omega
        have h2 : i ≤ cap := by omega
        have h3 : ¬ cap = i := by omega
        have h4 : ((i : Int)).toNat = i := by omega
        have h5 : (0 : Int) ≤ (i : Int) := by omega
        clear hW3 hg hb ht hs hc HR HA HD HFR
        go_wp2_with fail
        exact HF.out

end Go.Proofs.YtelfinhpjokmdaaGreatDoor

namespace Go.Proofs.YtelfinhpjokmdaaGreatDoor
set_option maxRecDepth 100000
open Go.RowKit Go.Joins Go.ChangeShapes Go.WideShapes
open Go.MapKept
set_option linter.unusedVariables false
set_option linter.unnecessarySimpa false
set_option linter.unusedSimpArgs false

theorem leavecl_any (x : Lv) (t : Int) (b : Nat) (W : World) (hc : W.cell? ⟨b, 0, none⟩ = some (.int .i64 t)) :
    Calls Tryz.prog 58 #[encL x, .pointer (some ⟨b, 0, none⟩)] W fun e w' => e = .returned (.bool (decide (x.txn = t))) ∧ Below W.heap.size W w' := by
  unfold encL
  obtain ⟨W1, hW1⟩ : ∃ W1, W.alloc (.cells #[.int .i64 x.txn, .string ⟨x.res.toArray⟩, .int .i64 x.mode] 42) = W1 := ⟨_, rfl⟩
  have hb1 : Below W.heap.size W W1 := by rw [← hW1]; exact (Below.refl _ _).alloc (Nat.le_refl _) _
  have hx1 : W1.heap[W.heap.size]? = some (.cells #[.int .i64 x.txn, .string ⟨x.res.toArray⟩, .int .i64 x.mode] 42 (0, 0)) := by rw [← hW1]; exact heap_alloc_new W _
  have c0 : W1.cell? ⟨W.heap.size, 0, none⟩ = some (.int .i64 x.txn) := by rw [cell_of_block hx1]; rfl
  have c1 : W1.cell? ⟨b, 0, none⟩ = some (.int .i64 t) := (hb1.cell (p := ⟨b, 0, none⟩) (World.block_lt_of_cell? _ _ hc)).trans hc
  have HB := Lib.hid hb1
  have hd : (x.txn == t) = decide (x.txn = t) := rfl
  rw [← hd]
  clear hx1 hb1 hc hd
  go_enter Tryz.func58, Tryz.ntmps58
  go_upto_region 1 with fail
  try rw [hW1]
  clear hW1
  go_wp2_with fail
  go_ret
  exact ⟨rfl, HB.out⟩
theorem OwL.sl {w : World} {B : Nat} {v : Value} {l : List Lv} (h : OwL w B v l) : ∃ a c, v = .slice a l.length c ∧ l.length ≤ c ∧ c ≤ maxLen := by
  rcases h.cases with ⟨rfl, rfl⟩ | ⟨g, cap, cur, rfl, -, -, hn, hc, -⟩
  · exact ⟨_, _, rfl, Nat.le_refl _, by decide⟩
  · exact ⟨_, _, rfl, hn, hc⟩
theorem OwL.sl' {w : World} {B : Nat} {v : Value} {l : List Lv} (h : OwL w B v l) : ∃ a n c, v = .slice a n c := by
  obtain ⟨a, c, e, -⟩ := h.sl
  exact ⟨a, _, c, e⟩
section
variable {w w1 : World} {B g mb : Nat} {md : Int → Int} {cn : Nat → Nat} {qv : Value} {q : List Lv}
set_option maxHeartbeats 2000000 in
theorem leave_any (h : ThM w B g mb md cn qv q) (hm : q.length ≤ 9223372036854775807) (t : Int) :
    Calls Tryz.prog 33 #[.pointer (some ⟨g, 0, none⟩), .int .i64 t] w fun e w' => ∃ qv', e = .returned (.tuple #[]) ∧ ThM w' B g mb md cn qv' (q.filter fun l => !decide (l.txn = t)) ∧ (∀ k, qv'.ownBlock = some k → qv.ownBlock = some k) ∧ Frm (fun k => k = g ∨ qv.ownBlock = some k) w w' := by
  generalize hP : (fun (e : Ending) (w' : World) => ∃ qv', e = .returned (.tuple #[]) ∧ ThM w' B g mb md cn qv' (q.filter fun l => !decide (l.txn = t)) ∧ (∀ k, qv'.ownBlock = some k → qv.ownBlock = some k) ∧ Frm (fun k => k = g ∨ qv.ownBlock = some k) w w') = P
  have HP := Lib.hid hP
  clear hP
  obtain ⟨W1, hW1⟩ : ∃ W1, w.alloc (.cells #[.int .i64 t] 3) = W1 := ⟨_, rfl⟩
  have hb1 : Below w.heap.size w W1 := by rw [← hW1]; exact (Below.refl _ _).alloc (Nat.le_refl _) _
  have hx1 : W1.heap[w.heap.size]? = some (.cells #[.int .i64 t] 3 (0, 0)) := by rw [← hW1]; exact heap_alloc_new w _
  have h1 := h.below hb1
  have c8 := h1.c8
  have hql : ∀ k, qv.ownBlock = some k → k < w.heap.size := fun k hk => (World.ownsRow.lt h.qr k hk).2
  have HD := Lib.hid (delf_any W1 B qv q h1.qr hm 58 (.pointer (some ⟨w.heap.size, 0, none⟩)) (fun l => decide (l.txn = t)) (fun W x hf => leavecl_any x t w.heap.size W (by
    rw [hf.cell (Array.getElem?_eq_some_iff.1 hx1).1 (fun hk => by have := hql _ hk; omega), cell_of_block hx1]; rfl)) (enters_of Tryz.func58 (by kernel_rfl) rfl))
  have HH := Lib.hid h1
  have HB := Lib.hid hb1
  have HQL := Lib.hid hql
  have lg := h.lt
  clear h h1 hb1 hx1 hql
  go_enter Tryz.func33, Tryz.ntmps33
  go_upto_region 1 with fail
  try rw [hW1]
  clear hW1
  go_wp2_with fail
  refine HD.out.mono ?_
  rintro e w2 ⟨v2, rfl, ho, hs, hf⟩
  obtain ⟨va, vc, rfl, -, -⟩ := ho.sl
  generalize (q.filter fun x => !decide (x.txn = t)).length = vn at *
  have hng : ¬ qv.ownBlock = some g := fun e => (HH.out.own g e).1 rfl
  have hx2 : w2.heap[g]? = some (.cells (thC mb cn qv) 59 (0, 0)) := (hf.heap HH.out.lt hng).trans HH.out.box
  have d8 : w2.cell? ⟨g, 8, none⟩ = some qv := by rw [cell_of_block hx2]; rfl
  have f8 := unfrozen_of_block hx2 8
  have HF := Lib.hid (show P (.returned (.tuple #[])) (w2.setCell ⟨g, 8, none⟩ (.slice va vn vc)) by
    rw [← HP.out]
    have hf2 : Frm (fun k => k = g) w2 (w2.setCell ⟨g, 8, none⟩ (.slice va vn vc)) := Frm.set1 (F := fun k => k = g) w2 rfl _ _
    obtain ⟨n, hm⟩ := HH.out.mp
    refine ⟨_, rfl, ⟨?_, ⟨n, (hm.step hf (fun e => (HH.out.own mb e).2 rfl)).step hf2 (fun e => HH.out.ne e.symm)⟩, hf2.owL ho (fun k hk e => hng (by rw [← e]; exact hs k hk))⟩, hs, ?_⟩
    · rw [setCell_eq_setRow w2 g 8 _ _ _ _ hx2, setRow_heap w2 g _ _ _ _ hx2]; rfl
    · exact (((Frm.of_below HB.out).trans hf (fun k hk => .inl hk)).mono fun k hk => .inr hk).trans (hf2.mono (F1 := fun k => k = g ∨ qv.ownBlock = some k) fun k hk => .inl hk) (New.refl _ _))
  clear ho hs hf hx2
  go_wp2_with fail
  exact bodyPost_ret (v := .tuple #[]) (by simp [results, Tryz.results33, go_sem]) rfl HF.out

end
end Go.Proofs.YtelfinhpjokmdaaGreatDoor

namespace Go.Proofs.YtelfinhpjokmdaaGreatDoor
set_option maxRecDepth 100000
open Go.RowKit Go.Joins Go.ChangeShapes Go.WideShapes
open Go.MapKept
set_option linter.unusedVariables false
set_option linter.unnecessarySimpa false
set_option linter.unusedSimpArgs false

/-- no list -/
abbrev nilV : Value := .slice none 0 0
/-- whose a block is -/
inductive Own where
  | none | tb | bt | bh | bw
  | tg (s : RS) | tm (s : RS) | tq (s : RS)
  | hr (t : Int)
/-- where the pieces lie -/
structure Lay where
  tb : Nat
  bt : Nat
  bh : Nat
  bw : Nat
  tg : RS → Nat
  tm : RS → Nat
  tq : RS → Value
  hr : Int → Option Value
def thV (S : TS RS) (L : Lay) (s : RS) : Option Value := if S.ex s = true then some (.pointer (some ⟨L.tg s, 0, none⟩)) else none
def wsV (S : TS RS) (t : Int) : Option Value := (S.ws t).map encL
/-- the table in memory -/
structure Mem (w : World) (B : Nat) (own : Nat → Own) (L : Lay) (S : TS RS) : Prop where
  box : w.heap[L.tb]? = some (.cells #[.map (some L.bt), .map (some L.bh), .map (some L.bw)] 52 (0, 0))
  mt : ∃ n, IMap .string Go.Proofs.encStr w L.bt (thV S L) n
  mh : ∃ n, IMap (.int .i64) ik w L.bh L.hr n
  mw : ∃ n, IMap (.int .i64) ik w L.bw (wsV S) n
  th : ∀ s, S.ex s = true → ThM w B (L.tg s) (L.tm s) (S.md s) (S.cn s) (L.tq s) (S.qu s)
  no : ∀ s, S.ex s = false → S.md s = (fun _ => 0) ∧ S.cn s = (fun _ => 0) ∧ S.qu s = []
  rw : ∀ t, QS w B ((L.hr t).getD nilV) (S.hs t)
  otb : own L.tb = .tb
  obt : own L.bt = .bt
  obh : own L.bh = .bh
  obw : own L.bw = .bw
  otg : ∀ s, S.ex s = true → own (L.tg s) = .tg s
  otm : ∀ s, S.ex s = true → own (L.tm s) = .tm s
  otq : ∀ s, S.ex s = true → ∀ k, (L.tq s).ownBlock = some k → own k = .tq s
  ohr : ∀ t k, ((L.hr t).getD nilV).ownBlock = some k → own k = .hr t
  lo : ∀ k, own k ≠ .none → B ≤ k
/-- from (w, own) to (w1, own1) only the table's blocks, and new ones, have turned -/
structure Stp (w : World) (own : Nat → Own) (w1 : World) (own1 : Nat → Own) : Prop where
  frm : Frm (fun k => own k ≠ .none) w w1
  new : ∀ k, own1 k ≠ .none → own k ≠ .none ∨ (w.heap.size ≤ k ∧ k < w1.heap.size)
theorem Stp.refl (w : World) (own : Nat → Own) : Stp w own w own := ⟨Frm.refl _ _, fun k h => .inl h⟩
theorem Stp.trans {w w1 w2 : World} {own own1 own2 : Nat → Own} (h : Stp w own w1 own1) (g : Stp w1 own1 w2 own2) : Stp w own w2 own2 := by
  refine ⟨h.frm.trans g.frm (fun k hk => (h.new k hk).imp_right fun h => h.1), fun k hk => ?_⟩
  rcases g.new k hk with e | ⟨e1, e2⟩
  · rcases h.new k e with e | ⟨e1, e2⟩
    · exact .inl e
    · exact .inr ⟨e1, Nat.lt_of_lt_of_le e2 g.frm.size⟩
  · exact .inr ⟨Nat.le_trans h.frm.size e1, e2⟩
theorem Stp.of_below {w w1 : World} {own : Nat → Own} (h : Below w.heap.size w w1) : Stp w own w1 own := ⟨Frm.of_below h, fun k h => .inl h⟩
theorem Stp.of_frm {w w1 : World} {own : Nat → Own} {F : Bl} (h : Frm F w w1) (hF : ∀ k, F k → own k ≠ .none) : Stp w own w1 own := ⟨h.mono hF, fun k h => .inl h⟩
/-- new blocks given to somebody -/
def ownN (own : Nat → Own) (lo hi : Nat) (o : Own) : Nat → Own := fun k => if lo ≤ k ∧ k < hi then o else own k
theorem ownN_old {own : Nat → Own} {lo hi k : Nat} {o : Own} (h : k < lo) : ownN own lo hi o k = own k := by unfold ownN; rw [if_neg (by omega)]
theorem ownN_new {own : Nat → Own} {lo hi k : Nat} {o : Own} (h : lo ≤ k) (h2 : k < hi) : ownN own lo hi o k = o := by unfold ownN; rw [if_pos ⟨h, h2⟩]
theorem Stp.newN {w w1 : World} {own : Nat → Own} {F : Bl} {o : Own} (h : Frm F w w1) (hF : ∀ k, F k → own k ≠ .none) : Stp w own w1 (ownN own w.heap.size w1.heap.size o) := by
  refine ⟨h.mono hF, fun k hk => ?_⟩
  unfold ownN at hk
  split at hk
  · rename_i c; exact .inr c
  · exact .inl hk
theorem QS.lt {w : World} {B : Nat} {v : Value} {l : List (List UInt8)} (h : QS w B v l) : ∀ k, v.ownBlock = some k → B ≤ k ∧ k < w.heap.size := QR.lt h
theorem QS.step {w w1 : World} {F : Bl} {B : Nat} {v : Value} {l : List (List UInt8)} (h : QS w B v l) (hf : Frm F w w1) (hv : ∀ k, v.ownBlock = some k → ¬ F k) : QS w1 B v l := QR.step h hf hv
section
variable {w w1 : World} {B : Nat} {own : Nat → Own} {L : Lay} {S : TS RS}
theorem Mem.tbl (h : Mem w B own L S) : L.tb < w.heap.size := (Array.getElem?_eq_some_iff.1 h.box).1
theorem Mem.btl (h : Mem w B own L S) : L.bt < w.heap.size := by obtain ⟨n, hm⟩ := h.mt; exact hm.lt
theorem Mem.bhl (h : Mem w B own L S) : L.bh < w.heap.size := by obtain ⟨n, hm⟩ := h.mh; exact hm.lt
theorem Mem.bwl (h : Mem w B own L S) : L.bw < w.heap.size := by obtain ⟨n, hm⟩ := h.mw; exact hm.lt
theorem Mem.tgl (h : Mem w B own L S) {s : RS} (hs : S.ex s = true) : L.tg s < w.heap.size := (h.th s hs).lt
theorem Mem.tml (h : Mem w B own L S) {s : RS} (hs : S.ex s = true) : L.tm s < w.heap.size := by obtain ⟨n, hm⟩ := (h.th s hs).mp; exact hm.lt
theorem Mem.tql (h : Mem w B own L S) {s : RS} (hs : S.ex s = true) : ∀ k, (L.tq s).ownBlock = some k → k < w.heap.size := fun k hk => (World.ownsRow.lt (h.th s hs).qr k hk).2
theorem Mem.hrl (h : Mem w B own L S) (t : Int) : ∀ k, ((L.hr t).getD nilV).ownBlock = some k → k < w.heap.size := fun k hk => ((h.rw t).lt k hk).2
theorem Mem.bB (h : Mem w B own L S) : B ≤ w.heap.size := Nat.le_of_lt (Nat.lt_of_le_of_lt (h.lo L.tb (by rw [h.otb]; exact fun e => by cases e)) h.tbl)
theorem Mem.cells (h : Mem w B own L S) : w.cell? ⟨L.tb, 0, none⟩ = some (.map (some L.bt)) ∧ w.cell? ⟨L.tb, 1, none⟩ = some (.map (some L.bh)) ∧ w.cell? ⟨L.tb, 2, none⟩ = some (.map (some L.bw)) :=
  ⟨by rw [cell_of_block h.box]; rfl, by rw [cell_of_block h.box]; rfl, by rw [cell_of_block h.box]; rfl⟩
/-- what turns is nobody's -/
theorem Mem.step {F : Bl} (h : Mem w B own L S) (hf : Frm F w w1) (hF : ∀ k, F k → own k = .none) : Mem w1 B own L S := by
  have hn : ∀ k o, own k = o → o ≠ .none → ¬ F k := fun k o e ho hk => ho (by rw [← e]; exact hF k hk)
  obtain ⟨n1, m1⟩ := h.mt
  obtain ⟨n2, m2⟩ := h.mh
  obtain ⟨n3, m3⟩ := h.mw
  refine ⟨(hf.heap h.tbl (hn _ _ h.otb (by intro e; cases e))).trans h.box, ⟨n1, m1.step hf (hn _ _ h.obt (by intro e; cases e))⟩, ⟨n2, m2.step hf (hn _ _ h.obh (by intro e; cases e))⟩, ⟨n3, m3.step hf (hn _ _ h.obw (by intro e; cases e))⟩, fun s hs => ?_, h.no, fun t => ?_, h.otb, h.obt, h.obh, h.obw, h.otg, h.otm, h.otq, h.ohr, h.lo⟩
  · exact (h.th s hs).step hf (hn _ _ (h.otg s hs) (by intro e; cases e)) (hn _ _ (h.otm s hs) (by intro e; cases e)) (fun k hk => hn _ _ (h.otq s hs k hk) (by intro e; cases e))
  · exact (h.rw t).step hf (fun k hk => hn _ _ (h.ohr t k hk) (by intro e; cases e))
theorem Mem.below (h : Mem w B own L S) (hb : Below w.heap.size w w1) : Mem w1 B own L S := h.step (F := fun _ => False) (Frm.of_below hb) (fun _ h => h.elim)
/-- the map of things looked up -/
theorem Mem.lookT (h : Mem w B own L S) (s : RS) : (Instr.lookup 48 (.map (some L.bt)) (.string ⟨s.toArray⟩) false).run Tryz.prog w = .ok (if S.ex s = true then .pointer (some ⟨L.tg s, 0, none⟩) else .pointer none) w := by
  obtain ⟨n, hm⟩ := h.mt
  have := hm.look (P := Tryz.prog) (t := 48) Tryz.underlying48 Tryz.underlying9 ek_key (z := .pointer none) rfl s false
  have e : Go.Proofs.encStr s = .string ⟨s.toArray⟩ := rfl
  rw [← e, this]
  unfold thV
  by_cases c : S.ex s = true <;> simp [c]
theorem Mem.lookH (h : Mem w B own L S) (t : Int) : (Instr.lookup 49 (.map (some L.bh)) (.int .i64 t) false).run Tryz.prog w = .ok ((L.hr t).getD nilV) w := by
  obtain ⟨n, hm⟩ := h.mh
  have := hm.look (P := Tryz.prog) (t := 49) Tryz.underlying49 Tryz.underlying3 ik_key (z := nilV) rfl t false
  simpa using this
/-- no lock -/
def zL : Lv := ⟨0, [], 0⟩
theorem Mem.lookW (h : Mem w B own L S) (t : Int) : (Instr.lookup 50 (.map (some L.bw)) (.int .i64 t) true).run Tryz.prog w = .ok (.tuple #[encL ((S.ws t).getD zL), .bool (S.ws t).isSome]) w := by
  obtain ⟨n, hm⟩ := h.mw
  have := hm.look (P := Tryz.prog) (t := 50) Tryz.underlying50 Tryz.underlying3 ik_key (z := encL zL) rfl t true
  rw [this]
  unfold wsV
  cases S.ws t <;> rfl
theorem Mem.lookW1 (h : Mem w B own L S) (t : Int) : (Instr.lookup 50 (.map (some L.bw)) (.int .i64 t) false).run Tryz.prog w = .ok (encL ((S.ws t).getD zL)) w := by
  obtain ⟨n, hm⟩ := h.mw
  have := hm.look (P := Tryz.prog) (t := 50) Tryz.underlying50 Tryz.underlying3 ik_key (z := encL zL) rfl t false
  rw [this]
  unfold wsV
  cases S.ws t <;> rfl
/-- a state with one thing turned -/
def updS (S : TS RS) (s : RS) (md : Int → Int) (cn : Nat → Nat) (q : List Lv) : TS RS where
  md s' := if s' = s then md else S.md s'
  cn s' := if s' = s then cn else S.cn s'
  qu s' := if s' = s then q else S.qu s'
  ex := S.ex
  hs := S.hs
  ws := S.ws
def updL (L : Lay) (s : RS) (qv : Value) : Lay := { L with tq := fun s' => if s' = s then qv else L.tq s' }
/-- a thing turned -/
theorem Mem.upd {F : Bl} (h : Mem w B own L S) {s : RS} (hs : S.ex s = true) {md : Int → Int} {cn : Nat → Nat} {qv : Value} {q : List Lv} (hf : Frm F w w1) (hF : ∀ k, F k → own k = .tg s ∨ own k = .tm s ∨ own k = .tq s)
    (ht : ThM w1 B (L.tg s) (L.tm s) md cn qv q) (hq : ∀ k, qv.ownBlock = some k → (L.tq s).ownBlock = some k ∨ w.heap.size ≤ k) :
    Mem w1 B (ownN own w.heap.size w1.heap.size (.tq s)) (updL L s qv) (updS S s md cn q) ∧ Stp w own w1 (ownN own w.heap.size w1.heap.size (.tq s)) := by
  have hn : ∀ k o, own k = o → o ≠ .tg s → o ≠ .tm s → o ≠ .tq s → ¬ F k := fun k o e h1 h2 h3 hk => by
    rcases hF k hk with g | g | g <;> rw [e] at g
    · exact h1 g
    · exact h2 g
    · exact h3 g
  have hold : ∀ k o, own k = o → k < w.heap.size → ownN own w.heap.size w1.heap.size (.tq s) k = o := fun k o e hk => by rw [ownN_old hk]; exact e
  obtain ⟨n1, m1⟩ := h.mt
  obtain ⟨n2, m2⟩ := h.mh
  obtain ⟨n3, m3⟩ := h.mw
  refine ⟨⟨(hf.heap h.tbl (hn _ _ h.otb (by intro e; cases e) (by intro e; cases e) (by intro e; cases e))).trans h.box, ⟨n1, m1.step hf (hn _ _ h.obt (by intro e; cases e) (by intro e; cases e) (by intro e; cases e))⟩, ⟨n2, m2.step hf (hn _ _ h.obh (by intro e; cases e) (by intro e; cases e) (by intro e; cases e))⟩, ⟨n3, m3.step hf (hn _ _ h.obw (by intro e; cases e) (by intro e; cases e) (by intro e; cases e))⟩, fun s' hs' => ?_, fun s' hs' => ?_, fun t => ?_, hold _ _ h.otb h.tbl, hold _ _ h.obt h.btl, hold _ _ h.obh h.bhl, hold _ _ h.obw h.bwl, fun s' hs' => hold _ _ (h.otg s' hs') (h.tgl hs'), fun s' hs' => hold _ _ (h.otm s' hs') (h.tml hs'), fun s' hs' k hk => ?_, fun t k hk => hold _ _ (h.ohr t k hk) (h.hrl t k hk), fun k hk => ?_⟩, Stp.newN hf fun k hk e => ?_⟩
  · show ThM w1 B (L.tg s') (L.tm s') (if s' = s then md else S.md s') (if s' = s then cn else S.cn s') (if s' = s then qv else L.tq s') (if s' = s then q else S.qu s')
    by_cases c : s' = s
    · subst c
      rw [if_pos rfl, if_pos rfl, if_pos rfl, if_pos rfl]
      exact ht
    · rw [if_neg c, if_neg c, if_neg c, if_neg c]
      have hne1 : Own.tg s' ≠ .tg s := by intro e; injection e with e; exact c e
      have hne2 : Own.tm s' ≠ .tm s := by intro e; injection e with e; exact c e
      have hne3 : Own.tq s' ≠ .tq s := by intro e; injection e with e; exact c e
      exact (h.th s' hs').step hf (hn _ _ (h.otg s' hs') hne1 (by intro e; cases e) (by intro e; cases e)) (hn _ _ (h.otm s' hs') (by intro e; cases e) hne2 (by intro e; cases e)) (fun k hk => hn _ _ (h.otq s' hs' k hk) (by intro e; cases e) (by intro e; cases e) hne3)
  · have hs2 : S.ex s' = false := hs'
    have c : s' ≠ s := by rintro rfl; rw [hs] at hs2; cases hs2
    show (if s' = s then md else S.md s') = _ ∧ (if s' = s then cn else S.cn s') = _ ∧ (if s' = s then q else S.qu s') = []
    rw [if_neg c, if_neg c, if_neg c]
    exact h.no s' hs2
  · exact (h.rw t).step hf (fun k hk => hn _ _ (h.ohr t k hk) (by intro e; cases e) (by intro e; cases e) (by intro e; cases e))
  · have hk' : (if s' = s then qv else L.tq s').ownBlock = some k := hk
    by_cases c : s' = s
    · subst c
      rw [if_pos rfl] at hk'
      rcases hq k hk' with e | e
      · exact hold _ _ (h.otq s' hs' k e) (h.tql hs' k e)
      · exact ownN_new e (World.ownsRow.lt ht.qr k hk').2
    · rw [if_neg c] at hk'
      exact hold _ _ (h.otq s' hs' k hk') (h.tql hs' k hk')
  · unfold ownN at hk
    split at hk
    · rename_i c; exact Nat.le_trans h.bB c.1
    · exact h.lo k hk
  · rcases hF k hk with g | g | g <;> (rw [g] at e; cases e)
end

end Go.Proofs.YtelfinhpjokmdaaGreatDoor
