/-
  The first entry of a tree, and the first one that isn't ahead of a key: contracts over the translation.
  Conditions: the tree lies in memory.
-/
import Derived.Test.YtncganfjbalkgaaTr11
import Derived.Deep.LoopGhost
namespace Go.Proofs.Ytncganfjbalkgaa
open Go.RowKit Go.Joins Go.ChangeShapes Go.WideShapes
set_option linter.unusedVariables false
set_option linter.unusedSimpArgs false

/-- an entry as a part -/
def PtV (s : ByteArray) (n : Int) : Value := .agg #[.string s, .int .i64 n, .pointer none]

set_option maxHeartbeats 4000000 in
set_option maxRecDepth 100000 in
theorem first_any (B d : Nat) (w : World) (F : Bl) (g : Nat) (lo : List Nat) (ps : List Pv) (es : List Ent) (h : Sub B d w F g lo ps es) (hn : ps.length ≤ 8) (x : Ent) (hx : es.head? = some x) :
    Calls Try.prog 47 #[.pointer (some ⟨g, 0, none⟩)] w fun e w' => ∃ s, e = .returned (PtV s x.2) ∧ sl s = x.1 ∧ Below w.heap.size w w' := by
  generalize hP : (fun (e : Ending) (w' : World) => ∃ s, e = .returned (PtV s x.2) ∧ sl s = x.1 ∧ Below w.heap.size w w') = P
  have HP := Lib.hid hP
  obtain ⟨W1, hW1⟩ : ∃ W1, w.alloc (.cells #[.string ⟨#[]⟩, .int .i64 0, .pointer none] 77) = W1 := ⟨_, rfl⟩
  have hb : Below w.heap.size w W1 := by rw [← hW1]; exact (Below.refl _ _).alloc (Nat.le_refl _) _
  have hnew : W1.heap[w.heap.size]? = some (.cells #[.string ⟨#[]⟩, .int .i64 0, .pointer none] 77 (0, 0)) := by rw [← hW1]; exact heap_alloc_new w _
  have HS := Lib.hid (h.below hb)
  have HX := Lib.hid hx
  have HB := Lib.hid hb
  have c0 : W1.cell? ⟨w.heap.size, 0, none⟩ = some (.string ⟨#[]⟩) := by rw [cell_of_block hnew]; rfl
  have c1 : W1.cell? ⟨w.heap.size, 1, none⟩ = some (.int .i64 0) := by rw [cell_of_block hnew]; rfl
  have c2 : W1.cell? ⟨w.heap.size, 2, none⟩ = some (.pointer none) := by rw [cell_of_block hnew]; rfl
  have f0 := unfrozen_of_block hnew 0
  have f1 := unfrozen_of_block hnew 1
  have f2 := unfrozen_of_block hnew 2
  obtain ⟨z, hz⟩ : ∃ z, w.heap.size = z := ⟨_, rfl⟩
  rw [hz] at c0 c1 c2 f0 f1 f2
  have HZ := Lib.hid hz
  have HW := Lib.hid hW1
  clear hP h hx hb hnew hz hW1
  go_enter Try.func47, Try.ntmps47
  go_wp2_with fail
  rw [HW.out, HZ.out]
  go_loopg [0] d (fun k p wx => wx = W1 ∧ ∃ g' F' lo' ps' es', p = .pointer (some ⟨g', 0, none⟩) ∧ Hid (Sub B k W1 F' g' lo' ps' es' ∧ es'.head? = some x ∧ ps'.length ≤ 8))
  case atStart => exact ⟨rfl, g, F, lo, ps, es, rfl, HS.out, HX.out, hn⟩
  case round =>
    obtain ⟨rfl, g', F', lo', ps', es', rfl, HR⟩ := hrel
    obtain ⟨s1, s2, s3⟩ := HR.out
    cases gk with
    | zero =>
      have HLF := Lib.hid (isleaf_sub0 s1 (by omega))
      obtain ⟨v, G, ss⟩ := s1
      have hc := ss.con
      obtain ⟨p, hp⟩ : ∃ p, ps'[0]? = some p ∧ (sl p.1, p.2.1) = x := by
        rw [hc.2.2.1] at s2
        cases ps' with
        | nil => simp [ents] at s2
        | cons p r => exact ⟨p, rfl, by simpa [ents] using s2⟩
      obtain ⟨hp, hpx⟩ := hp
      have hpn := hc.2.1 p (List.mem_of_getElem? hp)
      obtain ⟨gb, cap, rfl, k1, k2, d0, d1, d2, -⟩ := ss.nd.own.at hp
      obtain ⟨y0, -⟩ := ss.nd.cell
      obtain ⟨pa, pb, pc⟩ := p
      dsimp only at hpn hpx d0 d1 d2
      subst hpn
      obtain ⟨m, em⟩ : ∃ m, ps'.length = m + 1 := ⟨ps'.length - 1, by have := (List.getElem?_eq_some_iff.1 hp).1; omega⟩
      rw [em] at y0 k1
      simp only [kp, Option.map_none, Nat.zero_mul, Nat.zero_add] at d0 d1 d2
      have HPX := Lib.hid hpx
      clear ss hc hp hpx HR s2 s3 em
      go_wp2_with (go_at_call 35; refine HLF.out.mono ?_; rintro e w1 ⟨rfl, rfl⟩)
      refine bodyPost_ret (v := PtV pa pb) (by simp [results, Try.results47, go_sem, PtV, c0, c1, c2, f0, f1, f2]) rfl ?_
      rw [← HP.out]
      have hh := HPX.out
      subst hh
      refine ⟨pa, rfl, rfl, ((HB.out.setCell ?_ _).setCell ?_ _).setCell ?_ _⟩ <;> (show w.heap.size ≤ z; exact Nat.le_of_eq HZ.out)
    | succ k =>
      obtain ⟨v, G, ks, nod, hsz, rfl, rfl, hl, -⟩ := s1.nod
      cases ks with
      | nil => simp at hl
      | cons c r =>
        have HLF := Lib.hid (isleaf_nod nod (by simp) (by simp at s3; simp; omega))
        obtain ⟨gb, cap, rfl, k1, k2, -, -, d2, -⟩ := nod.nd.own.at (i := 0) (p := c.pv) rfl
        obtain ⟨y0, -⟩ := nod.nd.cell
        have hsub := nod.kids.sub c (List.mem_cons_self ..)
        have hcs := hsz c (List.mem_cons_self ..)
        have hhd : c.es.head? = some x := by
          obtain ⟨vv, GG, ss⟩ := hsub
          have hne := ss.con.ne (by intro e; rw [e] at hcs; simp at hcs)
          rw [List.flatMap_cons] at s2
          cases hce : c.es with
          | nil => exact absurd hce hne
          | cons e t => rw [hce] at s2; simpa using s2
        obtain ⟨m, em⟩ : ∃ m, ((c :: r).map Kd.pv).length = m + 1 := ⟨r.length, by simp⟩
        rw [em] at y0 k1
        simp only [Kd.pv, kp, Option.map_some, Nat.zero_mul, Nat.zero_add] at d2
        have HR2 := Lib.hid (And.intro hsub (And.intro hhd hcs.2))
        clear nod hsz hl hsub hcs hhd em HR s1 s2 s3
        go_wp2_with (go_at_call 35; refine HLF.out.mono ?_; rintro e w1 ⟨rfl, rfl⟩)
        go_roundg k
        case measure => omega
        case rel => exact ⟨rfl, c.g, c.F, c.k, c.ps, c.es, rfl, HR2.out⟩

end Go.Proofs.Ytncganfjbalkgaa
