/-
  A set's keys in order (slices.Sorted of maps.Keys): the library's functions laid here, and their contracts over the translation (layer 18).
  Conditions: the keys are whole numbers of 64 bits.
-/
import Derived.Test.YtccjeclncmogiaaNo3
import Derived.Test.YtccjeclncmogiaaInt1
import Derived.Test.YtccjeclncmogiaaMap
import Derived.Shelf.Sort.Plain
import Derived.Shelf.Slices.In.SortNone
import Derived.Shelf.SlIterI.Nil
import Derived.Shelf.SlIterI.Sorted
import Derived.Maps.RangeRun
namespace Go.Proofs.Ytccjeclncmogiaa
open Go.RowKit Go.Joins Go.ChangeShapes Go.WideShapes Go.Maps Go.Shelf
set_option linter.unusedVariables false
set_option linter.unnecessarySimpa false
set_option linter.unusedSimpArgs false

/-- the numbers that the library's text has here -/
def siRen : Go.Shelf.Ren where
  f := fun x => match x with
    | 189 => 31
    | 125 => 37
    | 257 => 36
    | 128 => 48
    | 129 => 49
    | 294 => 39
    | 295 => 40
    | 296 => 41
    | 297 => 42
    | 298 => 43
    | 299 => 44
    | 216 => 45
    | 300 => 46
    | 301 => 47
    | 328 => 50
    | 329 => 51
    | 330 => 52
    | 331 => 53
    | 332 => 54
    | 215 => 55
    | 343 => 56
    | n => n
  t := fun x => match x with
    | 28 => 35
    | 3 => 3
    | 46 => 64
    | 0 => 0
    | 51 => 76
    | 53 => 78
    | 4 => 4
    | 183 => 68
    | 182 => 67
    | 131 => 73
    | 5 => 5
    | 9 => 9
    | 218 => 79
    | 222 => 83
    | 228 => 85
    | 229 => 86
    | n => n
  g := fun x => x
theorem siLays : Go.Proofs.Lays.n189 Try.prog siRen :=
  { mixed := by kernel_rfl,
    f125 := Eq.trans Try.func37 (congrArg some rfl),
    f128 := Eq.trans Try.func48 (congrArg some rfl),
    f129 := Eq.trans Try.func49 (congrArg some rfl),
    f189 := Eq.trans Try.func31 (congrArg some rfl),
    f215 := Eq.trans Try.func55 (congrArg some rfl),
    f216 := Eq.trans Try.func45 (congrArg some rfl),
    f257 := Eq.trans Try.func36 (congrArg some rfl),
    f294 := Eq.trans Try.func39 (congrArg some rfl),
    f295 := Eq.trans Try.func40 (congrArg some rfl),
    f296 := Eq.trans Try.func41 (congrArg some rfl),
    f297 := Eq.trans Try.func42 (congrArg some rfl),
    f298 := Eq.trans Try.func43 (congrArg some rfl),
    f299 := Eq.trans Try.func44 (congrArg some rfl),
    f300 := Eq.trans Try.func46 (congrArg some rfl),
    f301 := Eq.trans Try.func47 (congrArg some rfl),
    f328 := Eq.trans Try.func50 (congrArg some rfl),
    f329 := Eq.trans Try.func51 (congrArg some rfl),
    f330 := Eq.trans Try.func52 (congrArg some rfl),
    f331 := Eq.trans Try.func53 (congrArg some rfl),
    f332 := Eq.trans Try.func54 (congrArg some rfl),
    f343 := Eq.trans Try.func56 (congrArg some rfl),
    t0 := Try.underlying0,
    a0 := Try.isAgg0,
    z0 := Try.sizeOf0,
    v0 := Try.zeroValue0,
    t3 := Try.underlying3,
    a3 := Try.isAgg3,
    z3 := Try.sizeOf3,
    v3 := Try.zeroValue3,
    t4 := Try.underlying4,
    a4 := Try.isAgg4,
    z4 := Try.sizeOf4,
    v4 := Try.zeroValue4,
    t5 := Try.underlying5,
    a5 := Try.isAgg5,
    z5 := Try.sizeOf5,
    v5 := Try.zeroValue5,
    t9 := Try.underlying9,
    a9 := Try.isAgg9,
    z9 := Try.sizeOf9,
    v9 := Try.zeroValue9,
    t28 := Try.underlying35,
    a28 := Try.isAgg35,
    z28 := Try.sizeOf35,
    v28 := Try.zeroValue35,
    t46 := Try.underlying64,
    a46 := Try.isAgg64,
    z46 := Try.sizeOf64,
    v46 := Try.zeroValue64,
    t51 := Try.underlying76,
    a51 := Try.isAgg76,
    z51 := Try.sizeOf76,
    v51 := Try.zeroValue76,
    t53 := Try.underlying78,
    a53 := Try.isAgg78,
    z53 := Try.sizeOf78,
    v53 := Try.zeroValue78,
    t131 := Try.underlying73,
    a131 := Try.isAgg73,
    z131 := Try.sizeOf73,
    v131 := Try.zeroValue73,
    t182 := Try.underlying67,
    a182 := Try.isAgg67,
    z182 := Try.sizeOf67,
    v182 := Try.zeroValue67,
    t183 := Try.underlying68,
    a183 := Try.isAgg68,
    z183 := Try.sizeOf68,
    v183 := Try.zeroValue68,
    t218 := Try.underlying79,
    a218 := Try.isAgg79,
    z218 := Try.sizeOf79,
    v218 := Try.zeroValue79,
    t222 := Try.underlying83,
    a222 := Try.isAgg83,
    z222 := Try.sizeOf83,
    v222 := Try.zeroValue83,
    t228 := Try.underlying85,
    a228 := Try.isAgg85,
    z228 := Try.sizeOf85,
    v228 := Try.zeroValue85,
    t229 := Try.underlying86,
    a229 := Try.isAgg86,
    z229 := Try.sizeOf86,
    v229 := Try.zeroValue86 }
def kiRen : Go.Shelf.Ren where
  f := fun x => match x with
    | 7 => 26
    | 10 => 32
    | n => n
  t := fun x => match x with
    | 23 => 48
    | 26 => 3
    | 3 => 54
    | 28 => 52
    | 0 => 0
    | 27 => 51
    | 33 => 58
    | 4 => 4
    | n => n
  g := fun x => x
theorem kiLays : Go.Proofs.SlLaysZI.n7 Try.prog kiRen :=
  { mixed := by kernel_rfl,
    f7 := ⟨_, by kernel_rfl, Eq.trans Try.func26 (congrArg some rfl)⟩,
    f10 := ⟨_, by kernel_rfl, Eq.trans Try.func32 (congrArg some rfl)⟩,
    t0 := Try.underlying0,
    a0 := Try.isAgg0,
    z0 := Try.sizeOf0,
    v0 := Try.zeroValue0,
    t4 := Try.underlying4,
    a4 := Try.isAgg4,
    z4 := Try.sizeOf4,
    v4 := Try.zeroValue4,
    t23 := Try.underlying48,
    a23 := Try.isAgg48,
    z23 := Try.sizeOf48,
    v23 := Try.zeroValue48,
    t26 := Try.underlying3,
    a26 := Try.isAgg3,
    z26 := Try.sizeOf3,
    v26 := Try.zeroValue3,
    t27 := Try.underlying51,
    a27 := Try.isAgg51,
    z27 := Try.sizeOf51,
    v27 := Try.zeroValue51,
    t28 := Try.underlying52,
    a28 := Try.isAgg52,
    z28 := Try.sizeOf52,
    v28 := Try.zeroValue52,
    t33 := Try.underlying58,
    a33 := Try.isAgg58,
    z33 := Try.sizeOf58,
    v33 := Try.zeroValue58 }
def diRen : Go.Shelf.Ren where
  f := fun x => match x with
    | 6 => 25
    | 8 => 30
    | 9 => 31
    | 11 => 35
    | 13 => 37
    | 12 => 36
    | 23 => 48
    | 24 => 49
    | 14 => 39
    | 15 => 40
    | 16 => 41
    | 17 => 42
    | 18 => 43
    | 19 => 44
    | 20 => 45
    | 21 => 46
    | 22 => 47
    | 25 => 50
    | 26 => 51
    | 27 => 52
    | 28 => 53
    | 29 => 54
    | 30 => 55
    | 31 => 56
    | n => n
  t := fun x => match x with
    | 26 => 3
    | 28 => 52
    | 24 => 35
    | 0 => 0
    | 3 => 3
    | 37 => 64
    | 48 => 76
    | 50 => 78
    | 4 => 4
    | 40 => 68
    | 39 => 67
    | 45 => 73
    | 5 => 5
    | 9 => 9
    | 51 => 79
    | 55 => 83
    | 57 => 85
    | 58 => 86
    | 33 => 58
    | n => n
  g := fun x => x
theorem diLays : Go.Proofs.SlLaysZI.n6 Try.prog diRen :=
  { mixed := by kernel_rfl,
    f6 := ⟨_, by kernel_rfl, Eq.trans Try.func25 (congrArg some rfl)⟩,
    f8 := ⟨_, by kernel_rfl, Eq.trans Try.func30 (congrArg some rfl)⟩,
    f11 := ⟨_, by kernel_rfl, Eq.trans Try.func35 (congrArg some rfl)⟩,
    t0 := Try.underlying0,
    a0 := Try.isAgg0,
    z0 := Try.sizeOf0,
    v0 := Try.zeroValue0,
    t24 := Try.underlying35,
    a24 := Try.isAgg35,
    z24 := Try.sizeOf35,
    v24 := Try.zeroValue35,
    t26 := Try.underlying3,
    a26 := Try.isAgg3,
    z26 := Try.sizeOf3,
    v26 := Try.zeroValue3,
    t28 := Try.underlying52,
    a28 := Try.isAgg52,
    z28 := Try.sizeOf52,
    v28 := Try.zeroValue52,
    i26 := by kernel_rfl }

/-- no look at the values -/
def R0 : Value → Option (DataW Unit × List MemPlace) := fun _ => some (.nil, [])
theorem IMap.ownsI {P : Program} {k : TypeId} (hk : P.underlying k = some (.int .i64)) {w : World} {b n : Nat} {f : Int → Option Value} (h : IMap (.int .i64) ik w b f n) (hr : ∀ x v, f x = some v → (Lit.int .i64 x).wf = true) (hn : n ≤ maxLen) :
    ∃ D0 : DataW Unit, w.ownsMap P k R0 b n D0 ∧ Maps.size D0 = n ∧ (intKeys D0).Nodup ∧ ∀ x, x ∈ intKeys D0 ↔ (f x).isSome = true := by
  obtain ⟨es, clock, h1, h2, h3, h4, rfl⟩ := h
  have hkey : ∀ e ∈ es.toList, ∃ x, e.key = ik x ∧ keyOf P k e.key = some (.int .i64 x) := fun e he => by
    obtain ⟨x, hx⟩ := h3 e he
    have := hr x e.val ((h4 x e.val).2 ⟨e, he, hx, rfl⟩)
    exact ⟨x, hx, by rw [hx]; exact Maps.keyOf_int_mk hk this⟩
  have hrg : ∀ e ∈ es.toList, ∀ x, e.key = ik x → Go.WideElems.rg P k R0 e = (Lit.int .i64 x, (.nil : DataW Unit)) := fun e he x hx => by
    obtain ⟨y, hy, hko⟩ := hkey e he
    rw [hx] at hy
    obtain rfl := ik_inj _ _ hy
    exact Go.WideElems.rg_of (by unfold Go.WideElems.rd; rw [hko]; rfl)
  have hown : w.ownsMap P k R0 b es.size (.map ((es.toList.map (Go.WideElems.rg P k R0)).foldr DataW.insert [])) :=
    ⟨es, clock, h1, ⟨hn, h2, fun x hx => by obtain ⟨y, hy, hko⟩ := hkey x hx; exact ⟨_, by unfold Go.WideElems.rd; rw [hko]; rfl⟩⟩, Nat.le_refl _, rfl⟩
  refine ⟨_, hown, ?_, ?_, fun x => ?_⟩
  · show (List.foldr DataW.insert [] _).length = _
    rw [length_sorted, List.length_map, Array.length_toList]
  · obtain ⟨es', he, hp, hl⟩ := hown.entries (int_keyed hk)
    injection he with he
    show (List.map _ _).Nodup
    rw [he]
    refine List.pairwise_map.2 (hp.imp_of_mem fun {p q} hp' hq' hne e => hne ?_)
    rw [← he] at hp' hq'
    obtain ⟨a, ha, rfl⟩ := List.mem_map.1 (mem_sorted.1 hp')
    obtain ⟨c, hc, rfl⟩ := List.mem_map.1 (mem_sorted.1 hq')
    obtain ⟨xa, hxa, -⟩ := hkey a ha
    obtain ⟨xc, hxc, -⟩ := hkey c hc
    rw [hrg a ha xa hxa, hrg c hc xc hxc] at e ⊢
    exact congrArg (Lit.int .i64) e
  · show x ∈ List.map _ _ ↔ _
    rw [List.mem_map]
    constructor
    · rintro ⟨p, hp, rfl⟩
      obtain ⟨a, ha, rfl⟩ := List.mem_map.1 (mem_sorted.1 hp)
      obtain ⟨xa, hxa, -⟩ := hkey a ha
      rw [hrg a ha xa hxa]
      show (f xa).isSome = true
      rw [(h4 xa a.val).2 ⟨a, ha, hxa, rfl⟩]; rfl
    · intro hx
      obtain ⟨v, hv⟩ := Option.isSome_iff_exists.1 hx
      obtain ⟨e, he, hk', rfl⟩ := (h4 x v).1 hv
      exact ⟨_, mem_sorted.2 (List.mem_map.2 ⟨e, he, rfl⟩), by rw [hrg e he x hk']; rfl⟩
theorem nodup_sortI {l : List Int} (h : l.Nodup) : (l.mergeSort fun x y => decide (x ≤ y)).Pairwise (fun a b => a < b) := by
  have h1 : (l.mergeSort fun x y => decide (x ≤ y)).Pairwise (fun a b => a ≤ b) := by
    refine (List.pairwise_mergeSort (le := fun x y : Int => decide (x ≤ y)) (fun a b c h1 h2 => ?_) (fun a b => ?_) l).imp fun {a b} h => ?_
    · simp only [decide_eq_true_eq] at *; omega
    · simp only [Bool.or_eq_true, decide_eq_true_eq]; omega
    · simpa using h
  have h2 : (l.mergeSort fun x y => decide (x ≤ y)).Nodup := (List.mergeSort_perm l _).nodup_iff.2 h
  exact (List.Pairwise.and h1 h2).imp fun {a b} h => by have := h.1; have := h.2; omega
/-- the keys of a map of whole numbers' modes -/
theorem keysM_any (mb : Option Nat) (W : World) : Calls Try.prog 26 #[.map mb] W fun e w' => e = .returned (.func (.func 32) #[] #[.pointer (some ⟨W.heap.size, 0, none⟩)]) ∧ w' = W.alloc (.cells #[.map mb] 48) :=
  (callsIn_wide (n := 5)).1 (AnyZI.keys_in kiLays Fence.wide 5 trivial rfl mb W)
theorem sortsInI (m : Nat) : AnyZI.SortsIn Try.prog diRen Fence.wide m :=
  ⟨fun blk off cap ss W hH hblk hsz => callsIn_wide.2 (Any.slices_Sort_int siLays blk off cap ss W hH hblk hsz),
   fun p cap W => callsIn_wide.2 (Any.slices_Sort_int_none siLays p cap W)⟩
theorem sortedM_any (w w1 : World) (b n : Nat) (f : Int → Option Value) (h : IMap (.int .i64) ik w b f n) (hr : ∀ x v, f x = some v → (Lit.int .i64 x).wf = true) (hn : n ≤ 4294967296) (g : Nat) (hg : w.heap.size = g) (hw : w.alloc (.cells #[.map (some b)] 48) = w1) :
    Calls Try.prog 25 #[.func (.func 32) #[] #[.pointer (some ⟨g, 0, none⟩)]] w1 fun e w' => ∃ v l, e = .returned v ∧ l.Pairwise (fun a b => a < b) ∧ (∀ x, x ∈ l ↔ (f x).isSome = true) ∧ QI w' w1.heap.size v l ∧ Below w1.heap.size w1 w' := by
  subst hg hw
  obtain ⟨D0, hown, hsz, hnd, hmem⟩ := (h.below ((Below.refl _ _).alloc (Nat.le_refl _) (.cells #[.map (some b)] 48))).ownsI (P := Try.prog) (k := 3) Try.underlying3 hr (by unfold maxLen; omega)
  refine (callsIn_wide (n := 6)).1 ?_
  have hseq : SeqGives Fence.wide 3 Try.prog 32 #[.pointer (some ⟨w.heap.size, 0, none⟩)] Go.encZ (fun ss => ss.Perm (intKeys D0)) (Maps.size D0) (w.alloc (.cells #[.map (some b)] 48)) :=
    AnyZI.keys_gives (ρ := kiRen) { kiLays with } Fence.wide _ trivial rfl (by omega) w.heap.size b n D0 _ (by simp) (by simp) hown
  have cS := AnyZI.sorted_in diLays Fence.wide 6 trivial trivial trivial trivial rfl (by omega) (sortsInI _) (enters_of Try.func31 (by kernel_rfl) rfl) 32 #[.pointer (some ⟨w.heap.size, 0, none⟩)] trivial (enters_of Try.func32 (by kernel_rfl) rfl) _ (Maps.size D0) (by rw [hsz]; unfold maxLen; omega) (by rw [hsz]; omega) _ hseq
  change CallsIn _ _ _ 25 _ _ _ at cS
  refine cS.mono ?_
  rintro e w' ⟨v, ss, rfl, hp, hrow, -, hb⟩
  have hnd2 : ss.Nodup := hp.nodup_iff.2 hnd
  refine ⟨v, ss.mergeSort fun x y => decide (x ≤ y), rfl, nodup_sortI hnd2, fun x => by rw [(List.mergeSort_perm ss _).mem_iff, hp.mem_iff, hmem], QR.of_own hrow, hb⟩

end Go.Proofs.Ytccjeclncmogiaa
