/-
  Bytes of a sort, and how many of them stand ahead (layer 12): contracts over the translation.
  Conditions: none.
-/
import Derived.Test.YtlhipnklljjahaaDoorFrm
import Derived.Test.YtlhipnklljjahaaDoorKp
import Derived.BigQuiet
import Derived.Shelf.Abstract
namespace Go.Proofs.YtlhipnklljjahaaDoor
set_option maxRecDepth 100000
open Go.RowKit Go.Joins Go.ChangeShapes Go.WideShapes
set_option linter.unusedVariables false
set_option linter.unusedSimpArgs false

def blL (c : Nat) : Bool := c == 32 || c == 9 || c == 10 || c == 13
def dgL (c : Nat) : Bool := decide (48 ≤ c) && decide (c ≤ 57)
def smL (c : Nat) : Bool := decide (97 ≤ c) && decide (c ≤ 122)
def cpL (c : Nat) : Bool := decide (65 ≤ c) && decide (c ≤ 90)
def bwL (c : Nat) : Bool := smL c || cpL c || c == 95
def iwL (c : Nat) : Bool := bwL c || dgL c
def inL (c : Nat) : Bool := iwL c && !cpL c
def nqL (c : Nat) : Bool := c != 39
/-- a function of the program's that tells a byte's sort -/
def Sort8 (g : Nat) (f : Nat → Bool) : Prop := ∀ (c : Nat) (w : World), c < 256 → Calls Tryd.prog g #[.int .u8 (c : Int)] w fun e w' => e = .returned (.bool (f c)) ∧ w = w'
theorem eqi (c k : Nat) : ((c : Int) == (k : Int)) = (c == k) := by
  by_cases h : c = k
  · subst h; simp
  · rw [show (c == k) = false by simpa using h]
    exact beq_eq_false_iff_ne.2 (by omega)
set_option maxHeartbeats 1000000 in
theorem blank_any : Sort8 11 blL := by
  intro c w hc
  have e1 : ((c : Int) == (32 : Int)) = (c == 32) := eqi c 32
  have e2 : ((c : Int) == (9 : Int)) = (c == 9) := eqi c 9
  have e3 : ((c : Int) == (10 : Int)) = (c == 10) := eqi c 10
  have e4 : ((c : Int) == (13 : Int)) = (c == 13) := eqi c 13
  unfold blL
  cases h1 : (c == 32) <;> cases h2 : (c == 9) <;> cases h3 : (c == 10) <;> cases h4 : (c == 13) <;> rw [h1] at e1 <;> rw [h2] at e2 <;> rw [h3] at e3 <;> rw [h4] at e4 <;> clear h1 h2 h3 h4
  all_goals
    go_enter Tryd.func11, Tryd.ntmps11
    go_wp2
    go_ret
    exact ⟨rfl, rfl⟩
theorem lei (a c : Nat) : decide ((a : Int) ≤ (c : Int)) = decide (a ≤ c) := by simp
set_option maxHeartbeats 1000000 in
theorem digit_any : Sort8 19 dgL := by
  intro c w hc
  have e1 : decide ((48 : Int) ≤ (c : Int)) = decide (48 ≤ c) := lei 48 c
  have e2 : decide ((c : Int) ≤ (57 : Int)) = decide (c ≤ 57) := lei c 57
  unfold dgL
  cases h1 : decide (48 ≤ c) <;> cases h2 : decide (c ≤ 57) <;> rw [h1] at e1 <;> rw [h2] at e2 <;> clear h1 h2
  all_goals
    go_enter Tryd.func19, Tryd.ntmps19
    go_wp2
    go_ret
    exact ⟨rfl, rfl⟩
set_option maxHeartbeats 1000000 in
theorem small_any : Sort8 23 smL := by
  intro c w hc
  have e1 : decide ((97 : Int) ≤ (c : Int)) = decide (97 ≤ c) := lei 97 c
  have e2 : decide ((c : Int) ≤ (122 : Int)) = decide (c ≤ 122) := lei c 122
  unfold smL
  cases h1 : decide (97 ≤ c) <;> cases h2 : decide (c ≤ 122) <;> rw [h1] at e1 <;> rw [h2] at e2 <;> clear h1 h2
  all_goals
    go_enter Tryd.func23, Tryd.ntmps23
    go_wp2
    go_ret
    exact ⟨rfl, rfl⟩
set_option maxHeartbeats 1000000 in
theorem cap_any : Sort8 24 cpL := by
  intro c w hc
  have e1 : decide ((65 : Int) ≤ (c : Int)) = decide (65 ≤ c) := lei 65 c
  have e2 : decide ((c : Int) ≤ (90 : Int)) = decide (c ≤ 90) := lei c 90
  unfold cpL
  cases h1 : decide (65 ≤ c) <;> cases h2 : decide (c ≤ 90) <;> rw [h1] at e1 <;> rw [h2] at e2 <;> clear h1 h2
  all_goals
    go_enter Tryd.func24, Tryd.ntmps24
    go_wp2
    go_ret
    exact ⟨rfl, rfl⟩
set_option maxHeartbeats 1000000 in
theorem noquote_any : Sort8 33 nqL := by
  intro c w hc
  have e1 : ((c : Int) == (39 : Int)) = (c == 39) := eqi c 39
  have e2 : ((c : Int) != (39 : Int)) = (c != 39) := by rw [bne, bne, e1]
  unfold nqL
  cases h2 : (c != 39) <;> rw [h2] at e2 <;> clear h2 e1
  all_goals
    go_enter Tryd.func33, Tryd.ntmps33
    go_wp2
    go_ret
    exact ⟨rfl, rfl⟩
set_option maxHeartbeats 2000000 in
theorem begins_any : Sort8 14 bwL := by
  intro c w hc
  have HS := Lib.hid (small_any c w hc)
  have HC := Lib.hid (cap_any c w hc)
  have e1 : ((c : Int) == (95 : Int)) = (c == 95) := eqi c 95
  unfold bwL
  cases h1 : smL c <;> cases h2 : cpL c <;> cases h3 : (c == 95) <;> rw [h1] at HS <;> rw [h2] at HC <;> rw [h3] at e1 <;> clear h1 h2 h3
  all_goals
    go_enter Tryd.func14, Tryd.ntmps14
    go_wp2_with (first | (go_at_call 23; refine HS.out.mono ?_; rintro e w' ⟨rfl, rfl⟩) | (go_at_call 24; refine HC.out.mono ?_; rintro e w' ⟨rfl, rfl⟩))
    go_ret
    exact ⟨rfl, rfl⟩
set_option maxHeartbeats 2000000 in
theorem inword_any : Sort8 27 iwL := by
  intro c w hc
  have HS := Lib.hid (begins_any c w hc)
  have HC := Lib.hid (digit_any c w hc)
  unfold iwL
  cases h1 : bwL c <;> cases h2 : dgL c <;> rw [h1] at HS <;> rw [h2] at HC <;> clear h1 h2
  all_goals
    go_enter Tryd.func27, Tryd.ntmps27
    go_wp2_with (first | (go_at_call 14; refine HS.out.mono ?_; rintro e w' ⟨rfl, rfl⟩) | (go_at_call 19; refine HC.out.mono ?_; rintro e w' ⟨rfl, rfl⟩))
    go_ret
    exact ⟨rfl, rfl⟩
set_option maxHeartbeats 2000000 in
theorem inname_any : Sort8 16 inL := by
  intro c w hc
  have HS := Lib.hid (inword_any c w hc)
  have HC := Lib.hid (cap_any c w hc)
  unfold inL
  cases h1 : iwL c <;> cases h2 : cpL c <;> rw [h1] at HS <;> rw [h2] at HC <;> clear h1 h2
  all_goals
    go_enter Tryd.func16, Tryd.ntmps16
    go_wp2_with (first | (go_at_call 27; refine HS.out.mono ?_; rintro e w' ⟨rfl, rfl⟩) | (go_at_call 24; refine HC.out.mono ?_; rintro e w' ⟨rfl, rfl⟩))
    go_ret
    exact ⟨rfl, rfl⟩

/-- how many bytes of a sort stand ahead -/
def runL (f : Nat → Bool) : List Nat → Nat
  | [] => 0
  | c :: r => if f c then runL f r + 1 else 0
theorem runL_cons (f : Nat → Bool) (c : Nat) (r : List Nat) : runL f (c :: r) = if f c then runL f r + 1 else 0 := rfl
theorem runL_le (f : Nat → Bool) : ∀ l, runL f l ≤ l.length
  | [] => Nat.le_refl _
  | c :: r => by
    unfold runL
    have := runL_le f r
    split <;> simp <;> omega
set_option maxHeartbeats 1000000 in
/-- the closure: a byte is not of a sort -/
theorem not_clo {g : Nat} {f : Nat → Bool} (hg : Sort8 g f) (henter : ∀ args w, (callFunc g args).run Tryd.prog w = .ok (.enter g args) w) (c : Nat) (hc : c < 256) (w : World) (b : Nat) (hb : w.cell? ⟨b, 0, none⟩ = some (.func (.func g) #[] #[])) :
    Calls Tryd.prog 26 #[.int .u8 (c : Int), .pointer (some ⟨b, 0, none⟩)] w fun e w' => e = .returned (.bool (!f c)) ∧ w = w' := by
  have HG := Lib.hid (hg c w hc)
  obtain ⟨v, hv⟩ : ∃ v, f c = v := ⟨_, rfl⟩
  rw [hv] at HG ⊢
  go_enter Tryd.func26, Tryd.ntmps26
  go_wp2_with (first | (go_at_fn g; refine HG.out.mono ?_; rintro e w' ⟨rfl, rfl⟩))
  go_ret
  exact ⟨rfl, rfl⟩
set_option maxHeartbeats 2000000 in
theorem index_any {g : Nat} {f : Nat → Bool} (hg : Sort8 g f) (henter : ∀ args w, (callFunc g args).run Tryd.prog w = .ok (.enter g args) w) (w : World) (bx : Nat) (hbx : w.cell? ⟨bx, 0, none⟩ = some (.func (.func g) #[] #[])) (a : Option Addr) (b off cap : Nat) (l : List Nat) (ha : l.length = 0 ∨ a = some ⟨b, off, none⟩) (hA : IsB w b off l) (hl : l.length ≤ 4294967296) :
    Calls Tryd.prog 25 #[.slice a l.length cap, .func (.func 26) #[] #[.pointer (some ⟨bx, 0, none⟩)]] w fun e w' => e = .returned (.int .i64 (if runL f l = l.length then -1 else (runL f l : Int))) ∧ w = w' := by
  obtain ⟨T, hT⟩ : ∃ T : Int, (if runL f l = l.length then -1 else (runL f l : Int)) = T := ⟨_, rfl⟩
  rw [hT]
  have HT := Lib.hid hT
  have HA := Lib.hid hA
  obtain ⟨n, en⟩ : ∃ n, l.length = n := ⟨_, rfl⟩
  have EN := Lib.hid en
  have HCL := Lib.hid (fun (c : Nat) (hc : c < 256) => not_clo hg henter c hc w bx hbx)
  rw [en] at hl ha ⊢
  have hent2 : ∀ args w, (callFunc 26 args).run Tryd.prog w = .ok (.enter 26 args) w := enters_of Tryd.func26 (by kernel_rfl) rfl
  clear hT hA en hbx
  go_enter Tryd.func25, Tryd.ntmps25
  go_wp2
  go_loopw [8] (fun i wr => ∃ k : Nat, k ≤ n ∧ i = .int .i64 k ∧ Hid (runL f l = k + runL f (l.drop k)) ∧ wr = w) (fun i _ => n - (intOf i).toNat)
  case atStart => exact ⟨0, Nat.zero_le _, rfl, by show runL f l = 0 + runL f (l.drop 0); simp, rfl⟩
  case round =>
    obtain ⟨k, hk, rfl, HR, rfl⟩ := hrel
    by_cases c : k < n
    · have c1 : (k : Int) < (n : Int) := by omega
      obtain rfl : a = some ⟨b, off, none⟩ := by rcases ha with h | h; omega; exact h
      have hx : l[k]? = some (l[k]'(by rw [EN.out]; exact c)) := List.getElem?_eq_getElem _
      generalize l[k]'(by rw [EN.out]; exact c) = x at *
      have d0 := HA.out.c k x hx
      have hx8 : x < 256 := HA.out.lt x (List.mem_of_getElem? hx)
      have hr := HR.out
      have hd : l.drop k = x :: l.drop (k + 1) := by
        obtain ⟨h1, h2⟩ := List.getElem?_eq_some_iff.1 hx
        rw [List.drop_eq_getElem_cons h1, h2]
      rw [hd, runL_cons] at hr
      have HC := Lib.hid (HCL.out x hx8)
      cases hv : f x with
      | true =>
        rw [hv] at HC hr
        have HR2 := Lib.hid (show runL f l = (k + 1) + runL f (l.drop (k + 1)) by rw [if_pos rfl] at hr; omega)
        clear hr hd hx HR hv
        go_wp2_with (first | (go_at_fn 26; refine HC.out.mono ?_; rintro e w' ⟨rfl, rfl⟩))
        exact ⟨⟨k + 1, by omega, by simp, HR2, by trivial⟩, by simp [intOf]; omega⟩
      | false =>
        rw [hv] at HC hr
        have hk3 : runL f l = k := by simpa using hr
        have hT2 : T = (k : Int) := by rw [← HT.out, hk3, EN.out, if_neg (by omega)]
        clear hr hd hx HR hv hk3
        go_wp2_with (first | (go_at_fn 26; refine HC.out.mono ?_; rintro e w' ⟨rfl, rfl⟩))
        go_ret
        exact ⟨ret_i hT2.symm, rfl⟩
    · have c1 : ¬ (k : Int) < (n : Int) := by omega
      obtain rfl : k = n := by omega
      have hT2 : T = -1 := by
        have hr := HR.out
        rw [List.drop_eq_nil_of_le (by rw [EN.out]; exact Nat.le_refl _)] at hr
        have : runL f l = l.length := by rw [hr, EN.out]; rfl
        rw [← HT.out, if_pos this]
      clear HR
      go_wp2_with fail
      go_ret
      exact ⟨rfl, rfl⟩
set_option maxHeartbeats 1000000 in
theorem run_any {g : Nat} {f : Nat → Bool} (hg : Sort8 g f) (henter : ∀ args w, (callFunc g args).run Tryd.prog w = .ok (.enter g args) w) (w : World) (a : Option Addr) (b off cap : Nat) (l : List Nat) (ha : l.length = 0 ∨ a = some ⟨b, off, none⟩) (hA : IsB w b off l) (hl : l.length ≤ 4294967296) :
    Calls Tryd.prog 15 #[.slice a l.length cap, .func (.func g) #[] #[]] w fun e w' => e = .returned (.int .i64 (runL f l : Nat)) ∧ Below w.heap.size w w' := by
  have hle := runL_le f l
  have b1 : Below w.heap.size w (w.alloc (.cells #[.func (.func g) #[] #[]] 37)) := (Below.refl _ _).alloc (Nat.le_refl _) _
  have HI := Lib.hid (index_any hg henter (w.alloc (.cells #[.func (.func g) #[] #[]] 37)) w.heap.size (by rw [cell_of_block (heap_alloc_new w _)]; rfl) a b off cap l ha (hA.below b1) hl)
  have HB := Lib.hid b1
  obtain ⟨r, hr⟩ : ∃ r, runL f l = r := ⟨_, rfl⟩
  obtain ⟨n, en⟩ : ∃ n, l.length = n := ⟨_, rfl⟩
  rw [hr, en] at HI hle
  rw [hr, en]
  clear b1 hr en hA ha
  by_cases c : r = n
  · rw [if_pos c] at HI
    go_enter Tryd.func15, Tryd.ntmps15
    go_wp2_with (first | (go_at_call 25; refine HI.out.mono ?_; rintro e w' ⟨rfl, rfl⟩))
    go_ret
    exact ⟨ret_i (by rw [c]), HB.out⟩
  · rw [if_neg c] at HI
    have c2 : decide ((r : Int) < 0) = false := by simp
    go_enter Tryd.func15, Tryd.ntmps15
    go_wp2_with (first | (go_at_call 25; refine HI.out.mono ?_; rintro e w' ⟨rfl, rfl⟩))
    go_ret
    exact ⟨rfl, HB.out⟩

end Go.Proofs.YtlhipnklljjahaaDoor
