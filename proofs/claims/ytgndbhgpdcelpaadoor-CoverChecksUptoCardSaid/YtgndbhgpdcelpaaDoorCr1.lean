/-
  The document's right instruction (haspref22): a contract over the translation.
  Conditions: none.
-/
import Derived.Test.YtgndbhgpdcelpaaDoorCv6
namespace Go.Proofs.YtgndbhgpdcelpaaDoor
set_option maxRecDepth 100000
open Go.RowKit Go.Joins Go.ChangeShapes Go.WideShapes
set_option linter.unusedVariables false
set_option linter.unusedSimpArgs false

/-- is an instruction right? -/
def rtB (n : Nat) (x : Ins) : Bool := wellB n x && !(x.op == 2 && decide (x.idx < -1))
set_option maxHeartbeats 16000000 in
set_option maxRecDepth 100000 in
theorem right22 (x : Ins) (n : Nat) (hn : n ≤ 1048576) (w : World) : Calls Tryd.prog 12 #[x.val, .int .i64 n] w fun e w' => e = .returned (.bool (rtB n x)) ∧ Below w.heap.size w w' := by
  obtain ⟨op, c, jt, mode, part, tab, idx, lo, hi, lx, hx, e, m, ds⟩ := x
  obtain ⟨R, hR⟩ : ∃ R, rtB n ⟨op, c, jt, mode, part, tab, idx, lo, hi, lx, hx, e, m, ds⟩ = R := ⟨_, rfl⟩
  rw [hR]
  unfold rtB wellB fitB kn mrg curB plB at hR
  unfold Ins.val
  simp only at hR ⊢
  have HB := Lib.hid (fun (cs : Array Value) => show Below w.heap.size w (w.alloc (.cells cs 33)) from (Below.refl _ _).alloc (Nat.le_refl _) _)
  by_cases ho1 : 1 ≤ op
  case neg =>
    have z1 : (op == 1) = false := by simp; omega
    have z2 : (op == 2) = false := by simp; omega
    have z3 : (op == 3) = false := by simp; omega
    have z4 : (op == 4) = false := by simp; omega
    have z8 : (op == 8) = false := by simp; omega
    have HF := Lib.hid (show R = false by rw [← hR]; clear hR; first | (simp; done) | (simp; omega) | (simp [*]; done) | (simp [*]; omega))
    clear hR
    go_enter Tryd.func12, Tryd.ntmps12
    go_wp2_with fail
    go_ret
    exact ⟨by rw [HF.out]; rfl, HB.out _⟩
  case pos =>
    by_cases ho2 : op ≤ 12
    case neg =>
      have z1 : (op == 1) = false := by simp; omega
      have z2 : (op == 2) = false := by simp; omega
      have z3 : (op == 3) = false := by simp; omega
      have z4 : (op == 4) = false := by simp; omega
      have z8 : (op == 8) = false := by simp; omega
      have HF := Lib.hid (show R = false by rw [← hR]; clear hR; first | (simp; done) | (simp; omega) | (simp [*]; done) | (simp [*]; omega))
      clear hR
      go_enter Tryd.func12, Tryd.ntmps12
      go_wp2_with fail
      go_ret
      exact ⟨by rw [HF.out]; rfl, HB.out _⟩
    case pos =>
      by_cases hm1 : 0 ≤ mode
      case neg =>
        have HF := Lib.hid (show R = false by rw [← hR]; clear hR; first | (simp; done) | (simp; omega) | (simp [*]; done) | (simp [*]; omega))
        clear hR
        go_enter Tryd.func12, Tryd.ntmps12
        go_wp2_with fail
        go_ret
        exact ⟨by rw [HF.out]; rfl, HB.out _⟩
      case pos =>
        by_cases hm2 : mode ≤ 6
        case neg =>
          have HF := Lib.hid (show R = false by rw [← hR]; clear hR; first | (simp; done) | (simp; omega) | (simp [*]; done) | (simp [*]; omega))
          clear hR
          go_enter Tryd.func12, Tryd.ntmps12
          go_wp2_with fail
          go_ret
          exact ⟨by rw [HF.out]; rfl, HB.out _⟩
        case pos =>
          by_cases hp1 : 0 ≤ part
          case neg =>
            have HF := Lib.hid (show R = false by rw [← hR]; clear hR; first | (simp; done) | (simp; omega) | (simp [*]; done) | (simp [*]; omega))
            clear hR
            go_enter Tryd.func12, Tryd.ntmps12
            go_wp2_with fail
            go_ret
            exact ⟨by rw [HF.out]; rfl, HB.out _⟩
          case pos =>
            by_cases hp2 : part ≤ 6
            case neg =>
              have HF := Lib.hid (show R = false by rw [← hR]; clear hR; first | (simp; done) | (simp; omega) | (simp [*]; done) | (simp [*]; omega))
              clear hR
              go_enter Tryd.func12, Tryd.ntmps12
              go_wp2_with fail
              go_ret
              exact ⟨by rw [HF.out]; rfl, HB.out _⟩
            case pos =>
              by_cases e1 : op = 1
              case pos =>
                subst e1
                by_cases hm0 : mode ≠ 0
                case neg =>
                  have hm0 : mode = 0 := by omega
                  have HF := Lib.hid (show R = false by rw [← hR]; clear hR; first | (simp; done) | (simp; omega) | (simp [*]; done) | (simp [*]; omega))
                  clear hR
                  go_enter Tryd.func12, Tryd.ntmps12
                  go_wp2_with fail
                  go_ret
                  exact ⟨by rw [HF.out]; rfl, HB.out _⟩
                case pos =>
                  have HF := Lib.hid (show R = true by rw [← hR]; clear hR; first | (simp; done) | (simp; omega) | (simp [*]; done) | (simp [*]; omega))
                  clear hR
                  go_enter Tryd.func12, Tryd.ntmps12
                  go_wp2_with fail
                  go_ret
                  exact ⟨by rw [HF.out]; rfl, HB.out _⟩
              case neg =>
                by_cases e2 : op = 2
                case pos =>
                  subst e2
                  by_cases hc1 : 0 ≤ c
                  case neg =>
                    have HF := Lib.hid (show R = false by rw [← hR]; clear hR; first | (simp; done) | (simp; omega) | (simp [*]; done) | (simp [*]; omega))
                    clear hR
                    go_enter Tryd.func12, Tryd.ntmps12
                    go_wp2_with fail
                    go_ret
                    exact ⟨by rw [HF.out]; rfl, HB.out _⟩
                  case pos =>
                    by_cases hc2 : c ≤ 3
                    case neg =>
                      have HF := Lib.hid (show R = false by rw [← hR]; clear hR; first | (simp; done) | (simp; omega) | (simp [*]; done) | (simp [*]; omega))
                      clear hR
                      go_enter Tryd.func12, Tryd.ntmps12
                      go_wp2_with fail
                      go_ret
                      exact ⟨by rw [HF.out]; rfl, HB.out _⟩
                    case pos =>
                      by_cases hi1 : -1 ≤ idx
                      case neg =>
                        have HF := Lib.hid (show R = false by rw [← hR]; clear hR; first | (simp; done) | (simp; omega) | (simp [*]; done) | (simp [*]; omega))
                        clear hR
                        go_enter Tryd.func12, Tryd.ntmps12
                        go_wp2_with fail
                        go_ret
                        exact ⟨by rw [HF.out]; rfl, HB.out _⟩
                      case pos =>
                        have hi2 : decide (idx < -1) = false := by simp; omega
                        have HF := Lib.hid (show R = true by rw [← hR]; clear hR; first | (simp; done) | (simp; omega) | (simp [*]; done) | (simp [*]; omega))
                        clear hR
                        go_enter Tryd.func12, Tryd.ntmps12
                        go_wp2_with fail
                        go_ret
                        exact ⟨by rw [HF.out]; rfl, HB.out _⟩
                case neg =>
                  by_cases e3 : op = 3
                  case pos =>
                    subst e3
                    by_cases hc1 : 0 ≤ c
                    case neg =>
                      have HF := Lib.hid (show R = false by rw [← hR]; clear hR; first | (simp; done) | (simp; omega) | (simp [*]; done) | (simp [*]; omega))
                      clear hR
                      go_enter Tryd.func12, Tryd.ntmps12
                      go_wp2_with fail
                      go_ret
                      exact ⟨by rw [HF.out]; rfl, HB.out _⟩
                    case pos =>
                      by_cases hc2 : c ≤ 3
                      case neg =>
                        have HF := Lib.hid (show R = false by rw [← hR]; clear hR; first | (simp; done) | (simp; omega) | (simp [*]; done) | (simp [*]; omega))
                        clear hR
                        go_enter Tryd.func12, Tryd.ntmps12
                        go_wp2_with fail
                        go_ret
                        exact ⟨by rw [HF.out]; rfl, HB.out _⟩
                      case pos =>
                        by_cases hj1 : 0 ≤ jt
                        case neg =>
                          have HF := Lib.hid (show R = false by rw [← hR]; clear hR; first | (simp; done) | (simp; omega) | (simp [*]; done) | (simp [*]; omega))
                          clear hR
                          go_enter Tryd.func12, Tryd.ntmps12
                          go_wp2_with fail
                          go_ret
                          exact ⟨by rw [HF.out]; rfl, HB.out _⟩
                        case pos =>
                          by_cases hj2 : jt < n
                          case neg =>
                            have HF := Lib.hid (show R = false by rw [← hR]; clear hR; first | (simp; done) | (simp; omega) | (simp [*]; done) | (simp [*]; omega))
                            clear hR
                            go_enter Tryd.func12, Tryd.ntmps12
                            go_wp2_with fail
                            go_ret
                            exact ⟨by rw [HF.out]; rfl, HB.out _⟩
                          case pos =>
                            have HF := Lib.hid (show R = true by rw [← hR]; clear hR; first | (simp; done) | (simp; omega) | (simp [*]; done) | (simp [*]; omega))
                            clear hR
                            go_enter Tryd.func12, Tryd.ntmps12
                            go_wp2_with fail
                            go_ret
                            exact ⟨by rw [HF.out]; rfl, HB.out _⟩
                  case neg =>
                    by_cases e4 : op = 4
                    case pos =>
                      subst e4
                      by_cases hc1 : 0 ≤ c
                      case neg =>
                        have HF := Lib.hid (show R = false by rw [← hR]; clear hR; first | (simp; done) | (simp; omega) | (simp [*]; done) | (simp [*]; omega))
                        clear hR
                        go_enter Tryd.func12, Tryd.ntmps12
                        go_wp2_with fail
                        go_ret
                        exact ⟨by rw [HF.out]; rfl, HB.out _⟩
                      case pos =>
                        by_cases hc2 : c ≤ 3
                        case neg =>
                          have HF := Lib.hid (show R = false by rw [← hR]; clear hR; first | (simp; done) | (simp; omega) | (simp [*]; done) | (simp [*]; omega))
                          clear hR
                          go_enter Tryd.func12, Tryd.ntmps12
                          go_wp2_with fail
                          go_ret
                          exact ⟨by rw [HF.out]; rfl, HB.out _⟩
                        case pos =>
                          by_cases hj1 : 0 ≤ jt
                          case neg =>
                            have HF := Lib.hid (show R = false by rw [← hR]; clear hR; first | (simp; done) | (simp; omega) | (simp [*]; done) | (simp [*]; omega))
                            clear hR
                            go_enter Tryd.func12, Tryd.ntmps12
                            go_wp2_with fail
                            go_ret
                            exact ⟨by rw [HF.out]; rfl, HB.out _⟩
                          case pos =>
                            by_cases hj2 : jt < n
                            case neg =>
                              have HF := Lib.hid (show R = false by rw [← hR]; clear hR; first | (simp; done) | (simp; omega) | (simp [*]; done) | (simp [*]; omega))
                              clear hR
                              go_enter Tryd.func12, Tryd.ntmps12
                              go_wp2_with fail
                              go_ret
                              exact ⟨by rw [HF.out]; rfl, HB.out _⟩
                            case pos =>
                              by_cases he1 : e.n = 1
                              case neg =>
                                have q0 : ((e.n : Int) != 1) = true := by simp; omega
                                have HF := Lib.hid (show R = false by rw [← hR]; clear hR; first | (simp; done) | (simp; omega) | (simp [*]; done) | (simp [*]; omega))
                                clear hR
                                go_enter Tryd.func12, Tryd.ntmps12
                                go_wp2_with fail
                                go_ret
                                exact ⟨by rw [HF.out]; rfl, HB.out _⟩
                              case pos =>
                                have HF := Lib.hid (show R = true by rw [← hR]; clear hR; first | (simp; done) | (simp; omega) | (simp [*]; done) | (simp [*]; omega))
                                clear hR
                                go_enter Tryd.func12, Tryd.ntmps12
                                go_wp2_with fail
                                go_ret
                                exact ⟨by rw [HF.out]; rfl, HB.out _⟩
                    case neg =>
                      by_cases e8 : op = 8
                      case pos =>
                        subst e8
                        by_cases hj1 : 0 ≤ jt
                        case neg =>
                          have HF := Lib.hid (show R = false by rw [← hR]; clear hR; first | (simp; done) | (simp; omega) | (simp [*]; done) | (simp [*]; omega))
                          clear hR
                          go_enter Tryd.func12, Tryd.ntmps12
                          go_wp2_with fail
                          go_ret
                          exact ⟨by rw [HF.out]; rfl, HB.out _⟩
                        case pos =>
                          by_cases hj2 : jt < n
                          case neg =>
                            have HF := Lib.hid (show R = false by rw [← hR]; clear hR; first | (simp; done) | (simp; omega) | (simp [*]; done) | (simp [*]; omega))
                            clear hR
                            go_enter Tryd.func12, Tryd.ntmps12
                            go_wp2_with fail
                            go_ret
                            exact ⟨by rw [HF.out]; rfl, HB.out _⟩
                          case pos =>
                            have HF := Lib.hid (show R = true by rw [← hR]; clear hR; first | (simp; done) | (simp; omega) | (simp [*]; done) | (simp [*]; omega))
                            clear hR
                            go_enter Tryd.func12, Tryd.ntmps12
                            go_wp2_with fail
                            go_ret
                            exact ⟨by rw [HF.out]; rfl, HB.out _⟩
                      case neg =>
                        have z1 : (op == 1) = false := by simpa using e1
                        have z2 : (op == 2) = false := by simpa using e2
                        have z3 : (op == 3) = false := by simpa using e3
                        have z4 : (op == 4) = false := by simpa using e4
                        have z8 : (op == 8) = false := by simpa using e8
                        have HF := Lib.hid (show R = true by rw [← hR]; clear hR; first | (simp; done) | (simp; omega) | (simp [*]; done) | (simp [*]; omega))
                        clear hR
                        go_enter Tryd.func12, Tryd.ntmps12
                        go_wp2_with fail
                        go_ret
                        exact ⟨by rw [HF.out]; rfl, HB.out _⟩

end Go.Proofs.YtgndbhgpdcelpaaDoor
