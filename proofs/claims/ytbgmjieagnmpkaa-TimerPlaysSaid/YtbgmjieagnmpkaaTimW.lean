/- Layer 9: TimerPlays. -/
import Derived.Test.YtbgmjieagnmpkaaTimV
namespace Go.Proofs.Ytbgmjieagnmpkaa
set_option linter.unusedVariables false
set_option linter.unusedSimpArgs false
open Go Go.RowKit Go.Maps Go.Sort Go.Shelf Go.Lib

set_option maxRecDepth 100000 in
set_option maxHeartbeats 8000000 in
theorem timerPlays_walk (A : Option Addr) (l : List zacT) (cc : Nat) (now : Int) (w : World) (hA : ActQ w A l) :
    Calls Try.prog 3 #[.slice A l.length cc, .int .i64 now] w fun e w' => e = .returned (.bool true) ∧ RowKit.Below w.heap.size w w' := by
  cases hg : greatT l with
  | false => exact timerPlays_main A l cc now w hg hA
  | true =>
    have HA := Lib.hid hA
    have HG := Lib.hid hg
    clear hA hg
    go_enter Try.func3, Try.ntmps3
    go_wp2_with fail
    refine (awake9 w).mono ?_
    rintro e w1 ⟨rfl, b1⟩
    have B1 := Lib.hid b1
    clear b1
    go_wp2_with fail
    refine (great9 HA.out w1 B1.out).mono ?_
    rintro e w2 ⟨rfl, rfl⟩
    rw [HG.out]
    go_wp2_with fail
    go_ret
    exact ⟨rfl, B1.out⟩
end Go.Proofs.Ytbgmjieagnmpkaa
