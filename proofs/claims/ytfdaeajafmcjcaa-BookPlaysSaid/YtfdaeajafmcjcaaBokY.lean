/- Layer 2: BookPlays. -/
import Derived.Test.YtfdaeajafmcjcaaBokW
namespace Go.Proofs.Ytfdaeajafmcjcaa
set_option linter.unusedVariables false
set_option linter.unusedSimpArgs false
open Go Go.RowKit Go.Maps Go.Sort Go.Shelf Go.Lib

set_option maxRecDepth 100000 in
set_option maxHeartbeats 8000000 in
theorem bookPlays_walk (most : Int) (A : Option Addr) (l : List zbkT) (cc : Nat) (name : ByteArray) (w : World) (hA : ActB w A l) :
    Calls Try.prog 3 #[.int .i64 most, .slice A l.length cc, .string name] w fun e w' => e = .returned (.bool true) ∧ RowKit.Below w.heap.size w w' := by
  have HA := Lib.hid hA
  clear hA
  cases hg : greatB l with
  | true =>
    have HG := Lib.hid hg
    clear hg
    go_enter Try.func3, Try.ntmps3
    go_wp2_with fail
    refine (awake02 w).mono ?_
    rintro e w1 ⟨rfl, b1⟩
    have B1 := Lib.hid b1
    clear b1
    go_wp2_with fail
    refine (great02 HA.out w1 B1.out).mono ?_
    rintro e w2 ⟨rfl, rfl⟩
    rw [HG.out]
    go_wp2_with fail
    go_ret
    exact ⟨rfl, B1.out⟩
  | false =>
    by_cases hn : name.size ≤ 30
    · by_cases hm : 0 ≤ most ∧ most ≤ 100000
      · exact bookPlays_main most hm A l cc name hn w hg HA.out
      · have HG := Lib.hid hg
        have q1 : decide ((30 : Int) < (name.size : Int)) = false := by simp; omega
        by_cases h0 : most < 0
        · have q2 : decide (most < 0) = true := by simp; omega
          have HM := Lib.hid (show most < 0 ∨ 100000 < most by omega)
          clear hg hn hm h0
          go_enter Try.func3, Try.ntmps3
          go_wp2_with fail
          refine (awake02 w).mono ?_
          rintro e w1 ⟨rfl, b1⟩
          have B1 := Lib.hid b1
          clear b1
          go_wp2_with fail
          refine (great02 HA.out w1 B1.out).mono ?_
          rintro e w2 ⟨rfl, rfl⟩
          rw [HG.out]
          go_wp2_with fail
          refine (bok_new_out HM.out _).mono ?_
          rintro e w3 ⟨rfl, rfl⟩
          go_wp2_with fail
          go_ret
          exact ⟨rfl, B1.out⟩
        · have q2 : decide (most < 0) = false := by simp; omega
          have q3 : decide (100000 < most) = true := by simp; omega
          have HM := Lib.hid (show most < 0 ∨ 100000 < most by omega)
          clear hg hn hm h0
          go_enter Try.func3, Try.ntmps3
          go_wp2_with fail
          refine (awake02 w).mono ?_
          rintro e w1 ⟨rfl, b1⟩
          have B1 := Lib.hid b1
          clear b1
          go_wp2_with fail
          refine (great02 HA.out w1 B1.out).mono ?_
          rintro e w2 ⟨rfl, rfl⟩
          rw [HG.out]
          go_wp2_with fail
          refine (bok_new_out HM.out _).mono ?_
          rintro e w3 ⟨rfl, rfl⟩
          go_wp2_with fail
          go_ret
          exact ⟨rfl, B1.out⟩
    · have HG := Lib.hid hg
      have q1 : decide ((30 : Int) < (name.size : Int)) = true := by simp; omega
      clear hg hn
      go_enter Try.func3, Try.ntmps3
      go_wp2_with fail
      refine (awake02 w).mono ?_
      rintro e w1 ⟨rfl, b1⟩
      have B1 := Lib.hid b1
      clear b1
      go_wp2_with fail
      refine (great02 HA.out w1 B1.out).mono ?_
      rintro e w2 ⟨rfl, rfl⟩
      rw [HG.out]
      go_wp2_with fail
      go_ret
      exact ⟨rfl, B1.out⟩
end Go.Proofs.Ytfdaeajafmcjcaa
