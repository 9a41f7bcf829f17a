/- Layer 14: Who; the law ReplyWho. -/
import Derived.Test.YtmoioihclnpcbaaDoorRepG
namespace Go.Proofs.YtmoioihclnpcbaaDoor
set_option linter.unusedVariables false
set_option linter.unusedSimpArgs false
open Go Go.RowKit

def whoB (a b c : ByteArray) : ByteArray := (((a ++ ⟨#[33]⟩) ++ b) ++ ⟨#[64]⟩) ++ c
set_option maxRecDepth 100000 in
set_option maxHeartbeats 4000000 in
theorem whoM (a b c : ByteArray) (w : World) (h1 : a.size ≤ 100) (h2 : b.size ≤ 100) (h3 : c.size ≤ 100) :
    Calls Tryd.prog 6 #[.string a, .string b, .string c] w fun e w' => e = .returned (.string (whoB a b c)) ∧ w' = w := by
  have g1 : ¬ 9223372036854775807 < a.size + 1 := by omega
  have g2 : ¬ 9223372036854775807 < a.size + 1 + b.size := by omega
  have g3 : ¬ 9223372036854775807 < a.size + 1 + b.size + 1 := by omega
  have g4 : ¬ 9223372036854775807 < a.size + 1 + b.size + 1 + c.size := by omega
  go_enter Tryd.func6, Tryd.ntmps6
  go_wp2_with fail
  go_ret
  exact ⟨rfl, rfl⟩
set_option maxRecDepth 100000 in
set_option maxHeartbeats 4000000 in
theorem replyWho_walk (a b c : ByteArray) (w : World) (hm : Mx w) (hp : PowW w) :
    Calls Tryd.prog 3 #[.string a, .string b, .string c] w fun e w' => e = .returned (.bool true) ∧ Below w.heap.size w w' := by
  have HA := Lib.hid (awake14 w hm hp)
  clear hm hp
  by_cases h1 : a.size ≤ 100
  · by_cases h2 : b.size ≤ 100
    · by_cases h3 : c.size ≤ 100
      · have HW := Lib.hid (fun W => whoM a b c W h1 h2 h3)
        have g1 : ¬ 9223372036854775807 < a.size + 1 := by omega
        have g2 : ¬ 9223372036854775807 < a.size + 1 + b.size := by omega
        have g3 : ¬ 9223372036854775807 < a.size + 1 + b.size + 1 := by omega
        have g4 : ¬ 9223372036854775807 < a.size + 1 + b.size + 1 + c.size := by omega
        have q1 : ¬ (100 : Int) < a.size := by omega
        have q2 : ¬ (100 : Int) < b.size := by omega
        have q3 : ¬ (100 : Int) < c.size := by omega
        go_enter Tryd.func3, Tryd.ntmps3
        go_wp2_with fail
        refine HA.out.mono ?_
        rintro e w1 ⟨rfl, hb⟩
        have HB := Lib.hid hb
        clear hb
        go_wp2_with fail
        refine (HW.out w1).mono ?_
        rintro e w2 ⟨rfl, rfl⟩
        go_wp2_with fail
        go_ret
        refine ⟨ret_bool ?_, HB.out⟩
        show ((whoB a b c).toList == (whoB a b c).toList) = true
        exact beq_self_eq_true _
      · have q1 : ¬ (100 : Int) < a.size := by omega
        have q2 : ¬ (100 : Int) < b.size := by omega
        have q3 : (100 : Int) < c.size := by omega
        clear h1 h2 h3
        go_enter Tryd.func3, Tryd.ntmps3
        go_wp2_with fail
        refine HA.out.mono ?_
        rintro e w1 ⟨rfl, hb⟩
        have HB := Lib.hid hb
        clear hb
        go_wp2_with fail
        go_ret
        exact ⟨rfl, HB.out⟩
    · have q1 : ¬ (100 : Int) < a.size := by omega
      have q2 : (100 : Int) < b.size := by omega
      clear h1 h2
      go_enter Tryd.func3, Tryd.ntmps3
      go_wp2_with fail
      refine HA.out.mono ?_
      rintro e w1 ⟨rfl, hb⟩
      have HB := Lib.hid hb
      clear hb
      go_wp2_with fail
      go_ret
      exact ⟨rfl, HB.out⟩
  · have q1 : (100 : Int) < a.size := by omega
    clear h1
    go_enter Tryd.func3, Tryd.ntmps3
    go_wp2_with fail
    refine HA.out.mono ?_
    rintro e w1 ⟨rfl, hb⟩
    have HB := Lib.hid hb
    clear hb
    go_wp2_with fail
    go_ret
    exact ⟨rfl, HB.out⟩
end Go.Proofs.YtmoioihclnpcbaaDoor
