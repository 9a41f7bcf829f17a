/- Layer 14: all, isCommand: whether a text may be a command. -/
import Derived.Test.YtmoioihclnpcbaaDoorRepA
import Derived.Test.YtmoioihclnpcbaaDoorValidB
namespace Go.Proofs.YtmoioihclnpcbaaDoor
set_option linter.unusedVariables false
set_option linter.unusedSimpArgs false
open Go Go.RowKit

/-- is a byte from one to another? -/
def betw (lo hi : Int) (b : UInt8) : Bool := decide (lo ≤ b.toNat ∧ (b.toNat : Int) ≤ hi)
set_option maxHeartbeats 1000000 in
theorem allM (s : ByteArray) (lo hi : Int) (w : World) (hs : s.size ≤ 1000000) :
    Calls Tryd.prog 20 #[.string s, .int .u8 lo, .int .u8 hi] w fun e w' => e = .returned (.bool (allI s fun _ b => betw lo hi b)) ∧ w' = w := by
  go_enter Tryd.func20, Tryd.ntmps20
  go_wp2_with fail
  go_loopw [10] (fun i wr => ∃ k : Nat, k ≤ s.size ∧ i = .int .i64 k ∧ (∀ i, i < k → ∀ (hi' : i < s.size), (fun _ b => betw lo hi b) i s[i] = true) ∧ wr = w) (fun i _ => s.size - (intOf i).toNat)
  case atStart => exact ⟨0, Nat.zero_le _, rfl, fun _ h => absurd h (Nat.not_lt_zero _), rfl⟩
  case round =>
    obtain ⟨k, hk, rfl, hq, rfl⟩ := hrel
    have Hq := Lib.hid hq
    clear hq
    by_cases hlt : k < s.size
    · by_cases hb : (s[k].toNat : Int) < lo
      · go_wp2_with fail
        go_ret
        exact ⟨ret_bool (allI_no hlt (decide_eq_false fun h => by omega)), rfl⟩
      · by_cases hb2 : hi < (s[k].toNat : Int)
        · go_wp2_with fail
          go_ret
          exact ⟨ret_bool (allI_no hlt (decide_eq_false fun h => by omega)), rfl⟩
        · go_wp2_with fail
          exact ⟨⟨k + 1, by omega, by push_cast; rfl, all_step Hq.out hlt (decide_eq_true ⟨by omega, by omega⟩), by simp⟩, by simp only [intOf]; omega⟩
    · obtain rfl : k = s.size := by omega
      go_wp2_with fail
      go_ret
      exact ⟨ret_bool (allI_yes (Nat.le_refl _) Hq.out), rfl⟩
/-- a row of capitals -/
noncomputable def capsB (s : ByteArray) : Bool := allI s fun _ b => betw 65 90 b
noncomputable def digsB (s : ByteArray) : Bool := allI s fun _ b => betw 48 57 b
/-- may a text be a command? -/
noncomputable def cmdB (s : ByteArray) : Bool := if capsB s then decide (0 < s.size) else (decide (s.size = 3) && digsB s)
set_option maxHeartbeats 4000000 in
theorem cmdM (s : ByteArray) (w : World) (hs : s.size ≤ 1000000) :
    Calls Tryd.prog 13 #[.string s] w fun e w' => e = .returned (.bool (cmdB s)) ∧ w' = w := by
  have hA := Lib.hid (allM s 65 90 w hs)
  have hD := Lib.hid (allM s 48 57 w hs)
  cases hc : capsB s
  · have e1 : (allI s fun _ b => betw 65 90 b) = false := hc
    rw [e1] at hA
    by_cases h3 : s.size = 3
    · have h3' : (s.size : Int) = 3 := by omega
      have HD : Hid (cmdB s = digsB s) := by show cmdB s = digsB s; unfold cmdB; rw [hc, decide_eq_true h3]; simp
      clear hc e1
      go_enter Tryd.func13, Tryd.ntmps13
      go_wp2_with (first | (go_at_call 20; refine hA.out.mono ?_; rintro e w' ⟨rfl, rfl⟩; clear hA) | (go_at_call 20; refine hD.out.mono ?_; rintro e w' ⟨rfl, rfl⟩))
      go_ret
      exact ⟨ret_bool HD.out.symm, rfl⟩
    · have h3' : ¬ (s.size : Int) = 3 := by omega
      have HD : Hid (cmdB s = false) := by show cmdB s = false; unfold cmdB; rw [hc, decide_eq_false h3]; simp
      clear hc e1
      go_enter Tryd.func13, Tryd.ntmps13
      go_wp2_with (go_at_call 20; refine hA.out.mono ?_; rintro e w' ⟨rfl, rfl⟩)
      go_ret
      exact ⟨ret_bool HD.out.symm, rfl⟩
  · have e1 : (allI s fun _ b => betw 65 90 b) = true := hc
    rw [e1] at hA
    by_cases h0 : 0 < s.size
    · have hemp := str_ne h0
      have HD : Hid (cmdB s = true) := by show cmdB s = true; unfold cmdB; rw [hc, if_pos rfl, decide_eq_true h0]
      clear hc e1
      go_enter Tryd.func13, Tryd.ntmps13
      go_wp2_with (go_at_call 20; refine hA.out.mono ?_; rintro e w' ⟨rfl, rfl⟩)
      go_ret
      exact ⟨ret_bool HD.out.symm, rfl⟩
    · have h0' : s.size = 0 := by omega
      obtain rfl : s = ByteArray.empty := ByteArray.size_eq_zero_iff.1 h0'
      have HD : Hid (cmdB ByteArray.empty = false) := by show cmdB _ = false; unfold cmdB; rw [hc]; rfl
      clear hc e1
      go_enter Tryd.func13, Tryd.ntmps13
      go_wp2_with (go_at_call 20; refine hA.out.mono ?_; rintro e w' ⟨rfl, rfl⟩)
      go_ret
      exact ⟨ret_bool HD.out.symm, rfl⟩
end Go.Proofs.YtmoioihclnpcbaaDoor
