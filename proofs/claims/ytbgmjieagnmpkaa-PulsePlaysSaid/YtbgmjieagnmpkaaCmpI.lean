/- cmp.Compare at int and at string; cmp.Or at two numbers. -/
import Derived.Test.YtbgmjieagnmpkaaBase
import Derived.Test.YtbgmjieagnmpkaaChecked
import Derived.Sort.Walk0
import Derived.Laws.Cover1
import Derived.LoopTactic
import Derived.Outline
namespace Go.Proofs.Ytbgmjieagnmpkaa
set_option linter.unusedVariables false
set_option linter.unusedSimpArgs false
open Go Go.RowKit

def cmpI (a b : Int) : Int := if a < b then -1 else if b < a then 1 else 0
def cmpS (a b : List UInt8) : Int := if a < b then -1 else if b < a then 1 else 0
theorem nan_int (a : Int) (w : World) : Calls Try.prog 71 #[.int .i64 a] w fun e w' => e = .returned (.bool false) ∧ w' = w := by
  go_enter Try.func71, Try.ntmps71
  go_wp2_with fail
  go_ret
  exact ⟨ret_bool (by simp), rfl⟩
theorem nan_str (a : ByteArray) (w : World) : Calls Try.prog 72 #[.string a] w fun e w' => e = .returned (.bool false) ∧ w' = w := by
  go_enter Try.func72, Try.ntmps72
  go_wp2_with fail
  go_ret
  exact ⟨ret_bool (by simp), rfl⟩
theorem cmp_int (a b : Int) (w : World) : Calls Try.prog 61 #[.int .i64 a, .int .i64 b] w fun e w' => e = .returned (.int .i64 (cmpI a b)) ∧ w' = w := by
  unfold cmpI
  rcases Int.lt_trichotomy a b with h | h | h
  · rw [if_pos h]
    go_enter Try.func61, Try.ntmps61
    go_wp2_with (go_at_call 71; refine (nan_int _ _).mono ?_; rintro e w' ⟨rfl, rfl⟩)
    go_ret
    exact ⟨rfl, rfl⟩
  · subst h
    rw [if_neg (by omega), if_neg (by omega)]
    go_enter Try.func61, Try.ntmps61
    go_wp2_with (go_at_call 71; refine (nan_int _ _).mono ?_; rintro e w' ⟨rfl, rfl⟩)
    go_ret
    exact ⟨rfl, rfl⟩
  · rw [if_neg (by omega), if_pos h]
    have h2 : ¬ a < b := by omega
    go_enter Try.func61, Try.ntmps61
    go_wp2_with (go_at_call 71; refine (nan_int _ _).mono ?_; rintro e w' ⟨rfl, rfl⟩)
    go_ret
    exact ⟨rfl, rfl⟩
theorem cmp_str (a b : List UInt8) (w : World) : Calls Try.prog 62 #[.string (bs a), .string (bs b)] w fun e w' => e = .returned (.int .i64 (cmpS a b)) ∧ w' = w := by
  have l1 : ∀ x y : List UInt8, Op.bytesLess (bs x).toList (bs y).toList = decide (x < y) := fun x y => by rw [ByteArray.toList_eq, ByteArray.toList_eq]; exact bytesLess_eq x y
  have l2 := beq_bs a b
  have l1a := l1 a b
  clear l1
  by_cases h : a < b
  · have e1 : cmpS a b = -1 := by unfold cmpS; rw [if_pos h]
    rw [decide_eq_true h] at l1a
    rw [e1]
    clear l2 h e1
    go_enter Try.func62, Try.ntmps62
    go_wp2_with (go_at_call 72; refine (nan_str _ _).mono ?_; rintro e w' ⟨rfl, rfl⟩)
    go_ret
    exact ⟨rfl, rfl⟩
  · rw [decide_eq_false h] at l1a
    by_cases h2 : a = b
    · have e1 : cmpS a b = 0 := by unfold cmpS; rw [if_neg h, if_neg (by rw [← h2] at h ⊢; exact h)]
      have e2 : ((bs a).toList == (bs b).toList) = true := by rw [l2, h2]; simp
      rw [e1]
      clear l2 h e1 h2
      go_enter Try.func62, Try.ntmps62
      go_wp2_with (go_at_call 72; refine (nan_str _ _).mono ?_; rintro e w' ⟨rfl, rfl⟩)
      go_ret
      exact ⟨rfl, rfl⟩
    · have h3 : b < a := by
        by_cases h3 : b < a
        · exact h3
        · exact absurd (List.le_antisymm (List.not_lt.1 h3) (List.not_lt.1 h)) h2
      have e1 : cmpS a b = 1 := by unfold cmpS; rw [if_neg h, if_pos h3]
      have e2 : ((bs a).toList == (bs b).toList) = false := by rw [l2]; simpa using h2
      rw [e1]
      clear l2 h e1 h2 h3
      go_enter Try.func62, Try.ntmps62
      go_wp2_with (go_at_call 72; refine (nan_str _ _).mono ?_; rintro e w' ⟨rfl, rfl⟩)
      go_ret
      exact ⟨rfl, rfl⟩
def orI (a b : Int) : Int := if a = 0 then b else a
set_option maxHeartbeats 1000000 in
theorem or_two (a b : Int) (g c : Nat) (w : World) (h0 : w.cell? ⟨g, 0, none⟩ = some (.int .i64 a)) (h1 : w.cell? ⟨g, 1, none⟩ = some (.int .i64 b)) :
    Calls Try.prog 60 #[.slice (some ⟨g, 0, none⟩) 2 c] w fun e w' => e = .returned (.int .i64 (orI a b)) ∧ w' = w := by
  go_enter Try.func60, Try.ntmps60
  go_wp2_with fail
  go_loop [8, 5] (fun i _ => ∃ k : Nat, i = .int .i64 k ∧ k ≤ 2 ∧ (1 ≤ k → a = 0) ∧ (2 ≤ k → b = 0)) (fun i _ => 2 - (intOf i).toNat)
  case atStart => exact ⟨0, rfl, by omega, by omega, by omega⟩
  case round =>
    obtain ⟨k, rfl, hk, ha, hb⟩ := hrel
    rcases k with _ | _ | _ | k
    · clear ha hb
      by_cases h : a = 0
      · subst h
        have hn : ((0 : Int) != 0) = false := rfl
        go_wp2_with fail
        go_round
        case rel => exact ⟨1, by go_num, by omega, by first | trivial | simp, by first | trivial | omega⟩
        case measure => simp [intOf]
      · have hn : (a != 0) = true := by simpa using h
        go_wp2_with fail
        go_ret
        exact ⟨ret_int (by unfold orI; rw [if_neg h]), rfl⟩
    · obtain rfl := ha (by omega)
      clear ha hb
      by_cases h : b = 0
      · subst h
        have hn : ((0 : Int) != 0) = false := rfl
        go_wp2_with fail
        go_round
        case rel => exact ⟨2, by go_num, by omega, by first | trivial | simp, by first | trivial | simp⟩
        case measure => simp [intOf]
      · have hn : (b != 0) = true := by simpa using h
        go_wp2_with fail
        go_ret
        exact ⟨ret_int (by unfold orI; rw [if_pos rfl]), rfl⟩
    · obtain rfl := ha (by omega)
      obtain rfl := hb (by omega)
      clear ha hb
      go_wp2_with fail
      go_ret
      exact ⟨rfl, rfl⟩
    · omega
end Go.Proofs.Ytbgmjieagnmpkaa
