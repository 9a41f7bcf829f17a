/- Layer 10: the document's Add. -/
import Derived.Test.YteiiaocohpbanaaSetR
namespace Go.Proofs.Yteiiaocohpbanaa
set_option linter.unusedVariables false
set_option linter.unusedSimpArgs false
open Go Go.RowKit Go.Lib Go.Sort Go.Shelf

/-- what Add has built behind k of the numbers -/
def addZ (xs : List Int) (x : Int) (k : Nat) : List Int := if k ≤ xs.countP (· < x) then xs.take k else xs.take (xs.countP (· < x)) ++ x :: (xs.take k).drop (xs.countP (· < x))
theorem addZ_len (xs : List Int) (x : Int) (k : Nat) : (addZ xs x k).length ≤ xs.length + 1 := by
  unfold addZ
  split
  · rw [List.length_take]; omega
  · rw [List.length_append, List.length_cons, List.length_drop, List.length_take, List.length_take]; omega
theorem addZ_low {xs : List Int} {x : Int} {k : Nat} (h : k < xs.countP (· < x)) (hk : k < xs.length) : addZ xs x (k + 1) = addZ xs x k ++ [xs[k]] := by
  unfold addZ
  rw [if_pos (by omega), if_pos (by omega), List.take_succ_eq_append_getElem hk]
theorem addZ_at {xs : List Int} {x : Int} {k : Nat} (h : k = xs.countP (· < x)) (hk : k < xs.length) : addZ xs x (k + 1) = (addZ xs x k ++ [x]) ++ [xs[k]] := by
  unfold addZ
  rw [if_neg (by omega), if_pos (by omega), ← h, List.take_succ_eq_append_getElem hk, List.drop_append_of_le_length (by rw [List.length_take]; omega), List.drop_of_length_le (by rw [List.length_take]; omega)]
  simp
theorem addZ_high {xs : List Int} {x : Int} {k : Nat} (h : xs.countP (· < x) < k) (hk : k < xs.length) : addZ xs x (k + 1) = addZ xs x k ++ [xs[k]] := by
  unfold addZ
  rw [if_neg (by omega), if_neg (by omega), List.take_succ_eq_append_getElem hk, List.drop_append_of_le_length (by rw [List.length_take]; omega), List.append_assoc, List.cons_append]
theorem addZ_end (xs : List Int) (x : Int) (h : xs.contains x = false) : insI xs x = if xs.countP (· < x) < xs.length then addZ xs x xs.length else addZ xs x xs.length ++ [x] := by
  have hc := countP_le xs x
  unfold insI addZ
  rw [h, if_neg Bool.false_ne_true]
  by_cases e : xs.countP (· < x) < xs.length
  · rw [if_pos e, if_neg (by omega), List.take_length]
  · have e2 : xs.countP (· < x) = xs.length := by omega
    rw [if_neg e, if_pos (by omega), e2, List.take_length, List.drop_length]
theorem low_lt {xs : List Int} (h : xs.Pairwise (· < ·)) {x : Int} {k : Nat} (hk : k < xs.countP (· < x)) (hl : k < xs.length) : xs[k] < x :=
  (take_lt h x).1 _ (by rw [List.mem_take_iff_getElem]; exact ⟨k, by omega, rfl⟩)
theorem high_ge {xs : List Int} (h : xs.Pairwise (· < ·)) {x : Int} {k : Nat} (hk : xs.countP (· < x) ≤ k) (hl : k < xs.length) : x ≤ xs[k] :=
  (take_lt h x).2 _ (by rw [List.mem_drop_iff_getElem]; exact ⟨k - xs.countP (· < x), by omega, by simp [show xs.countP (· < x) + (k - xs.countP (· < x)) = k by omega]⟩)
end Go.Proofs.Yteiiaocohpbanaa
