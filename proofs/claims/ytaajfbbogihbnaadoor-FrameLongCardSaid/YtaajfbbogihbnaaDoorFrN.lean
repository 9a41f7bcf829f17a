/- Layer 5: FrameLong. -/
import Derived.Test.YtaajfbbogihbnaaDoorFrJ
namespace Go.Proofs.YtaajfbbogihbnaaDoor
set_option linter.unusedVariables false
set_option linter.unusedSimpArgs false
open Go Go.RowKit Go.Lib

theorem own8_set {base : Nat} {W : World} {g n c : Nat} {xs : List UInt8} (h : Own8 base W (.slice (some ⟨g, 0, none⟩) n c) xs) (i : Nat) (hi : i < xs.length) (b : UInt8) : Own8 base (W.setCell ⟨g, i, none⟩ (enc8 b)) (.slice (some ⟨g, 0, none⟩) n c) (xs.set i b) := by
  rcases h.2 with ⟨e, h0⟩ | ⟨g', cap, cur, e, hb, hg, hn, hm, hcs, ht⟩
  · cases e
  · cases e
    refine ⟨by simp, .inr ⟨g, c, cur.setIfInBounds i (enc8 b), by rw [List.length_set], hb, blk_set hg i _, by rw [List.length_set]; exact hn, hm, by simpa using hcs, ?_⟩⟩
    rw [Nat.mul_one] at ht ⊢
    rw [List.length_set, Array.toList_setIfInBounds, List.take_set, ht, List.map_set]
theorem own8_cell {base : Nat} {W : World} {g n c : Nat} {xs : List UInt8} (h : Own8 base W (.slice (some ⟨g, 0, none⟩) n c) xs) {j : Nat} (hj : j < xs.length) : W.cell? ⟨g, j, none⟩ = some (enc8 xs[j]) := by
  have := h.cells (g := g) rfl j (enc8 xs[j]) (by simp [hj])
  rwa [add8, Nat.zero_add] at this
theorem own8_free {base : Nat} {W : World} {g n c : Nat} {xs : List UInt8} (h : Own8 base W (.slice (some ⟨g, 0, none⟩) n c) xs) (j : Nat) : W.frozen? ⟨g, j, none⟩ = false := by
  rcases h.2 with ⟨e, h0⟩ | ⟨g', cap, cur, e, hb, hg, hn, hm, hcs, ht⟩
  · cases e
  · cases e; exact blk_free hg j
theorem own8_made {base : Nat} {w : World} {k : Nat} (hk : k ≤ maxLen) (hb : base ≤ w.heap.size) : Own8 base (w.alloc (.cells (Array.replicate k (.int .u8 0)) 5)) (.slice (some ⟨w.heap.size, 0, none⟩) k k) (List.replicate k 0) := by
  refine ⟨by simp, .inr ⟨w.heap.size, k, _, by simp, hb, World.alloc_heap_new w _, by simp, hk, by simp, ?_⟩⟩
  simp [enc8]
/-- the bytes so far -/
def xsAt (i k : Nat) : List UInt8 := List.replicate i 120 ++ List.replicate (k - i) 0
theorem xsAt_set {i k : Nat} (h : i < k) : (xsAt i k).set i 120 = xsAt (i + 1) k := by
  unfold xsAt
  rw [List.set_append_right _ _ (by simp)]
  simp only [List.length_replicate, Nat.sub_self]
  obtain ⟨m, hm⟩ : ∃ m, k - i = m + 1 := ⟨k - i - 1, by omega⟩
  rw [hm, List.replicate_succ, List.set_cons_zero, show k - (i + 1) = m by omega]
  rw [show i + 1 = i + 1 from rfl, List.replicate_succ', List.append_assoc]
  rfl
theorem xsAt_len {i k : Nat} (h : i ≤ k) : (xsAt i k).length = k := by unfold xsAt; simp; omega
def nextB : List UInt8 := [13, 10, 110, 101, 120, 116, 10]
def firstLn (k : Nat) : FSt := if 510 < k then ([], true) else (List.replicate k 120, false)
theorem long_feed (k : Nat) (h : 0 < k) : feedM ([], false) (List.replicate k 120 ++ nextB) = ([firstLn k, ([110, 101, 120, 116], false)], ([], false)) := by
  have hno : ∀ b ∈ List.replicate k (120 : UInt8), ¬ isEnd b := fun b hb => by
    rw [List.eq_of_mem_replicate hb]; decide
  have h2 : feedM ([], false) [10, 110, 101, 120, 116, 10] = ([([110, 101, 120, 116], false)], ([], false)) := by decide
  unfold nextB
  rw [feedM_cut _ _ _ _ good_new hno (by decide), h2]
  have h3 : keepM ([], false) (List.replicate k 120) = firstLn k := by
    unfold keepM firstLn
    simp only [List.length_nil, List.length_replicate, Nat.sub_zero, Bool.false_eq_true, false_or, List.nil_append]
  rw [h3]
  have h4 : outM (firstLn k) = [firstLn k] := by
    unfold outM
    rw [if_neg]
    unfold firstLn
    split
    · simp
    · intro e
      have := congrArg (fun x : FSt => x.1.length) e
      simp at this; omega
  rw [h4]
  rfl
end Go.Proofs.YtaajfbbogihbnaaDoor
