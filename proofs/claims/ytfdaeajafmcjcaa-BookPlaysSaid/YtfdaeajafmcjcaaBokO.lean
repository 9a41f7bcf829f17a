/- Layer 2: cmp.Compare at string; the order of folded names. -/
import Derived.Test.YtfdaeajafmcjcaaBokK
import Derived.Sort.Walk0
import Derived.Laws.Cover1
import Derived.LoopTactic
import Derived.Outline
import Derived.Shelf.SlSortCmp.WholeK
import Derived.Sort.LotA
namespace Go.Proofs.Ytfdaeajafmcjcaa
set_option linter.unusedVariables false
set_option linter.unusedSimpArgs false
open Go Go.RowKit Go.Maps Go.Sort Go.Shelf

def cmpS (a b : List UInt8) : Int := if a < b then -1 else if b < a then 1 else 0
theorem nan_str (a : ByteArray) (w : World) : Calls Try.prog 60 #[.string a] w fun e w' => e = .returned (.bool false) ∧ w' = w := by
  go_enter Try.func60, Try.ntmps60
  go_wp2_with fail
  go_ret
  exact ⟨ret_bool (by simp), rfl⟩
theorem cmp_str (a b : List UInt8) (w : World) : Calls Try.prog 49 #[.string (bs a), .string (bs b)] w fun e w' => e = .returned (.int .i64 (cmpS a b)) ∧ w' = w := by
  have l1 : ∀ x y : List UInt8, Op.bytesLess (bs x).toList (bs y).toList = decide (x < y) := fun x y => by rw [ByteArray.toList_eq, ByteArray.toList_eq]; exact bytesLess_eq x y
  have l2 := beq_bs a b
  have l1a := l1 a b
  clear l1
  by_cases h : a < b
  · have e1 : cmpS a b = -1 := by unfold cmpS; rw [if_pos h]
    rw [decide_eq_true h] at l1a
    rw [e1]
    clear l2 h e1
    go_enter Try.func49, Try.ntmps49
    go_wp2_with (go_at_call 60; refine (nan_str _ _).mono ?_; rintro e w' ⟨rfl, rfl⟩)
    go_ret
    exact ⟨rfl, rfl⟩
  · rw [decide_eq_false h] at l1a
    by_cases h2 : a = b
    · have e1 : cmpS a b = 0 := by unfold cmpS; rw [if_neg h, if_neg (by rw [← h2] at h ⊢; exact h)]
      have e2 : ((bs a).toList == (bs b).toList) = true := by rw [l2, h2]; simp
      rw [e1]
      clear l2 h e1 h2
      go_enter Try.func49, Try.ntmps49
      go_wp2_with (go_at_call 60; refine (nan_str _ _).mono ?_; rintro e w' ⟨rfl, rfl⟩)
      go_ret
      exact ⟨rfl, rfl⟩
    · have h3 : b < a := by
        by_cases h3 : b < a
        · exact h3
        · exact absurd (List.le_antisymm (List.not_lt.1 h3) (List.not_lt.1 h)) h2
      have e1 : cmpS a b = 1 := by unfold cmpS; rw [if_neg h, if_pos h3]
      have e2 : ((bs a).toList == (bs b).toList) = false := by rw [l2]; simpa using h2
      rw [e1]
      clear l2 h e1 h2 h3
      go_enter Try.func49, Try.ntmps49
      go_wp2_with (go_at_call 60; refine (nan_str _ _).mono ?_; rintro e w' ⟨rfl, rfl⟩)
      go_ret
      exact ⟨rfl, rfl⟩
theorem kirrO (a : KeyB) : ¬ a < a := List.lt_irrefl a
theorem ktrO {a b c : KeyB} (h : a < b) (k : b < c) : a < c := List.lt_trans h k
theorem ktriO (a b : KeyB) : a < b ∨ a = b ∨ b < a := by
  by_cases h : a < b
  · exact .inl h
  · by_cases h2 : b < a
    · exact .inr (.inr h2)
    · exact .inr (.inl (List.le_antisymm (List.not_lt.1 h2) (List.not_lt.1 h)))
theorem cmpO_neg (a b : KeyB) : cmpS a b < 0 ↔ a < b := by
  unfold cmpS
  by_cases h : a < b
  · simp [h]
  · by_cases h2 : b < a <;> simp [h, h2]
theorem ltO (x y : KeyB) : ltOf cmpS x y = decide (x < y) := by
  unfold ltOf
  rw [decide_eq_decide]
  exact cmpO_neg x y
theorem swoO : SWO (ltOf cmpS) where
  irrefl x := by rw [ltO]; simp
  trans x y z h k := by rw [ltO] at *; simp only [decide_eq_true_eq] at *; exact ktrO h k
  ntrans x y z h k := by
    rw [ltO] at *
    simp only [decide_eq_false_iff_not] at *
    intro hz
    rcases ktriO x y with e | rfl | e
    · exact h e
    · exact k hz
    · exact k (ktrO e hz)
theorem totO (x y : KeyB) (h : ltOf cmpS x y = false) (k : ltOf cmpS y x = false) : x = y := by
  rw [ltO] at *
  simp only [decide_eq_false_iff_not] at *
  rcases ktriO x y with e | e | e
  · exact absurd e h
  · exact e
  · exact absurd e k
def sortO (l : List KeyB) : List KeyB := l.mergeSort fun x y => !ltOf cmpS y x
theorem sortO_perm (l : List KeyB) : (sortO l).Perm l := List.mergeSort_perm _ _
theorem sortO_rise {l : List KeyB} (hn : l.Nodup) : (sortO l).Pairwise fun x y => x < y := by
  have h1 : (sortO l).Pairwise fun x y => ¬ y < x := by
    refine (List.pairwise_mergeSort (le := fun x y => !ltOf cmpS y x) ?_ ?_ l).imp ?_
    · intro a b c h k
      simp only [Bool.not_eq_true'] at *
      exact swoO.ntrans _ _ _ k h
    · intro a b
      rw [ltO, ltO]
      by_cases h : b < a
      · have : ¬ a < b := fun k => kirrO _ (ktrO h k)
        simp [h, this]
      · simp [h]
    · intro a b h
      rw [ltO] at h
      simpa using h
  have h2 : (sortO l).Nodup := (sortO_perm l).nodup_iff.2 hn
  exact (h1.and h2).imp fun {a b} ⟨p, q⟩ => by
    rcases ktriO a b with e | e | e
    · exact e
    · exact absurd e q
    · exact absurd e p
end Go.Proofs.Ytfdaeajafmcjcaa
