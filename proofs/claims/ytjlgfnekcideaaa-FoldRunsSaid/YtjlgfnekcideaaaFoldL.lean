/- Layer 1: that folded texts stand in one row (numbers and lists alone). -/
import Derived.Test.YtjlgfnekcideaaaFoldI
namespace Go.Proofs.Ytjlgfnekcideaaa
open Go.RowKit

theorem cmpL_anti : ∀ (x y : List UInt8), cmpL y x = -cmpL x y
  | [], [] => rfl
  | [], _ :: _ => rfl
  | _ :: _, [] => rfl
  | a :: x, b :: y => by
    simp only [cmpL]
    by_cases h1 : a.toNat < b.toNat
    · rw [if_pos h1, if_neg (by omega), if_pos h1]; rfl
    · by_cases h2 : b.toNat < a.toNat
      · rw [if_pos h2, if_neg h1, if_pos h2]
      · rw [if_neg h2, if_neg h1, if_neg h1, if_neg h2, cmpL_anti x y]
theorem cmpF_anti (x y : List UInt8) : cmpF y x = -cmpF x y := cmpL_anti _ _
theorem cmpL_trans : ∀ (x y z : List UInt8), cmpL x y ≤ 0 → cmpL y z ≤ 0 → cmpL x z ≤ 0
  | [], _, [] => by simp [cmpL]
  | [], _, _ :: _ => by simp [cmpL]
  | _ :: _, [], _ => by intro h; simp [cmpL] at h
  | _ :: _, _ :: _, [] => by intro _ h; simp [cmpL] at h
  | a :: x, b :: y, c :: z => by
    simp only [cmpL]
    intro h1 h2
    by_cases e1 : a.toNat < b.toNat
    · by_cases e2 : b.toNat < c.toNat
      · rw [if_pos (by omega)]; omega
      · rw [if_neg e2] at h2
        by_cases e3 : c.toNat < b.toNat
        · rw [if_pos e3] at h2; omega
        · rw [if_pos (by omega)]; omega
    · rw [if_neg e1] at h1
      by_cases e2 : b.toNat < a.toNat
      · rw [if_pos e2] at h1; omega
      · rw [if_neg e2] at h1
        by_cases e3 : b.toNat < c.toNat
        · rw [if_pos (by omega)]; omega
        · rw [if_neg e3] at h2
          by_cases e4 : c.toNat < b.toNat
          · rw [if_pos e4] at h2; omega
          · rw [if_neg e4] at h2
            rw [if_neg (by omega), if_neg (by omega)]
            exact cmpL_trans x y z h1 h2
theorem cmpF_trans {x y z : List UInt8} : cmpF x y ≤ 0 → cmpF y z ≤ 0 → cmpF x z ≤ 0 := cmpL_trans _ _ _
theorem cmpL_app : ∀ (c x y : List UInt8), cmpL (c ++ x) (c ++ y) = cmpL x y
  | [], _, _ => rfl
  | b :: c, x, y => by
    simp only [List.cons_append, cmpL]
    rw [if_neg (by omega), if_neg (by omega)]
    exact cmpL_app c x y
theorem cmpF_app (c x y : List UInt8) : cmpF (c ++ x) (c ++ y) = cmpF x y := by
  unfold cmpF; rw [foldL_append, foldL_append]; exact cmpL_app _ _ _
theorem cmpF_zero_len {x y : List UInt8} (h : cmpF x y = 0) : x.length = y.length := by
  have := congrArg List.length (cmpL_zero.1 h)
  simpa using this
theorem sameF_take (a b : List UInt8) : sameF ((a ++ b).take a.length) a = true := by
  rw [List.take_left]; exact sameF_iff.2 rfl
theorem sameF_refl (a : List UInt8) : sameF a a = true := sameF_iff.2 rfl
theorem sameF_halves {a b c d : List UInt8} (h : a.length = c.length) : sameF (a ++ b) (c ++ d) = (sameF a c && sameF b d) := by
  rw [Bool.eq_iff_iff, Bool.and_eq_true, sameF_iff, sameF_iff, sameF_iff, foldL_append, foldL_append]
  constructor
  · intro e
    exact List.append_inj e (by simp [h])
  · rintro ⟨e1, e2⟩
    rw [e1, e2]
theorem cmpF_bd (x y : List UInt8) : -1 ≤ cmpF x y ∧ cmpF x y ≤ 1 := by
  rcases cmpL_three (foldL x) (foldL y) with h | h | h <;> (unfold cmpF; omega)
end Go.Proofs.Ytjlgfnekcideaaa
