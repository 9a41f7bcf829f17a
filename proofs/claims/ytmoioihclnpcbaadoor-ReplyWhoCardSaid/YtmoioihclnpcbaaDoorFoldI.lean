/- The document's Same and Compare of layer 1. -/
import Derived.Test.YtmoioihclnpcbaaDoorFoldH
namespace Go.Proofs.YtmoioihclnpcbaaDoor
open Go.RowKit



theorem less_cmpL : ∀ (x y : List UInt8), Op.bytesLess x y = true ↔ cmpL x y = -1
  | [], [] => by simp [Op.bytesLess, cmpL]
  | [], _ :: _ => by simp [Op.bytesLess, cmpL]
  | _ :: _, [] => by simp [Op.bytesLess, cmpL]
  | a :: x, b :: y => by
    simp only [Op.bytesLess, cmpL, Bool.or_eq_true, decide_eq_true_eq, Bool.and_eq_true, beq_iff_eq, UInt8.lt_iff_toNat_lt]
    by_cases h1 : a.toNat < b.toNat
    · simp [h1]
    · rw [if_neg h1]
      by_cases h2 : b.toNat < a.toNat
      · rw [if_pos h2]
        constructor
        · rintro (h | ⟨rfl, _⟩) <;> omega
        · intro h; cases h
      · rw [if_neg h2, ← less_cmpL x y]
        have : a = b := UInt8.toNat_inj.mp (by omega)
        subst this
        simp
theorem cmpL_three : ∀ (x y : List UInt8), cmpL x y = -1 ∨ cmpL x y = 0 ∨ cmpL x y = 1
  | [], [] => by simp [cmpL]
  | [], _ :: _ => by simp [cmpL]
  | _ :: _, [] => by simp [cmpL]
  | a :: x, b :: y => by
    simp only [cmpL]
    split
    · simp
    · split
      · simp
      · exact cmpL_three x y
theorem cmpF_lt {a b : List UInt8} {x y : ByteArray} (hx : x = bs (foldL a)) (hy : y = bs (foldL b)) (h : Op.bytesLess x.toList y.toList = true) : cmpF a b = -1 := by
  subst hx hy
  rw [ByteArray.toList_eq, ByteArray.toList_eq] at h
  exact (less_cmpL _ _).1 h
theorem cmpF_eq {a b : List UInt8} {x y : ByteArray} (hx : x = bs (foldL a)) (hy : y = bs (foldL b)) (h : (!x.toList == y.toList) = false) : cmpF a b = 0 := by
  subst hx hy
  rw [beq_bs] at h
  simp at h
  exact cmpL_zero.2 h
theorem cmpF_gt {a b : List UInt8} {x y : ByteArray} (hx : x = bs (foldL a)) (hy : y = bs (foldL b)) (h : Op.bytesLess x.toList y.toList = false) (h2 : (!x.toList == y.toList) = true) : cmpF a b = 1 := by
  subst hx hy
  rw [ByteArray.toList_eq, ByteArray.toList_eq] at h
  rw [beq_bs] at h2
  simp at h2
  rcases cmpL_three (foldL a) (foldL b) with h3 | h3 | h3
  · have := (less_cmpL (foldL a) (foldL b)).2 h3
    rw [bs_toList, bs_toList] at h
    rw [h] at this; cases this
  · exact absurd (cmpL_zero.1 h3) h2
  · exact h3

end Go.Proofs.YtmoioihclnpcbaaDoor
