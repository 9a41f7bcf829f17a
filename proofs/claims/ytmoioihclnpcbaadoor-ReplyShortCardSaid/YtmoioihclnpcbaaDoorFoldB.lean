/- fold.Compare: which of two texts stands ahead. -/
import Derived.Test.YtmoioihclnpcbaaDoorFoldA
import Derived.Deep.QuietTactic
import Derived.BigQuiet
import Derived.Outline
namespace Go.Proofs.YtmoioihclnpcbaaDoor
open Go.RowKit

def foldL (l : List UInt8) : List UInt8 := l.map foldB
@[simp] theorem foldL_nil : foldL [] = [] := rfl
@[simp] theorem foldL_cons (x : UInt8) (l : List UInt8) : foldL (x :: l) = foldB x :: foldL l := rfl
@[simp] theorem foldL_length (l : List UInt8) : (foldL l).length = l.length := by simp [foldL]
@[simp] theorem foldL_append (a b : List UInt8) : foldL (a ++ b) = foldL a ++ foldL b := by simp [foldL]

/-- which of two rows of bytes stands ahead -/
def cmpL : List UInt8 → List UInt8 → Int
  | [], [] => 0
  | [], _ :: _ => -1
  | _ :: _, [] => 1
  | x :: xs, y :: ys => if x.toNat < y.toNat then -1 else if y.toNat < x.toNat then 1 else cmpL xs ys

theorem ba_drop (s : ByteArray) (k : Nat) (h : k < s.size) : s.data.toList.drop k = s[k] :: s.data.toList.drop (k + 1) := by
  rw [List.drop_eq_getElem_cons (by simpa using h)]; rfl
theorem ba_drop_end (s : ByteArray) (k : Nat) (h : s.size ≤ k) : s.data.toList.drop k = [] := by
  rw [List.drop_eq_nil_iff]; simpa using h
theorem ba_take (s : ByteArray) (k : Nat) (h : k < s.size) : s.data.toList.take (k + 1) = s.data.toList.take k ++ [s[k]] := by
  rw [List.take_succ_eq_append_getElem (by simpa using h)]; rfl
theorem ba_len (s : ByteArray) : s.data.toList.length = s.size := by simp

/-- two texts, folded, from a place on -/
def cmpAt (a b : ByteArray) (k : Nat) : Int := cmpL (foldL (a.data.toList.drop k)) (foldL (b.data.toList.drop k))
theorem cmpAt_stop {a b : ByteArray} {k : Nat} (ha : k < a.size) (hb : k < b.size) (h : cmpI ↑(foldB a[k]).toNat ↑(foldB b[k]).toNat ≠ 0) :
    cmpI ↑(foldB a[k]).toNat ↑(foldB b[k]).toNat = cmpAt a b k := by
  unfold cmpAt
  rw [ba_drop a k ha, ba_drop b k hb]
  simp only [foldL_cons, cmpL]
  unfold cmpI at *
  split
  · rw [if_pos (by omega)]
  · rename_i h1
    rw [if_neg h1] at h
    split
    · rw [if_neg (by omega), if_pos (by omega)]
    · rename_i h2; rw [if_neg h2] at h; exact absurd rfl h
theorem cmpAt_step {a b : ByteArray} {k : Nat} (ha : k < a.size) (hb : k < b.size) (h : cmpI ↑(foldB a[k]).toNat ↑(foldB b[k]).toNat = 0) :
    cmpAt a b (k + 1) = cmpAt a b k := by
  unfold cmpAt
  rw [ba_drop a k ha, ba_drop b k hb]
  simp only [foldL_cons, cmpL]
  unfold cmpI at h
  split at h
  · cases h
  · split at h
    · cases h
    · rw [if_neg (by omega), if_neg (by omega)]
theorem cmpAt_end {a b : ByteArray} {k : Nat} (h : k = a.size ∨ k = b.size) (ha : k ≤ a.size) (hb : k ≤ b.size) : cmpI ↑a.size ↑b.size = cmpAt a b k := by
  unfold cmpAt
  by_cases h1 : k < a.size
  · rw [ba_drop a k h1, ba_drop_end b k (by omega), cmpI_gt (by omega)]; rfl
  · rw [ba_drop_end a k (by omega)]
    by_cases h2 : k < b.size
    · rw [ba_drop b k h2, cmpI_lt (by omega)]; rfl
    · rw [ba_drop_end b k (by omega), cmpI_eq (by omega)]; rfl





/-- what compares two texts, folded -/
def cmpF (a b : List UInt8) : Int := cmpL (foldL a) (foldL b)
end Go.Proofs.YtmoioihclnpcbaaDoor
