/- Both Completes give one answer. -/
import Derived.Test.YtmoioihclnpcbaaDoorGlobF
namespace Go.Proofs.YtmoioihclnpcbaaDoor
open Go.RowKit

theorem idx_cases (l : List UInt8) (c : UInt8) : Lib.indexByte l c = -1 ∨ ∃ k : Nat, Lib.indexByte l c = k := by
  have h := Lib.indexByte_ge l c
  by_cases e : Lib.indexByte l c = -1
  · exact .inl e
  · exact .inr ⟨(Lib.indexByte l c).toNat, by omega⟩
theorem idx_of {l : List UInt8} {c : UInt8} {k : Nat} (h : l[k]? = some c) (hn : ∀ j, j < k → l[j]? ≠ some c) : Lib.indexByte l c = k := by
  rcases idx_cases l c with e | ⟨o, e⟩
  · exact absurd h (Lib.indexByte_none e k)
  · have ⟨h1, h2⟩ := Lib.indexByte_some e
    rcases Nat.lt_trichotomy o k with h3 | h3 | h3
    · exact absurd h1 (hn o h3)
    · rw [e, h3]
    · exact absurd h (h2 k h3)
theorem idx_none {l : List UInt8} {c : UInt8} (hn : ∀ j : Nat, l[j]? ≠ some c) : Lib.indexByte l c = -1 := by
  rcases idx_cases l c with e | ⟨o, e⟩
  · exact e
  · exact absurd (Lib.indexByte_some e).1 (hn o)
theorem idx_drop {l : List UInt8} {c : UInt8} {a b : Nat} (h : Lib.indexByte l c = a) (hb : b < a) : Lib.indexByte (l.drop (b + 1)) c = ((a - (b + 1) : Nat) : Int) := by
  have ⟨h1, h2⟩ := Lib.indexByte_some h
  refine idx_of ?_ fun j hj => ?_
  · rw [List.getElem?_drop, show b + 1 + (a - (b + 1)) = a by omega]; exact h1
  · rw [List.getElem?_drop]; exact h2 _ (by omega)
theorem idx_drop_none {l : List UInt8} {c : UInt8} (k : Nat) (h : Lib.indexByte l c = -1) : Lib.indexByte (l.drop k) c = -1 :=
  idx_none fun j => by rw [List.getElem?_drop]; exact Lib.indexByte_none h _
theorem contains_take {l : List UInt8} {c : UInt8} {a b : Nat} (h : Lib.indexByte l c = a) (hb : a < b) : (l.take b).contains c = true := by
  rw [List.contains_iff_mem]
  have ⟨h1, _⟩ := Lib.indexByte_some h
  exact List.mem_of_getElem? (i := a) (by rw [List.getElem?_take_of_lt hb]; exact h1)
theorem contains_take_no {l : List UInt8} {c : UInt8} {b : Nat} (h : ∀ j, j < b → l[j]? ≠ some c) : (l.take b).contains c = false := by
  rw [Bool.eq_false_iff, ne_eq, List.contains_iff_mem]
  intro hm
  obtain ⟨j, hj⟩ := List.mem_iff_getElem?.1 hm
  by_cases e : j < b
  · rw [List.getElem?_take_of_lt e] at hj; exact h j e hj
  · rw [List.getElem?_take_eq_none (by omega)] at hj; cases hj
theorem contains_all {l : List UInt8} {c : UInt8} {a : Nat} (h : Lib.indexByte l c = a) : l.contains c = true := by
  have := contains_take h (b := l.length) (idx_lt h)
  rwa [List.take_length] at this
theorem contains_none {l : List UInt8} {c : UInt8} (h : Lib.indexByte l c = -1) : l.contains c = false := by
  have := contains_take_no (l := l) (c := c) (b := l.length) fun j _ => Lib.indexByte_none h j
  rwa [List.take_length] at this

/-- a mask as a whole one -/
def compS (s : ByteArray) : List UInt8 :=
  let b := Lib.indexByte s.data.toList 33
  let a := Lib.indexByte s.data.toList 64
  if a = -1 then
    if b = -1 then joinL s.data.toList [] [] else joinL (s.extract 0 b.toNat).data.toList (s.extract (b.toNat + 1) s.size).data.toList []
  else if b = -1 ∨ a < b then joinL [] (s.extract 0 a.toNat).data.toList (s.extract (a.toNat + 1) s.size).data.toList
  else joinL (s.extract 0 b.toNat).data.toList (s.extract (b.toNat + 1) a.toNat).data.toList (s.extract (a.toNat + 1) s.size).data.toList


end Go.Proofs.YtmoioihclnpcbaaDoor
