/- glob.orStar, Complete, Cut; the answers' index, star. -/
import Derived.Test.YtmoioihclnpcbaaDoorGlobC
namespace Go.Proofs.YtmoioihclnpcbaaDoor
open Go.RowKit

/-- a part, or a star -/
def starB (s : ByteArray) : ByteArray := if s.size = 0 then ⟨#[42]⟩ else s



/-- where a byte stands first, from a place on -/
def ixFrom (l : List UInt8) (c : UInt8) (k : Nat) : Int := if Lib.indexByte (l.drop k) c = -1 then -1 else Lib.indexByte (l.drop k) c + k
theorem ixFrom_hit {s : ByteArray} {c : UInt8} {k : Nat} (h : k < s.size) (e : s[k] = c) : ixFrom s.data.toList c k = k := by
  unfold ixFrom
  rw [List.drop_eq_getElem_cons (by simpa using h), get_ba s k h]
  simp [Lib.indexByte, e]
theorem ixFrom_next {s : ByteArray} {c : UInt8} {k : Nat} (h : k < s.size) (e : s[k] ≠ c) : ixFrom s.data.toList c k = ixFrom s.data.toList c (k + 1) := by
  unfold ixFrom
  rw [List.drop_eq_getElem_cons (by simpa using h), get_ba s k h]
  have hb : (s[k] == c) = false := by simpa using e
  simp only [Lib.indexByte, hb]
  by_cases h1 : Lib.indexByte (List.drop (k + 1) s.data.toList) c = -1
  · simp [h1]
  · have hge := Lib.indexByte_ge (List.drop (k + 1) s.data.toList) c
    have hb1 : (Lib.indexByte (List.drop (k + 1) s.data.toList) c == -1) = false := by simpa using h1
    simp only [hb1, Bool.false_eq_true, if_false, h1]
    rw [if_neg (by omega)]
    push_cast; omega
theorem ixFrom_end {s : ByteArray} {c : UInt8} {k : Nat} (h : s.size ≤ k) : ixFrom s.data.toList c k = -1 := by
  unfold ixFrom
  rw [List.drop_eq_nil_of_le (by simpa using h)]
  simp [Lib.indexByte]

end Go.Proofs.YtmoioihclnpcbaaDoor
