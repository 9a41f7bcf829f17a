/- glob.meansByte; strings.Trim with one byte. -/
import Derived.Test.YtmoioihclnpcbaaDoorGlobM
import Derived.Test.YtmoioihclnpcbaaDoorValidA
import Derived.Test.YtmoioihclnpcbaaDoorFoldD
import Derived.Shelf.RegionOpenPlain
namespace Go.Proofs.YtmoioihclnpcbaaDoor
open Go.RowKit

theorem u8_beq (a b : UInt8) : ((a.toNat : Int) == (b.toNat : Int)) = (a == b) := by
  rw [Bool.eq_iff_iff, beq_iff_eq, beq_iff_eq]
  constructor
  · intro h; exact UInt8.toNat_inj.mp (by omega)
  · intro h; rw [h]


/-- what a text is behind the bytes at its end that are one -/
def dropEnd (c : UInt8) (l : List UInt8) : List UInt8 := (l.reverse.dropWhile (· == c)).reverse
/-- are all bytes so? -/
def allC (c : UInt8) (l : List UInt8) : Bool := l.all (· == c)

def strSize : Value → Nat
  | .string s => s.size
  | _ => 0
theorem allC_at {c : UInt8} {s : ByteArray} (h : allC c s.data.toList = true) (k : Nat) (hk : k < s.size) : s[k] = c := by
  have := List.all_eq_true.1 h s[k] (by
    have e : s[k] = s.data.toList[k]'(by simpa using hk) := rfl
    rw [e]; exact List.getElem_mem _)
  simpa using this
theorem allC_head {c : UInt8} {s : ByteArray} (hk : 0 < s.size) (h : s[0] = c) : allC c (s.extract 1 s.size).data.toList = allC c s.data.toList := by
  rw [ba_extract_to]
  have e := List.drop_eq_getElem_cons (l := s.data.toList) (i := 0) (by simpa using hk)
  rw [List.drop_zero] at e
  have e0 : s.data.toList[0]'(by simpa using hk) = c := h
  rw [e0] at e
  unfold allC
  conv => rhs; rw [e]
  simp
theorem allC_last {c : UInt8} {s : ByteArray} {n : Nat} (hk : s.size = n + 1) (h : s[n]'(by omega) = c) : allC c (s.extract 0 n).data.toList = allC c s.data.toList := by
  rw [Lib.extract_data]
  have hl : s.data.toList.length = n + 1 := by simpa using hk
  have e : s.data.toList = s.data.toList.take n ++ [c] := by
    have := List.take_succ_eq_append_getElem (l := s.data.toList) (i := n) (by omega)
    rw [List.take_of_length_le (by omega)] at this
    rw [this]
    congr 2
  unfold allC
  conv => rhs; rw [e]
  simp




theorem empty_stars {r : ByteArray} (h : stars r.data.toList = true → r.size = 0) : r.toList.isEmpty = stars r.data.toList := by
  cases e : stars r.data.toList with
  | true => exact str_em (h e)
  | false =>
    refine str_ne ?_
    rcases Nat.eq_zero_or_pos r.size with h0 | h0
    · rw [str_nil h0] at e; cases e
    · exact h0

end Go.Proofs.YtmoioihclnpcbaaDoor
