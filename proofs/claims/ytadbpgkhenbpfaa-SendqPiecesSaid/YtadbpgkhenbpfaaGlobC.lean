/- strings.Index, Contains, Cut with one byte. -/
import Derived.Test.YtadbpgkhenbpfaaGlobB
import Derived.Lib.IndexAny
namespace Go.Proofs.Ytadbpgkhenbpfaa
open Go.RowKit



theorem idx_bool (l : List UInt8) (c : UInt8) : decide (Lib.indexByte l c ≥ 0) = l.contains c := by
  have h1 := Lib.contains_iff_indexByte l c
  rw [h1]

theorem idx_lt {l : List UInt8} {c : UInt8} {o : Nat} (h : Lib.indexByte l c = o) : o < l.length := by
  have := (Lib.indexByte_some h).1
  exact (List.getElem?_eq_some_iff.1 this).1

end Go.Proofs.Ytadbpgkhenbpfaa
