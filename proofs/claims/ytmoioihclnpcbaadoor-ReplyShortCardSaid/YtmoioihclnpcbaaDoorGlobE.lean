/- glob.Complete. -/
import Derived.Test.YtmoioihclnpcbaaDoorGlobD
namespace Go.Proofs.YtmoioihclnpcbaaDoor
open Go.RowKit

def starL (l : List UInt8) : List UInt8 := if l.length = 0 then [42] else l
theorem starB_data (s : ByteArray) : (starB s).data.toList = starL s.data.toList := by
  unfold starB starL
  rw [len_ba]
  by_cases h : s.size = 0
  · rw [if_pos h, if_pos h]
  · rw [if_neg h, if_neg h]
def cutL (l : List UInt8) (c : UInt8) : List UInt8 × List UInt8 := if Lib.indexByte l c = -1 then (l, []) else (l.take (Lib.indexByte l c).toNat, l.drop ((Lib.indexByte l c).toNat + 1))
/-- three parts, as one mask -/
def joinL (n u h : List UInt8) : List UInt8 := starL n ++ [33] ++ starL u ++ [64] ++ starL h


theorem drewN_two {w w1 w2 : World} (h : ∃ n, w1 = w.drewN n) (h2 : ∃ n, w2 = w1.drewN n) : ∃ n, w2 = w.drewN n := by
  obtain ⟨n, rfl⟩ := h; obtain ⟨m, rfl⟩ := h2; exact ⟨n + m, by rw [World.drewN_drewN]⟩
theorem drewN_none (w : World) : ∃ n, w = w.drewN n := ⟨0, rfl⟩
theorem join_data {x y z : ByteArray} {n u h : List UInt8} (hx : x.data.toList = starL n) (hy : y.data.toList = starL u) (hz : z.data.toList = starL h) : (x ++ ⟨#[33]⟩ ++ y ++ ⟨#[64]⟩ ++ z).data.toList = joinL n u h := by
  unfold joinL
  simp [hx, hy, hz]
theorem size_ex {s : ByteArray} (a b : Nat) (hs : s.size ≤ 1000000) : (s.extract a b).size ≤ 1000000 := by simp [ByteArray.size_extract]; omega











end Go.Proofs.YtmoioihclnpcbaaDoor
